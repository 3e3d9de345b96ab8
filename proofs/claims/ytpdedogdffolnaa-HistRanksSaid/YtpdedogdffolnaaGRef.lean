/- The page's own answers for layer 9: digits, Bucket, Bounds; Plus. -/
import Derived.Test.YtpdedogdffolnaaRows
import Derived.Test.YtpdedogdffolnaaGTell
import Derived.Test.YtpdedogdffolnaaLaws
import Derived.Test.YtpdedogdffolnaaQuiet
import Derived.WalkKit
import Derived.RowKitTokens
import Derived.Lib.Hide
import Derived.BigQuiet
import Derived.OwnWalk
import Derived.OwnWalkIn
namespace Go.Proofs.Ytpdedogdffolnaa
open Go.RowKit

/-- A number, as a value. -/
abbrev gV (n : Nat) : Value := .int .u64 (n : Int)
theorem wrapU9 (x : Int) : IntKind.u64.wrap x = x % 18446744073709551616 := by simp [IntKind.wrap, IntKind.signed, IntKind.bits]
theorem wrapK9 (x : Int) (h0 : -9223372036854775808 ≤ x) (h1 : x < 9223372036854775808) : IntKind.i64.wrap x = x := by
  have : IntKind.i64.wrap x = if 9223372036854775808 ≤ x % 18446744073709551616 then x % 18446744073709551616 - 18446744073709551616 else x % 18446744073709551616 := by simp [IntKind.wrap, IntKind.signed, IntKind.bits]
  rw [this]; split <;> omega
set_option maxRecDepth 100000 in
theorem pPlus9_any (a b : Nat) (w : World) (hb : b ≤ topN) : Calls Try.prog 34 #[gV a, gV b] w fun e w' => e = .returned (gV (plusS a b)) ∧ w' = w := by
  have ht : topN = 18446744073709551615 := rfl
  have e1 : IntKind.u64.wrap (18446744073709551615 - (b : Int)) = 18446744073709551615 - (b : Int) := by rw [wrapU9]; omega
  by_cases h : 18446744073709551615 - (b : Int) < (a : Int)
  · have hv : plusS a b = 18446744073709551615 := by unfold plusS; omega
    have HV := Lib.hid hv
    clear hv hb ht
    go_enter Try.func34, Try.ntmps34
    go_wp2
    go_ret
    exact ⟨by rw [HV.out]; rfl, rfl⟩
  · have hv : plusS a b = a + b := by unfold plusS; omega
    have e2 : IntKind.u64.wrap ((a : Int) + (b : Int)) = ((a + b : Nat) : Int) := by rw [wrapU9]; omega
    have HV := Lib.hid hv
    have E2 := Lib.hid e2
    clear hv hb e2 ht
    go_enter Try.func34, Try.ntmps34
    go_wp2
    go_ret
    exact ⟨by rw [HV.out]; first | rfl | (rw [← E2.out]; rfl), rfl⟩
set_option maxHeartbeats 1000000 in
set_option maxRecDepth 100000 in
theorem pDigits_any (v : Nat) (w : World) (hv : v ≤ topN) : Calls Try.prog 42 #[gV v] w fun e w' => e = .returned (.int .i64 (digN v : Int)) ∧ w' = w := by
  have hd : digN v ≤ 64 := by
    unfold digN
    split
    · omega
    · rename_i h
      have := (Nat.log2_lt h (k := 64)).2 (by show v < 18446744073709551616; unfold topN at hv; omega)
      omega
  obtain ⟨d, hdd⟩ : ∃ d, d = digN v := ⟨_, rfl⟩
  rw [← hdd] at hd ⊢
  have h0 : Hid (0 + digN v = d) := by show _ = _; omega
  clear hdd
  go_enter Try.func42, Try.ntmps42
  go_wp2_with fail
  go_loopw [0, 3] (fun x i wr => ∃ u k : Nat, u ≤ topN ∧ x = gV u ∧ i = .int .i64 (k : Int) ∧ Hid (k + digN u = d) ∧ wr = w) (fun x _ _ => (intOf x).toNat)
  case atStart => exact ⟨v, 0, hv, rfl, rfl, h0, rfl⟩
  case round =>
    obtain ⟨u, k, hu, rfl, rfl, hs, rfl⟩ := hrel
    by_cases hlt : 0 < u
    · have hlt' : (0 : Int) < (u : Int) := by omega
      have hh := digN_half (show u ≠ 0 by omega)
      obtain ⟨t, ht⟩ : ∃ t, t = u / 2 := ⟨_, rfl⟩
      have hdv : ((u : Int) / 2) = (t : Int) := by omega
      have hdt : (u : Int).tdiv 2 = (t : Int) := by rw [Int.tdiv_eq_ediv_of_nonneg (by omega)]; exact hdv
      have htu : IntKind.u64.wrap (t : Int) = (t : Int) := by rw [wrapU9]; unfold topN at hu; omega
      have htt : t ≤ topN := by unfold topN at hu ⊢; omega
      have htl : t < u := by omega
      rw [← ht] at hh
      have hs2 : Hid (k + 1 + digN t = d) := by show _ = _; have := hs.out; omega
      have hk : k ≤ 64 := by have := hs.out; omega
      have hkw : IntKind.i64.wrap ((k : Int) + 1) = ((k + 1 : Nat) : Int) := by rw [wrapK9 _ (by omega) (by omega)]; omega
      clear hh ht
      go_wp2_with fail
      go_roundw
      case rel => exact ⟨t, k + 1, htt, rfl, by first | rfl | go_num, hs2, by first | trivial | rfl⟩
      case measure => simp [intOf]; omega
    · obtain rfl : u = 0 := by omega
      have hs' : k = d := by have := hs.out; unfold digN at this; simpa using this
      have hnl : ¬ (0 : Int) < ((0 : Nat) : Int) := by omega
      go_wp2_with fail
      go_ret
      exact ⟨by rw [← hs']; rfl, rfl⟩
end Go.Proofs.Ytpdedogdffolnaa
