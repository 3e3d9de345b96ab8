/- Package hll: the register that a number tells, and its rank. -/
import Derived.Test.YtnljepnmajcmgaaHC1
import Derived.Test.YtnljepnmajcmgaaHShelf
import Derived.BigQuiet
namespace Go.Proofs.Ytnljepnmajcmgaa
open Go.RowKit Go.Shelf

theorem bitLen_blen (m : Nat) (hm : m < 18446744073709551616) : Lib.bitLen m = blen m := by
  unfold blen
  split
  · rename_i h; subst h; rfl
  · rename_i h
    rw [Lib.bitLen_shift m.log2 m (Nat.log2_self_le h) hm]
    have h1 := Nat.lt_log2_self (n := m)
    have h2 := Nat.log2_self_le h
    have : m / 2 ^ m.log2 = 1 := by
      refine Nat.le_antisymm ?_ ((Nat.le_div_iff_mul_le (Nat.two_pow_pos _)).2 (by rw [Nat.one_mul]; exact h2))
      have := (Nat.div_lt_iff_lt_mul (Nat.two_pow_pos m.log2) (x := m) (y := 2)).2 (by rw [Nat.pow_succ, Nat.mul_comm] at h1; exact h1)
      omega
    rw [this]
    show m.log2 + 1 = _
    rfl
theorem blen_shift (m b : Nat) (h : m ≠ 0) : blen (m * 2 ^ b) = blen m + b := by
  have hp := Nat.two_pow_pos b
  have h1 := Nat.lt_log2_self (n := m)
  have h2 := Nat.log2_self_le h
  have hb : blen m = m.log2 + 1 := by unfold blen; rw [if_neg h]
  rw [hb, show m.log2 + 1 + b = (m.log2 + b) + 1 by omega]
  refine blen_top ?_ ?_
  · rw [Nat.pow_add]; exact Nat.mul_le_mul_right _ h2
  · rw [show m.log2 + b + 1 = (m.log2 + 1) + b by omega, Nat.pow_add]; exact Nat.mul_lt_mul_of_pos_right h1 hp
/-- A rank, as it is counted. -/
theorem rank_count (b x : Nat) (h1 : 1 ≤ b) (h2 : b ≤ 64) : (1 : Int) + min (64 - (blen (x * 2 ^ b % 18446744073709551616) : Int)) (64 - (b : Int)) = (rankP b x : Int) := by
  have e : x * 2 ^ b % 18446744073709551616 = (x % 2 ^ (64 - b)) * 2 ^ b := by
    rw [show (18446744073709551616 : Nat) = 2 ^ (64 - b) * 2 ^ b by rw [← Nat.pow_add, show 64 - b + b = 64 by omega], Nat.mul_mod_mul_right]
  rw [e]
  have hl := blen_le (Nat.mod_lt x (Nat.two_pow_pos (64 - b)))
  unfold rankP
  by_cases h0 : x % 2 ^ (64 - b) = 0
  · rw [h0, Nat.zero_mul]
    have : blen 0 = 0 := rfl
    rw [this]
    omega
  · rw [blen_shift _ _ h0]
    omega
set_option maxHeartbeats 2000000 in
set_option maxRecDepth 100000 in
theorem rank_any (m k : Nat) (w : World) (hm : m < 18446744073709551616) (hk : k ≤ 64) :
    Calls Try.prog 34 #[nV m, .int .i64 (k : Int)] w fun e w' => e = .returned (.int .i64 (1 + min (64 - (blen m : Int)) (k : Int))) ∧ w' = w := by
  have L1 := Lib.hid (Try.bits_LeadingZeros64 (m : Int) w (by omega) (by omega))
  have hl : blen m ≤ 64 := blen_le (show m < 2 ^ 64 from hm)
  rw [Int.toNat_natCast, bitLen_blen m hm] at L1
  obtain ⟨z, hz⟩ : ∃ z : Int, z = 64 - (blen m : Int) := ⟨_, rfl⟩
  rw [← hz] at L1 ⊢
  have hz1 : 0 ≤ z := by omega
  have hz2 : z ≤ 64 := by omega
  obtain ⟨q, hq⟩ : ∃ q : Int, q = (k : Int) := ⟨_, rfl⟩
  rw [← hq]
  have hq1 : 0 ≤ q := by omega
  have hq2 : q ≤ 64 := by omega
  clear hz hq hl hm hk
  rcases Int.lt_or_le q z with h | h
  · have e1 : min z q = q := by omega
    have e2 : wrap64 (1 + q) = 1 + q := by unfold wrap64; omega
    rw [e1]
    go_enter Try.func34, Try.ntmps34
    go_wp2_with fail
    with_reducible refine (L1.out).mono ?_
    rintro e w2 ⟨rfl, rfl⟩
    go_wp2_with fail
    go_ret
    exact ⟨rfl, rfl⟩
  · have e1 : min z q = z := by omega
    have e2 : wrap64 (1 + z) = 1 + z := by unfold wrap64; omega
    have e3 : ¬ q < z := by omega
    rw [e1]
    go_enter Try.func34, Try.ntmps34
    go_wp2_with fail
    with_reducible refine (L1.out).mono ?_
    rintro e w2 ⟨rfl, rfl⟩
    go_wp2_with fail
    go_ret
    exact ⟨rfl, rfl⟩
theorem wrap_u64' (x : Int) : IntKind.u64.wrap x = x % 18446744073709551616 := by simp [IntKind.wrap, IntKind.signed, IntKind.bits]
theorem wrap_i64 (x : Int) (h0 : -9223372036854775808 ≤ x) (h1 : x < 9223372036854775808) : IntKind.i64.wrap x = x := by
  have : IntKind.i64.wrap x = if 9223372036854775808 ≤ x % 18446744073709551616 then x % 18446744073709551616 - 18446744073709551616 else x % 18446744073709551616 := by simp [IntKind.wrap, IntKind.signed, IntKind.bits]
  rw [this]; split <;> omega
set_option maxHeartbeats 2000000 in
set_option maxRecDepth 100000 in
theorem hPlace_any' (b : Int) (x : Nat) (w : World) (hx : x < 18446744073709551616) :
    Calls Try.prog 17 #[.int .i64 b, nV x] w fun e w' => e = .returned (.tuple #[.int .i64 ((placeH b x).1 : Int), .int .i64 ((placeH b x).2 : Int)]) ∧ ∃ n, w' = w.drewN n := by
  have D1 := Lib.hid (digits_any b w)
  cases hq : okB b with
  | false =>
    rw [hq] at D1
    have hv : placeH b x = (0, 0) := by unfold placeH; rw [hq]; rfl
    have HV := Lib.hid hv
    clear hq hv
    go_enter Try.func17, Try.ntmps17
    go_wp2_with fail
    with_reducible refine (D1.out).mono ?_
    rintro e w1 ⟨⟨u, rfl, hu⟩, rfl⟩
    rcases hu with ⟨hu, _⟩ | ⟨_, s, rfl⟩
    · cases hu
    go_wp2_with fail
    with_reducible refine (errno_bad _ _).mono ?_
    rintro e w2 ⟨rfl, rfl⟩
    go_wp2_with fail
    go_ret2
    rw [HV.out]
    exact ⟨rfl, 0, rfl⟩
  | true =>
    rw [hq] at D1
    obtain ⟨n, rfl, h3, h8⟩ := okB_nat hq
    have hv : placeH (n : Int) x = (atP n x, rankP n x) := by unfold placeH; rw [hq, if_pos rfl, Int.toNat_natCast]
    have HV := Lib.hid hv
    have hrk := rank_count n x (by omega) (by omega)
    have hal := at_lt (b := n) (by omega) hx
    have hp := Nat.pow_le_pow_right (show 0 < 2 by decide) h8
    obtain ⟨q, hqn⟩ : ∃ q : Nat, q = 64 - n := ⟨_, rfl⟩
    have hw : IntKind.i64.wrap (64 - (n : Int)) = (q : Int) := by rw [wrap_i64 _ (by omega) (by omega)]; omega
    have hq0 : (0 : Int) ≤ (q : Int) := by omega
    have hq64 : (q : Int) ≤ 64 := by omega
    obtain ⟨at', hat⟩ : ∃ at' : Nat, at' = atP n x := ⟨_, rfl⟩
    have hdiv : (x : Int) / 2 ^ q = (at' : Int) := by rw [hat, hqn]; unfold atP; rw [Int.natCast_ediv, Int.natCast_pow]; rfl
    have hat1 : at' < 256 := by omega
    obtain ⟨sh, hsh⟩ : ∃ sh : Nat, sh = x * 2 ^ n % 18446744073709551616 := ⟨_, rfl⟩
    have hshw : IntKind.u64.wrap ((x : Int) * 2 ^ n) = (sh : Int) := by rw [hsh, wrap_u64', Int.natCast_emod, Int.natCast_mul, Int.natCast_pow]; rfl
    have hn0 : (0 : Int) ≤ (n : Int) := by omega
    have hn64 : (n : Int) ≤ 64 := by omega
    rw [← hsh, show (64 - (n : Int)) = (q : Int) by omega] at hrk
    have R1 := Lib.hid (fun W => rank_any sh q W (by omega) (by omega))
    rw [hrk] at R1
    have hcv : IntKind.i64.wrap (at' : Int) = (at' : Int) := wrap_i64 _ (by omega) (by omega)
    rw [← hat] at HV
    obtain ⟨rk, hrk'⟩ : ∃ rk : Nat, rk = rankP n x := ⟨_, rfl⟩
    rw [← hrk'] at R1 HV
    clear hq hv hrk hal hp hqn hat hsh hrk' h3 h8
    go_enter Try.func17, Try.ntmps17
    go_wp2_with fail
    with_reducible refine (D1.out).mono ?_
    rintro e w1 ⟨⟨u, rfl, hu⟩, rfl⟩
    rcases hu with ⟨_, rfl⟩ | ⟨hu, _⟩
    · go_wp2_with fail
      with_reducible refine (errno_ok _).mono ?_
      rintro e w2 ⟨rfl, rfl⟩
      go_wp2_with fail
      go_quiet ((with_reducible refine (R1.out _).mono ?_; rintro e w2 ⟨rfl, rfl⟩; exact ⟨rfl, _, rfl⟩))
      go_wp2_with fail
      go_ret2
      rw [HV.out]
      exact ⟨rfl, _, rfl⟩
    · cases hu
theorem hPlace_any (b : Int) (x : Nat) (w : World) (hx : x < 18446744073709551616) :
    Calls Try.prog 17 #[.int .i64 b, nV x] w fun e w' => e = .returned (.tuple #[.int .i64 ((placeH b x).1 : Int), .int .i64 ((placeH b x).2 : Int)]) ∧ Below w.heap.size w w' :=
  (hPlace_any' b x w hx).mono fun _ _ ⟨h, n, hw⟩ => ⟨h, hw ▸ bel_drewN (Below.refl _ w) n⟩
end Go.Proofs.Ytnljepnmajcmgaa
