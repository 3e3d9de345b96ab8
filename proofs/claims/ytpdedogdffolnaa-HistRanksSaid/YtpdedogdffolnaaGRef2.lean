/- The page's own answers for layer 9: Bucket. -/
import Derived.Test.YtpdedogdffolnaaGRef
namespace Go.Proofs.Ytpdedogdffolnaa
open Go.RowKit

theorem pow8 {k : Nat} (h : k ≤ 3) : 2 ^ k ≤ 8 := by
  have := Nat.pow_le_pow_right (show 0 < 2 by decide) h
  omega
theorem wrap64_9 {x : Int} (h0 : -9223372036854775808 ≤ x) (h1 : x < 9223372036854775808) : wrap64 x = x := by unfold wrap64; omega
theorem nxt1 {x v s y : Nat} (h : y = 2 * x + v / 2 ^ s % 2) (hx : x < 8) : wrap64 (2 * (x : Int) + wrap64 (((v : Int) / 2 ^ s).tmod 2)) = (y : Int) := by
  obtain ⟨z, hz⟩ : ∃ z, z = v / 2 ^ s := ⟨_, rfl⟩
  have e : ((v : Int) / 2 ^ s) = (z : Int) := by rw [hz]; push_cast; rfl
  rw [← hz] at h
  rw [e, Int.tmod_eq_emod_of_nonneg (by omega), wrap64_9 (x := (z : Int) % 2) (by omega) (by omega), wrap64_9 (by omega) (by omega)]
  omega
set_option maxHeartbeats 2000000 in
set_option maxRecDepth 100000 in
theorem pBucket_any (f : Int) (v : Nat) (w : World) (hv : v ≤ topN) : Calls Try.prog 18 #[.int .i64 f, gV v] w fun e w' => e = .returned (.int .i64 (bucketI f v : Int)) ∧ w' = w := by
  have D1 := Lib.hid (fun W => pDigits_any v W hv)
  by_cases hlo : f < 0
  · have hb : bucketI f v = 0 := by unfold bucketI fineB; rw [decide_eq_false (by omega)]; rfl
    rw [hb]
    clear hb
    go_enter Try.func18, Try.ntmps18
    go_wp2_with fail
    go_ret
    exact ⟨rfl, rfl⟩
  · by_cases hhi : 3 < f
    · have hb : bucketI f v = 0 := by unfold bucketI fineB; rw [decide_eq_false (show ¬ f ≤ 3 by omega), Bool.and_false]; rfl
      rw [hb]
      clear hb
      go_enter Try.func18, Try.ntmps18
      go_wp2_with fail
      go_ret
      exact ⟨rfl, rfl⟩
    · obtain ⟨n, rfl⟩ : ∃ n : Nat, f = (n : Int) := ⟨f.toNat, by omega⟩
      have hn3 : n ≤ 3 := by omega
      by_cases h0 : v = 0
      · subst h0
        have hb : bucketI (n : Int) 0 = 0 := by unfold bucketI; rw [fineB_of hn3, if_pos rfl]; rfl
        rw [hb]
        clear hb D1
        go_enter Try.func18, Try.ntmps18
        go_wp2_with fail
        go_ret
        exact ⟨rfl, rfl⟩
      · have h0' : ((v : Int) == 0) = false := by simp [h0]
        have hb : bucketI (n : Int) v = 1 + v.log2 * 2 ^ n + (mantP n v - 2 ^ n) := by unfold bucketI; rw [fineB_of hn3, if_pos rfl, Int.toNat_natCast, bkt_pos h0]
        have he63 : v.log2 ≤ 63 := by
          have := (Nat.log2_lt h0 (k := 64)).2 (by show v < 18446744073709551616; unfold topN at hv; omega)
          omega
        have hd : digN v = v.log2 + 1 := by unfold digN; rw [if_neg h0]
        have hms : ∀ k, mantP (k + 1) v - 2 ^ (k + 1) = 2 * (mantP k v - 2 ^ k) + if k + 1 ≤ v.log2 then v / 2 ^ (v.log2 - 1 - k) % 2 else 0 := fun k => by
          have h1 := mant_lo (f := k) h0
          have h2 := mant_step k v
          have h3 : 2 ^ (k + 1) = 2 * 2 ^ k := by rw [Nat.pow_succ, Nat.mul_comm]
          omega
        have hml : ∀ k, k ≤ 3 → mantP k v - 2 ^ k < 8 := fun k hk => by
          have h1 := mant_hi (f := k) (v := v)
          have h2 := pow8 hk
          omega
        have hm0 : mantP 0 v - 2 ^ 0 = 0 := by rw [mant_zero v h0]
        obtain ⟨e, hee⟩ : ∃ e, e = v.log2 := ⟨_, rfl⟩
        obtain ⟨B, hB⟩ : ∃ B : Nat → Nat, B = fun k => mantP k v - 2 ^ k := ⟨_, rfl⟩
        have hms' : ∀ k, B (k + 1) = 2 * B k + if k + 1 ≤ e then v / 2 ^ (e - 1 - k) % 2 else 0 := by rw [hB, hee]; exact hms
        have hml' : ∀ k, k ≤ 3 → B k < 8 := by rw [hB]; exact hml
        have hm0' : B 0 = 0 := by rw [hB]; exact hm0
        have hb' : bucketI (n : Int) v = 1 + e * 2 ^ n + B n := by rw [hB, hee]; exact hb
        rw [hd, ← hee] at D1
        rw [← hee] at he63
        rw [hb']
        obtain ⟨q, hq⟩ : ∃ q, q = e * 2 ^ n := ⟨_, rfl⟩
        have hq512 : q ≤ 63 * 8 := by rw [hq]; exact Nat.mul_le_mul he63 (pow8 hn3)
        have hshl : IntKind.i64.wrap ((e : Int) * 2 ^ n) = (q : Int) := by
          have : ((e : Int) * 2 ^ n) = (q : Int) := by rw [hq]; push_cast; rfl
          rw [this]; exact wrapK9 _ (by omega) (by omega)
        rw [← hq]
        have hb1 : IntKind.i64.wrap (((e + 1 : Nat) : Int) - 1) = (e : Int) := by rw [wrapK9 _ (by omega) (by omega)]; omega
        have HMS := Lib.hid hms'
        have HML := Lib.hid hml'
        have HM0 := Lib.hid hm0'
        have HSH := Lib.hid hshl
        clear hb hd hms hml hm0 hee hB hms' hml' hm0' hb' hq hshl h0
        go_enter Try.func18, Try.ntmps18
        go_wp2_with fail
        with_reducible refine (D1.out _).mono ?_
        rintro e1 w1 ⟨rfl, rfl⟩
        go_wp2_with fail
        go_loopw [6, 7] (fun x i wr => ∃ k : Nat, k ≤ n ∧ x = .int .i64 ((B k : Nat) : Int) ∧ i = .int .i64 ((k + 1 : Nat) : Int) ∧ wr = w1) (fun _ i _ => n + 1 - (intOf i).toNat)
        case atStart => exact ⟨0, Nat.zero_le _, by rw [HM0.out]; rfl, rfl, rfl⟩
        case round =>
          obtain ⟨k, hk, rfl, rfl, rfl⟩ := hrel
          have hBk := HML.out k (by omega)
          by_cases hlt : k < n
          · have hle : ((k + 1 : Nat) : Int) ≤ (n : Int) := by omega
            have hnx := HMS.out k
            have hBk1 := HML.out (k + 1) (by omega)
            obtain ⟨x, hx⟩ : ∃ x, x = B k := ⟨_, rfl⟩
            obtain ⟨y, hy⟩ : ∃ y, y = B (k + 1) := ⟨_, rfl⟩
            rw [← hx] at hBk hnx ⊢
            rw [← hy] at hBk1 hnx
            have HY := Lib.hid hy
            have hkw : IntKind.i64.wrap (((k + 1 : Nat) : Int) + 1) = ((k + 1 + 1 : Nat) : Int) := by rw [wrapK9 _ (by omega) (by omega)]; omega
            have h2x : IntKind.i64.wrap (2 * (x : Int)) = ((2 * x : Nat) : Int) := by rw [wrapK9 _ (by omega) (by omega)]; omega
            by_cases hke : k + 1 ≤ e
            · rw [if_pos hke, show e - 1 - k = e - (k + 1) by omega] at hnx
              have HNX := Lib.hid hnx
              have HBK := Lib.hid hBk
              clear hx hy hnx HMS HML hkw h2x
              go_wp2_with fail
              go_roundw
              case rel => exact ⟨k + 1, by omega, by rw [← HY.out]; exact congrArg _ (nxt1 HNX.out HBK.out), by first | rfl | go_num, by first | trivial | rfl⟩
              case measure => simp [intOf]; omega
            · rw [if_neg hke] at hnx
              have HNX := Lib.hid hnx
              clear hx hy hnx HMS HML hkw h2x
              go_wp2_with fail
              go_roundw
              case rel => exact ⟨k + 1, by omega, by rw [← HY.out, HNX.out]; exact congrArg _ (by push_cast; omega), by first | rfl | go_num, by first | trivial | rfl⟩
              case measure => simp [intOf]; omega
          · obtain rfl : k = n := by omega
            have hnl : ¬ ((k + 1 : Nat) : Int) ≤ (k : Int) := by omega
            obtain ⟨x, hx⟩ : ∃ x, x = B k := ⟨_, rfl⟩
            rw [← hx] at hBk ⊢
            have hshl := HSH.out
            have hk0 : (0 : Int) ≤ (k : Int) := by omega
            have h1q : IntKind.i64.wrap (1 + (q : Int)) = ((1 + q : Nat) : Int) := by rw [wrapK9 _ (by omega) (by omega)]; omega
            have h1x : IntKind.i64.wrap (((1 + q : Nat) : Int) + (x : Int)) = ((1 + q + x : Nat) : Int) := by rw [wrapK9 _ (by omega) (by omega)]; omega
            have HX := Lib.hid hx
            clear hx HMS HML HM0
            go_wp2_with fail
            go_ret
            exact ⟨by rw [← HX.out]; rfl, rfl⟩
end Go.Proofs.Ytpdedogdffolnaa
