/- Package hll: Count. -/
import Derived.Test.YtnljepnmajcmgaaHCLo
import Derived.Test.YtnljepnmajcmgaaHRef5
namespace Go.Proofs.Ytnljepnmajcmgaa
open Go.RowKit Go.Shelf

theorem pow_u64' (y z : Nat) (hz : z ≤ 256 * 4294967296) : IntKind.u64.wrap ((z : Int) + IntKind.u64.wrap (2 ^ (32 - min (y : Int) 32).toNat)) = ((z + 2 ^ (32 - min 32 y) : Nat) : Int) := by
  have e : (32 - min (y : Int) 32).toNat = (32 - if (y : Int) < 32 then (y : Int) else 32).toNat := by split <;> omega
  rw [e]
  exact pow_u64 y z hz
/-- The most that registers come to is what those of no numbers do. -/
theorem sum_full (R : List Nat) : sumR R = R.length * 4294967296 ↔ R.any (fun r => decide (0 < r)) = false := by
  induction R with
  | nil => simp [sumR]
  | cons r t ih =>
    have h1 := sum_le t
    unfold sumR
    rw [List.length_cons, List.any_cons, Bool.or_eq_false_iff, ← ih]
    by_cases hr : r = 0
    · subst hr
      have e : 2 ^ (32 - min 32 0) = 4294967296 := by decide
      rw [e]
      constructor
      · intro h
        exact ⟨by decide, by omega⟩
      · intro h
        omega
    · have e : 2 ^ (32 - min 32 r) ≤ 2 ^ 31 := Nat.pow_le_pow_right (by decide) (by omega)
      have e31 : (2 : Nat) ^ 31 = 2147483648 := by decide
      rw [e31] at e
      constructor
      · intro h
        omega
      · intro h
        have := of_decide_eq_false h.1
        omega
set_option maxHeartbeats 4000000 in
set_option maxRecDepth 100000 in
theorem sumOf_any (n : Nat) (R : List Nat) (w : World) (hq : rightR (n : Int) R = true) (hR : byteL R) :
    Calls Try.prog 39 #[.agg #[.int .i64 (n : Int), .string (regS R)]] w fun e w' => e = .returned (nV (sumR R)) ∧ Below w.heap.size w w' := by
  obtain ⟨n', hnn, h3, h8, hlen, hle⟩ := right_parts7 hq
  obtain rfl : n = n' := by omega
  obtain ⟨p, hp, hpw, hp8, hp256⟩ := pow_wrap h3 h8
  have hpl : p = R.length := by rw [hp, hlen]
  have hx0 := HasC.new w 23 #[.int .i64 (n : Int), .string (regS R)]
  have hb0 := (Below.refl w.heap.size w).alloc (Nat.le_refl _) (Obj.cells #[.int .i64 (n : Int), .string (regS R)] 23)
  have hsz : (regS R).size = p := by rw [regS_size, hpl]
  have HPL := Lib.hid hpl
  have HLE := Lib.hid hle
  have HX0 := Lib.hid hx0
  have HB0 := Lib.hid hb0
  clear hnn hlen hle hp hpl hq hx0 hb0
  go_enter Try.func39, Try.ntmps39
  go_wp2_with fail
  rw [hpw]
  clear hpw hp8
  go_loopw [3, 8] (fun s i wr => ∃ k z : Nat, k ≤ p ∧ s = .int .u64 (z : Int) ∧ Hid (z = sumR (R.take k)) ∧ i = .int .i64 k ∧ HasC wr w.heap.size 23 #[.int .i64 n, .string (regS R)] ∧ Below w.heap.size w wr) (fun _ i _ => p - (intOf i).toNat)
  case atStart => exact ⟨0, 0, Nat.zero_le _, rfl, by show 0 = sumR (R.take 0); rw [List.take_zero]; rfl, rfl, HX0.out, HB0.out⟩
  case round =>
    obtain ⟨k, z, hk, rfl, hz, rfl, hx, hbel⟩ := hrel
    have k0 := hx.cell 0
    have k1 := hx.cell 1
    have hzb : z ≤ k * 4294967296 := by
      rw [hz.out]
      have := sum_le (R.take k)
      rw [List.length_take] at this
      exact Nat.le_trans this (Nat.mul_le_mul_right _ (by omega))
    by_cases hlt : k < p
    · have hkR : k < R.length := by have := HPL.out; omega
      have hds : k < (regS R).size := by rw [regS_size]; exact hkR
      have hat := regS_get R hR k hkR hds
      have htk : R.take (k + 1) = R.take k ++ [R[k]] := List.take_succ_eq_append_getElem hkR
      obtain ⟨y, hy⟩ : ∃ y, R[k] = y := ⟨_, rfl⟩
      have hy256 : y < 256 := by rw [← hy]; exact hR _ (List.getElem_mem hkR)
      rw [hy] at hat htk
      have HT := Lib.hid htk
      clear htk hy
      go_wp2_with fail
      have hpz := pow_u64' y z (Nat.le_trans hzb (Nat.mul_le_mul_right _ (Nat.le_trans hk hp256)))
      go_roundw
      case rel =>
        rw [hpz]
        refine ⟨k + 1, _, by omega, rfl, ?_, by go_num, hx, hbel⟩
        show _ = _
        rw [HT.out, sumR_app, ← hz.out]
        rfl
      case measure => simp [intOf]; omega
    · obtain rfl : k = p := by omega
      have hall : R.take k = R := List.take_of_length_le (by have := HPL.out; omega)
      have hz1 := hz.out
      rw [hall] at hz1
      have HZ1 := Lib.hid hz1
      clear hz1 hall hz
      go_wp2_with fail
      go_ret
      exact ⟨by rw [← HZ1.out]; rfl, hbel⟩
set_option maxHeartbeats 4000000 in
set_option maxRecDepth 100000 in
theorem hCount_any (b : Int) (R : List Nat) (w : World) (hR : byteL R) (hn : R.length ≤ 300) :
    Calls Try.prog 27 #[.agg #[.int .i64 b, .string (regS R)]] w fun e w' => e = .returned (nV (countH b R)) ∧ Below w.heap.size w w' := by
  have C1 := Lib.hid (fun W => hRight_any b R W hR hn)
  have hx0 := HasC.new w 23 #[.int .i64 b, .string (regS R)]
  have hb0 := (Below.refl w.heap.size w).alloc (Nat.le_refl _) (Obj.cells #[.int .i64 b, .string (regS R)] 23)
  have HX0 := Lib.hid hx0
  have HB0 := Lib.hid hb0
  clear hx0 hb0
  cases hq : rightR b R with
  | false =>
    rw [hq] at C1
    have hv : countH b R = 0 := by unfold countH; rw [hq]; rfl
    have HV := Lib.hid hv
    clear hq hv
    go_enter Try.func27, Try.ntmps27
    go_wp2_with fail
    with_reducible refine (C1.out _).mono ?_
    rintro e w2 ⟨rfl, hb⟩
    have hb2 := HB0.out.trans (hb.mono HB0.out.size)
    go_wp2_with fail
    go_ret
    exact ⟨by rw [HV.out]; rfl, hb2⟩
  | true =>
    rw [hq] at C1
    obtain ⟨n, rfl, h3, h8, hlen, _⟩ := right_parts7 hq
    have S1 := Lib.hid (fun W => sumOf_any n R W hq hR)
    obtain ⟨m, hm⟩ : ∃ m, m = R.length := ⟨_, rfl⟩
    obtain ⟨z, hz⟩ : ∃ z, z = sumR R := ⟨_, rfl⟩
    have hsz : (regS R).size = m := by rw [hm, regS_size]
    have hm256 : m ≤ 256 := by rw [hm, hlen]; exact Nat.pow_le_pow_right (show 0 < 2 by decide) h8
    have hm8 : 8 ≤ m := by rw [hm, hlen]; exact Nat.pow_le_pow_right (show 0 < 2 by decide) h3
    have hzl : z ≤ m * 4294967296 := by rw [hz, hm]; exact sum_le R
    have hz1 : 1 ≤ z := by rw [hz]; exact sum_pos (fun e => by rw [hm, e] at hm8; simp at hm8)
    have hful := sum_full R
    rw [← hz, ← hm] at hful
    have hv : countH (n : Int) R = if R.any (fun r => decide (0 < r)) then 7 * m * m * 4294967296 / (10 * z) else 0 := by
      unfold countH
      rw [hq, Bool.true_and, ← hm, ← hz]
    rw [← hz] at S1
    obtain ⟨V, hV⟩ : ∃ V, V = countH (n : Int) R := ⟨_, rfl⟩
    rw [← hV] at hv ⊢
    obtain ⟨an, han⟩ : ∃ an, an = R.any (fun r => decide (0 < r)) := ⟨_, rfl⟩
    rw [← han] at hv hful
    clear hm hz hV han hq hlen h3 h8
    go_enter Try.func27, Try.ntmps27
    go_wp2_with fail
    with_reducible refine (C1.out _).mono ?_
    rintro e w2 ⟨rfl, hb⟩
    have hx2 := HX0.out.below hb (by simp)
    have hb2 := HB0.out.trans (hb.mono HB0.out.size)
    obtain ⟨D, hD0, hDon, hDk⟩ : ∃ D : World → Prop, D w2 ∧ (∀ W W', D W → Below W.heap.size W W' → D W') ∧ ∀ W, D W → HasC W w.heap.size 23 #[.int .i64 n, .string (regS R)] ∧ Below w.heap.size w W :=
      ⟨fun W => HasC W w.heap.size 23 #[.int .i64 n, .string (regS R)] ∧ Below w.heap.size w W, ⟨hx2, hb2⟩, fun W W' h hb => ⟨h.1.below hb h.1.lt, h.2.trans (hb.mono h.2.size)⟩, fun _ h => h⟩
    have E1 : ∀ i : InC D, i.w.cell? ⟨w.heap.size, 0, none⟩ = some (.int .i64 (n : Int)) := fun i => (hDk _ i.h).1.cell 0
    have E2 : ∀ i : InC D, i.w.cell? ⟨w.heap.size, 1, none⟩ = some (.string (regS R)) := fun i => (hDk _ i.h).1.cell 1
    have HD0 := Lib.hid (hDon _ _ hD0 ((Below.refl _ _).drew))
    have HDON := Lib.hid hDon
    have HDK := Lib.hid hDk
    clear hb hx2 hb2 hD0 hDon hDk
    have hcv : IntKind.u64.wrap (m : Int) = (m : Int) := by rw [wrap_u64]; omega
    go_wp2_with fail
    refine region_class D (by kernel_rfl) (by kernel_rfl) HD0.out ?_
    intro hne
    repeat (go_big_quiet_step (((with_reducible refine (S1.out _).mono ?_); rintro e w' ⟨rfl, hw⟩; exact ⟨rfl, ⟨_, HDON.out _ _ (InC.h _) hw⟩, rfl⟩)))
    refine wpQuiet_nil ?_
    intro i
    have hbf := (HDK.out _ i.h).2
    obtain ⟨W3, hW3⟩ : ∃ W3, i.w = W3 := ⟨_, rfl⟩
    rw [hW3] at hbf ⊢
    clear hW3 E1 E2 hne
    have HV := Lib.hid hv
    clear hv hsz
    cases an with
    | false =>
      have hzm : z = m * 4294967296 := hful.2 rfl
      have heq : ((z : Int) == (m : Int) * 4294967296) = true := by simp; omega
      clear hful hzm hzl
      go_wp2_with fail
      go_ret
      exact ⟨by rw [HV.out]; rfl, hbf⟩
    | true =>
      have hzm : z ≠ m * 4294967296 := fun h => by have := hful.1 h; cases this
      have heq : ((z : Int) == (m : Int) * 4294967296) = false := by simp; omega
      have hzt : IntKind.u64.wrap (10 * (z : Int)) = 10 * (z : Int) := by rw [wrap_u64]; omega
      have hz10 : ¬ (10 * (z : Int)) = 0 := by omega
      have hke : m * m ≤ 65536 := Nat.mul_le_mul hm256 hm256
      have KEY := Lib.hid (num_u64 m z hke)
      clear hful hzm hzl hke
      go_wp2_with fail
      rw [KEY.out]
      go_ret
      exact ⟨by rw [HV.out]; rfl, hbf⟩
end Go.Proofs.Ytnljepnmajcmgaa
