/- The page's own answers for layer 7: Count. -/
import Derived.Test.YtnljepnmajcmgaaHRef3
namespace Go.Proofs.Ytnljepnmajcmgaa
open Go.RowKit

theorem sumR_app (A B : List Nat) : sumR (A ++ B) = sumR A + sumR B := by
  induction A with
  | nil => simp [sumR]
  | cons a t ih => simp only [List.cons_append, sumR, ih]; omega
theorem wrap_u64 (x : Int) : IntKind.u64.wrap x = x % 18446744073709551616 := by simp [IntKind.wrap, IntKind.signed, IntKind.bits]
theorem pow_u64 (y z : Nat) (hz : z ≤ 256 * 4294967296) : IntKind.u64.wrap ((z : Int) + IntKind.u64.wrap (2 ^ (32 - if (y : Int) < 32 then (y : Int) else 32).toNat)) = ((z + 2 ^ (32 - min 32 y) : Nat) : Int) := by
  have e : (32 - if (y : Int) < 32 then (y : Int) else 32).toNat = 32 - min 32 y := by split <;> omega
  rw [e]
  obtain ⟨k, hk⟩ : ∃ k, 32 - min 32 y = k := ⟨_, rfl⟩
  have hk32 : k ≤ 32 := by omega
  rw [hk]
  have hp : 2 ^ k ≤ 2 ^ 32 := Nat.pow_le_pow_right (by decide) hk32
  have hc : ((2 : Int) ^ k) = ((2 ^ k : Nat) : Int) := by push_cast; rfl
  obtain ⟨t, ht⟩ : ∃ t, 2 ^ k = t := ⟨_, rfl⟩
  rw [hc, ht]
  rw [ht] at hp
  have e32 : (2 : Nat) ^ 32 = 4294967296 := by decide
  rw [e32] at hp
  clear hc ht e hk e32
  rw [wrap_u64, wrap_u64]
  omega
theorem num_u64 (k z : Nat) (hk : k * k ≤ 65536) : IntKind.u64.wrap ((IntKind.u64.wrap (IntKind.u64.wrap (7 * (k : Int) * (k : Int)) * 4294967296)).tdiv (10 * (z : Int))) = ((7 * k * k * 4294967296 / (10 * z) : Nat) : Int) := by
  have e0 : (7 * (k : Int) * (k : Int)) = ((7 * (k * k) : Nat) : Int) := by push_cast; rw [Int.mul_assoc]
  have e00 : 7 * k * k = 7 * (k * k) := Nat.mul_assoc _ _ _
  rw [e0, e00]
  generalize k * k = q at hk
  have f1 : IntKind.u64.wrap ((7 * q : Nat) : Int) = ((7 * q : Nat) : Int) := by rw [wrap_u64]; omega
  have f2 : IntKind.u64.wrap (((7 * q : Nat) : Int) * 4294967296) = ((7 * q * 4294967296 : Nat) : Int) := by rw [wrap_u64]; omega
  have f3 : (10 * (z : Int)) = ((10 * z : Nat) : Int) := by push_cast; rfl
  rw [f1, f2, f3, ← Int.ofNat_tdiv, wrap_u64]
  have := Nat.div_le_self (7 * q * 4294967296) (10 * z)
  generalize 7 * q * 4294967296 / (10 * z) = d at this
  omega
set_option maxHeartbeats 4000000 in
set_option maxRecDepth 100000 in
theorem pCount_any (b : Int) (R : List Nat) (w : World) (hR : byteL R) (hn : R.length ≤ 1000) :
    Calls Try.prog 28 #[.agg #[.int .i64 b, .string (regS R)]] w fun e w' => e = .returned (nV (countH b R)) ∧ Below w.heap.size w w' := by
  have C1 := Lib.hid (fun W => pRight_any b R W hR hn)
  have hx0 := HasC.new w 23 #[.int .i64 b, .string (regS R)]
  have hb0 := (Below.refl w.heap.size w).alloc (Nat.le_refl _) (Obj.cells #[.int .i64 b, .string (regS R)] 23)
  obtain ⟨m, hm⟩ : ∃ m, m = R.length := ⟨_, rfl⟩
  have hsz : (regS R).size = m := by rw [hm, regS_size]
  have HM := Lib.hid hm
  rw [← hm] at hn
  clear hm
  cases hq : rightR b R with
  | false =>
    rw [hq] at C1
    have hv : countH b R = 0 := by unfold countH; rw [hq]; rfl
    have HV := Lib.hid hv
    clear hq hv
    go_enter Try.func28, Try.ntmps28
    go_wp2_with fail
    go_loopw [3, 4, 5] (fun s q i wr => s = .int .u64 0 ∧ q = .bool false ∧ i = .int .i64 0 ∧ HasC wr w.heap.size 23 #[.int .i64 b, .string (regS R)] ∧ Below w.heap.size w wr) (fun _ _ _ _ => 0)
    case atStart => exact ⟨rfl, rfl, rfl, hx0, hb0⟩
    case round =>
      obtain ⟨rfl, rfl, rfl, hx, hbel⟩ := hrel
      have k0 := hx.cell 0
      have k1 := hx.cell 1
      by_cases h0 : (0 : Int) < (m : Int)
      · go_wp2_with fail
        with_reducible refine (C1.out _).mono ?_
        rintro e w2 ⟨rfl, hb⟩
        have hbel := hbel.trans (hb.mono hbel.size)
        go_wp2_with fail
        go_ret
        exact ⟨by rw [HV.out]; rfl, hbel⟩
      · go_wp2_with fail
        go_ret
        exact ⟨by rw [HV.out]; rfl, hbel⟩
  | true =>
    rw [hq] at C1
    obtain ⟨n, rfl, h3, h8, hlen, hle⟩ := right_parts7 hq
    have HLE := Lib.hid hle
    have hm256 : m ≤ 256 := by have := HM.out; rw [this, hlen]; exact pow_le8 h8
    have hm8 : 8 ≤ m := by have := HM.out; rw [this, hlen]; exact Nat.pow_le_pow_right (show 0 < 2 by decide) h3
    have HQ := Lib.hid hq
    clear hq hlen hle
    go_enter Try.func28, Try.ntmps28
    go_wp2_with fail
    go_loopw [3, 4, 5] (fun s q i wr => ∃ k t z : Nat, k ≤ m ∧ s = .int .u64 (z : Int) ∧ Hid (z = sumR (R.take k)) ∧ (∃ f, q = .bool f ∧ Hid ((R.take k).any (fun r => decide (0 < r)) = f)) ∧ i = .int .i64 k ∧ HasC wr w.heap.size 23 #[.int .i64 n, .string (regS R)] ∧ Below w.heap.size w wr) (fun _ _ i _ => m - (intOf i).toNat)
    case atStart => exact ⟨0, 0, 0, Nat.zero_le _, rfl, by show 0 = sumR (R.take 0); rw [List.take_zero]; rfl, ⟨false, rfl, by rw [List.take_zero]; rfl⟩, rfl, hx0, hb0⟩
    case round =>
      obtain ⟨k, _, z, hk, rfl, hz, ⟨f, rfl, hf⟩, rfl, hx, hbel⟩ := hrel
      clear hx0 hb0
      have k0 := hx.cell 0
      have k1 := hx.cell 1
      have hzb : z ≤ k * 4294967296 := by
        rw [hz.out]
        have := sum_le (R.take k)
        rw [List.length_take] at this
        exact Nat.le_trans this (Nat.mul_le_mul_right _ (by omega))
      by_cases hlt : k < m
      · have hkR : k < R.length := by have := HM.out; omega
        have hds : k < (regS R).size := by rw [regS_size]; exact hkR
        have hat := regS_get R hR k hkR hds
        have htk : R.take (k + 1) = R.take k ++ [R[k]] := List.take_succ_eq_append_getElem hkR
        have hy65 : R[k] ≤ 65 - n := HLE.out _ (List.getElem_mem hkR)
        obtain ⟨y, hy⟩ : ∃ y, R[k] = y := ⟨_, rfl⟩
        rw [hy] at hat htk hy65
        have hy256 : y ≤ 65 := Nat.le_trans hy65 (Nat.sub_le 65 n)
        have hw := wrap64_small (y := (y : Int)) (by omega) (by omega)
        have HT := Lib.hid htk
        clear htk hy hy65
        go_wp2_with fail
        with_reducible refine (C1.out _).mono ?_
        rintro e w2 ⟨rfl, hb⟩
        have hx := hx.below hb hx.lt
        have hbel := hbel.trans (hb.mono hbel.size)
        clear k0 k1 hb
        have k0 := hx.cell 0
        have k1 := hx.cell 1
        have hpz := pow_u64 y z (Nat.le_trans hzb (Nat.mul_le_mul_right _ (Nat.le_trans hk hm256)))
        have hz2 : Hid (z + 2 ^ (32 - min 32 y) = sumR (R.take (k + 1))) := by
          show _ = _
          rw [HT.out, sumR_app, ← hz.out]
          rfl
        have hany : Hid ((R.take (k + 1)).any (fun r => decide (0 < r)) = (f || decide (0 < y))) := by
          show _ = _
          rw [HT.out, List.any_append, hf.out]
          simp
        obtain ⟨g, hg⟩ : ∃ g, z + 2 ^ (32 - min 32 y) = g := ⟨_, rfl⟩
        rw [hg] at hpz hz2
        clear hg
        have HPZ := Lib.hid hpz
        clear hpz
        cases f with
        | true =>
          go_wp2_with fail
          go_roundw
          case rel => exact ⟨k + 1, 0, g, by omega, by rw [HPZ.out], hz2, ⟨true, rfl, hany⟩, by go_num, hx, hbel⟩
          case measure => simp [intOf]; omega
        | false =>
          by_cases hy0 : 0 < y
          · have hany2 : Hid ((R.take (k + 1)).any (fun r => decide (0 < r)) = true) := by show _ = _; rw [hany.out, decide_eq_true hy0]; rfl
            have hy0' : (0 : Int) < (y : Int) := by omega
            go_wp2_with fail
            go_roundw
            case rel => exact ⟨k + 1, 0, g, by omega, by rw [HPZ.out], hz2, ⟨true, rfl, hany2⟩, by go_num, hx, hbel⟩
            case measure => simp [intOf]; omega
          · have hany2 : Hid ((R.take (k + 1)).any (fun r => decide (0 < r)) = false) := by show _ = _; rw [hany.out, decide_eq_false hy0]; rfl
            have hy0' : ¬ (0 : Int) < (y : Int) := by omega
            go_wp2_with fail
            go_roundw
            case rel => exact ⟨k + 1, 0, g, by omega, by rw [HPZ.out], hz2, ⟨false, rfl, hany2⟩, by go_num, hx, hbel⟩
            case measure => simp [intOf]; omega
      · obtain rfl : k = m := by omega
        have hall : R.take k = R := List.take_of_length_le (by have := HM.out; omega)
        have hz1 := hz.out
        have hf1 := hf.out
        rw [hall] at hz1 hf1
        have hz0 : 1 ≤ z := by
          rw [hz1]
          exact sum_pos (fun e => by have := HM.out; rw [e] at this; simp at this; omega)
        have hv : countH (n : Int) R = if f then 7 * k * k * 4294967296 / (10 * z) else 0 := by
          unfold countH
          rw [HQ.out, hf1, ← HM.out, ← hz1, Bool.true_and]
        have HV := Lib.hid hv
        clear hv hz1 hf1 hall hz hf
        cases f with
        | false =>
          go_wp2_with fail
          go_ret
          exact ⟨by rw [HV.out]; rfl, hbel⟩
        | true =>
          have f1 : IntKind.u64.wrap (7 * (k : Int)) = ((7 * k : Nat) : Int) := by rw [wrap_u64]; omega
          have hke : k * k ≤ 65536 := Nat.mul_le_mul hm256 hm256
          have key := num_u64 k z hke
          have KEY := Lib.hid key
          clear key hke
          go_wp2_with fail
          rw [KEY.out]
          go_ret
          exact ⟨by rw [HV.out]; rfl, hbel⟩
end Go.Proofs.Ytnljepnmajcmgaa
