/- The page's own answers for layer 7: Add. -/
import Derived.Test.YtnljepnmajcmgaaHRef2
namespace Go.Proofs.Ytnljepnmajcmgaa
open Go.RowKit

/-- What right registers are. -/
theorem right_parts7 {b : Int} {R : List Nat} (h : rightR b R = true) : ∃ n : Nat, b = (n : Int) ∧ 3 ≤ n ∧ n ≤ 8 ∧ R.length = 2 ^ n ∧ ∀ r ∈ R, r ≤ 65 - n := by
  unfold rightR at h
  obtain ⟨h1, h2⟩ := (Bool.and_eq_true _ _).mp h
  obtain ⟨h2, h3⟩ := (Bool.and_eq_true _ _).mp h2
  obtain ⟨n, rfl, h4, h5⟩ := okB_nat h1
  refine ⟨n, rfl, h4, h5, by simpa using of_decide_eq_true h2, fun r hr => ?_⟩
  have := of_decide_eq_true (List.all_eq_true.1 h3 r hr)
  omega
theorem addR_set {b : Nat} {R : List Nat} {n : Nat} (h : atP b n < R.length) : addR b R n = R.set (atP b n) (max R[atP b n] (rankP b n)) := by
  unfold addR
  refine List.ext_getElem (by simp) fun i h1 h2 => ?_
  have hi : i < R.length := by simpa using h2
  rw [List.getElem_map, List.getElem_range, List.getElem_set]
  have hg : R.getD i 0 = R[i] := by rw [List.getD_eq_getElem?_getD, List.getElem?_eq_getElem hi]; rfl
  rw [hg]
  by_cases hh : i = atP b n
  · subst hh; simp
  · rw [if_neg hh, if_neg (Ne.symm hh)]
theorem pow_le8 {n : Nat} (h8 : n ≤ 8) : 2 ^ n ≤ 256 := Nat.pow_le_pow_right (show 0 < 2 by decide) h8
set_option maxHeartbeats 4000000 in
set_option maxRecDepth 100000 in
theorem pAdd_any (b : Int) (R : List Nat) (x : Nat) (w : World) (hR : byteL R) (hn : R.length ≤ 1000) (hx : x < 18446744073709551616) :
    Calls Try.prog 16 #[hV b R, nV x] w fun e w' => e = .returned (hT (addH b R x)) ∧ Below w.heap.size w w' := by
  obtain ⟨W1, hW1⟩ : ∃ W1, W1 = (w.alloc (Obj.cells #[.int .i64 b, .string (regS R)] 23)).alloc (Obj.cells #[.int .i64 0, .string { data := #[] }] 23) := ⟨_, rfl⟩
  have hb0 : Below w.heap.size w W1 := by rw [hW1]; exact ((Below.refl w.heap.size w).alloc (Nat.le_refl _) _).alloc (by simp) _
  have hx0 : HasC W1 w.heap.size 23 #[.int .i64 b, .string (regS R)] := by rw [hW1]; exact (HasC.new w _ _).alloc _
  have hr0 : HasC W1 (w.heap.size + 1) 23 #[.int .i64 0, .string { data := #[] }] := by rw [hW1]; exact HasC.at_ _ _ _ (by simp)
  have C1 := Lib.hid (pRight_any b R W1 hR hn)
  have HB := Lib.hid hb0
  have HX := Lib.hid hx0
  have HR0 := Lib.hid hr0
  unfold hV
  clear hb0 hx0 hr0
  subst hW1
  cases hq : rightR b R with
  | false =>
    rw [hq] at C1
    have hv : addH b R x = badR := by unfold addH; rw [hq]; rfl
    have HV := Lib.hid hv
    clear hq hv
    go_enter Try.func16, Try.ntmps16
    go_wp2_with fail
    with_reducible refine (C1.out).mono ?_
    rintro e w2 ⟨rfl, hb⟩
    have hb2 := HB.out.trans (hb.mono HB.out.size)
    have hr2 := HR0.out.below hb HR0.out.lt
    have c0 := hr2.cell 0
    have c1 := hr2.cell 1
    have z0 := hr2.frozen 0
    have z1 := hr2.frozen 1
    clear hb
    go_wp2_with fail
    have hr3 := ((hr2.set 0 (.int .i64 0)).set 1 (.string { data := #[] })).eq (cs' := #[.int .i64 0, .string { data := #[] }]) rfl
    refine bodyPost_ret (results_hll rfl _ _ (w.heap.size + 1) _ _ rfl hr3) rfl ?_
    rw [HV.out]
    exact ⟨rfl, (hb2.setCell (p := ⟨w.heap.size + 1, 0, none⟩) (by simp) _).setCell (p := ⟨w.heap.size + 1, 1, none⟩) (by simp) _⟩
  | true =>
    rw [hq] at C1
    obtain ⟨n, rfl, h3, h8, hlen, hle⟩ := right_parts7 hq
    have P1 := Lib.hid (fun W => pPlace_any (n : Int) x W hx)
    have hpl : placeH (n : Int) x = (atP n x, rankP n x) := by unfold placeH; rw [if_pos (okB_of h3 h8), Int.toNat_natCast]
    rw [hpl] at P1
    dsimp only at P1
    have hal : atP n x < R.length := by rw [hlen]; exact at_lt (by omega) hx
    have hv : addH (n : Int) R x = (((n : Int), R.set (atP n x) (max R[atP n x] (rankP n x))), 0) := by unfold addH; rw [if_pos hq, Int.toNat_natCast, addR_set hal]
    have hrk := rank_le n x
    have hold : R[atP n x] ≤ 65 - n := hle _ (List.getElem_mem hal)
    obtain ⟨a, ha⟩ : ∃ a, atP n x = a := ⟨_, rfl⟩
    obtain ⟨rk, hrke⟩ : ∃ rk, rankP n x = rk := ⟨_, rfl⟩
    simp only [ha, hrke] at P1 hv hrk hal hold
    obtain ⟨o, ho⟩ : ∃ o, R[a] = o := ⟨_, rfl⟩
    obtain ⟨v, hve⟩ : ∃ v, max o rk = v := ⟨_, rfl⟩
    rw [ho] at hv hold
    rw [hve] at hv
    have hv65 : v ≤ 65 := by rw [← hve]; exact Nat.max_le.2 ⟨Nat.le_trans hold (Nat.sub_le 65 n), Nat.le_trans hrk (Nat.sub_le 65 n)⟩
    have hv256 : v < 256 := Nat.lt_of_le_of_lt hv65 (by decide)
    have hmx : (if (o : Int) < (rk : Int) then (rk : Int) else (o : Int)) = (v : Int) := by split <;> omega
    have hmx2 : (if o < rk then (rk : Int) else (o : Int)) = (v : Int) := by split <;> omega
    have hwu : IntKind.u8.wrap (v : Int) = (v : Int) := by rw [show IntKind.u8.wrap (v : Int) = (v : Int) % 256 by simp [IntKind.wrap, IntKind.signed, IntKind.bits]]; omega
    have hwo := wrap64_small (y := (o : Int)) (by omega) (by omega)
    have hR2 : byteL (R.set a v) := fun r hr => by
      rcases List.mem_or_eq_of_mem_set hr with h | rfl
      · exact hR r h
      · exact hv256
    have ho256 : o < 256 := Nat.lt_of_le_of_lt hold (Nat.lt_of_le_of_lt (Nat.sub_le 65 n) (by decide))
    have hp256 : R.length ≤ 256 := by rw [hlen]; exact pow_le8 h8
    have HV := Lib.hid hv
    have HO := Lib.hid ho
    have HR2 := Lib.hid hR2
    have HRR := Lib.hid hR
    obtain ⟨m, hm⟩ : ∃ m, m = R.length := ⟨_, rfl⟩
    have HM := Lib.hid hm
    have hal' : a < m := by omega
    have hm256 : m ≤ 256 := by omega
    clear hm hq hv ha hrke ho hve hR2 hlen hle hpl hrk hold hR
    go_enter Try.func16, Try.ntmps16
    go_wp2_with fail
    with_reducible refine (C1.out).mono ?_
    rintro e w2 ⟨rfl, hb⟩
    have hb2 := HB.out.trans (hb.mono HB.out.size)
    have hr2 := HR0.out.below hb HR0.out.lt
    have hx2 := HX.out.below hb HX.out.lt
    have c0 := hx2.cell 0
    clear hb
    go_wp2_with fail
    with_reducible refine (P1.out _).mono ?_
    rintro e w3 ⟨rfl, hb⟩
    have hb3 := hb2.trans (hb.mono hb2.size)
    have hr3 := hr2.below hb hr2.lt
    have hx3 := hx2.below hb hx2.lt
    clear c0 hb hb2 hr2 hx2
    obtain ⟨cap, V, hcv, hbV, hbc⟩ := bytC_of R HRR.out w3
    rw [← HM.out] at hcv
    have c1 := hx3.cell 1
    have hx4 := hx3.below hbV hx3.lt
    have hr4 := hr3.below hbV hr3.lt
    have hb4 := hb3.trans (hbV.mono hb3.size)
    obtain ⟨k1, k2⟩ := hbc.2 a hal
    rw [HO.out] at k1
    have hlt3 := hx3.lt
    have hlr3 := hr3.lt
    have hbc5 := hbc.set a v hal
    have hx5 := hx4.far ⟨w3.heap.size, a, none⟩ (.int .u8 (v : Int)) (by simp; omega)
    have hr5 := hr4.far ⟨w3.heap.size, a, none⟩ (.int .u8 (v : Int)) (by simp; omega)
    have hb5 := hb4.setCell (p := ⟨w3.heap.size, a, none⟩) (by simp; omega) (.int .u8 (v : Int))
    have hcb := bytC_back hbc5 HR2.out m cap (by rw [List.length_set]; exact HM.out)
    have c5 := hx5.cell 0
    have d5 := hr5.cell 0
    have d6 := hr5.cell 1
    have z5 := hr5.frozen 0
    have z6 := hr5.frozen 1
    have HR5 := Lib.hid hr5
    have HB5 := Lib.hid hb5
    clear hbc hbc5 hx3 hx4 hx5 hr3 hr4 hr5 hb3 hb4 hb5 hbV
    go_wp2_with fail
    have hr6 := ((HR5.out.set 0 (.int .i64 (n : Int))).set 1 (.string (regS (R.set a v)))).eq (cs' := #[.int .i64 (n : Int), .string (regS (R.set a v))]) rfl
    refine bodyPost_ret (results_hll rfl _ _ (w.heap.size + 1) _ _ rfl hr6) rfl ?_
    rw [HV.out]
    exact ⟨rfl, (HB5.out.setCell (p := ⟨w.heap.size + 1, 0, none⟩) (by simp) _).setCell (p := ⟨w.heap.size + 1, 1, none⟩) (by simp) _⟩
end Go.Proofs.Ytnljepnmajcmgaa
