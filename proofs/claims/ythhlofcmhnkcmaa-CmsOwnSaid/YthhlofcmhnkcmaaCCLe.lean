/- Package cms: the least counter; Count. -/
import Derived.Test.YthhlofcmhnkcmaaCCCo
namespace Go.Proofs.Ythhlofcmhnkcmaa
open Go.RowKit Go.Shelf
attribute [local go_sem] Oper.semAt_some

theorem countL_anti (c : Nat) (L : List Nat) (h : Nat) {k r : Nat} (hk : k ≤ r) : countL c L h r ≤ countL c L h k := by
  induction r with
  | zero => have : k = 0 := by omega
            rw [this]
            exact Nat.le_refl _
  | succ r ih =>
    rcases Nat.lt_or_ge k (r + 1) with h1 | h1
    · have := ih (by omega)
      show min _ _ ≤ _
      omega
    · have : k = r + 1 := by omega
      rw [this]
      exact Nat.le_refl _
theorem countL_next (c : Nat) (L : List Nat) (h k : Nat) : countL c L h (k + 1) = min (countL c L h k) (L.getD (plC c h k) 0) := rfl
/-- Counters at work, in their block. -/
abbrev WkC (w : World) (g : Nat) (a b : Nat) (v : Value) : Prop := HasC w g 59 #[.int .i64 (a : Int), .int .i64 (b : Int), v]
set_option maxHeartbeats 4000000 in
set_option maxRecDepth 100000 in
theorem least_in (n : Nat) (h5 : 5 ≤ n) (gW a b h g o m cp : Nat) (L : List Nat) (w : World) (hW : WkC w gW a b (.slice (some ⟨g, o, none⟩) m cp)) (hv : NumSl w (.slice (some ⟨g, o, none⟩) m cp) L) (hlen : L.length = a * b) (h2 : a ≤ 4) (h3 : 0 < b) (hb32 : b ≤ 32) (hh : h ≤ topN) :
    CallsIn Fence.wide n Try.prog 38 #[.pointer (some ⟨gW, 0, none⟩), nV h] w fun e w' => e = .returned (nV (countL b L h a)) ∧ Below w.heap.size w w' := by
  have hm : m = L.length := by
    rcases hv with ⟨_, _, he, _, hl⟩ | ⟨_, _, _, he, _⟩
    · cases he; rw [hl]; rfl
    · cases he; rfl
  have hcell : ∀ j (hj : j < L.length) W, Below w.heap.size w W → W.cell? ⟨g, o + j, none⟩ = some (nV L[j]) := fun j hj W hb => by
    obtain ⟨ao, c', he, hc⟩ := hv.shape
    cases he
    obtain ⟨g', o', he2, hc2⟩ := hc j hj
    cases he2
    exact hc2 W hb
  have HC := Lib.hid hcell
  have HM := Lib.hid hm
  have HLEN := Lib.hid hlen
  have HW := Lib.hid hW
  have hgW := hW.lt
  clear hcell hv hW hm hlen
  refine callsIn_of_wp_marks Try.func38 rfl trivial ?_ rfl
  simp only [Try.ntmps38, List.size_toArray, List.length_cons, List.length_nil, Nat.reduceAdd, Nat.reduceSub, Array.replicate_succ, Array.replicate_zero, List.push_toArray, List.append_toArray, List.nil_append, List.cons_append]
  gi_wp2
  refine wpIn_scope' ?_
  gi_wp2_with fail
  refine wpIn_label ?_
  gi_wp2_with fail
  refine ⟨trivial, fun _ => by omega, ?_⟩
  refine (callsIn_wide.2 (counters_any _ _ _)).mono ?_
  rintro e w2 ⟨rfl, rfl⟩
  gi_wp2_with fail
  obtain ⟨W0, hW0⟩ : ∃ W0, W0 = ((w.alloc (.cells #[.int .u64 18446744073709551615] 25)).alloc (.cells #[.pointer (some ⟨gW, 0, none⟩)] 66)).alloc (.cells #[nV h] 25) := ⟨_, rfl⟩
  have hz0 : W0.heap.size = w.heap.size + 3 := by rw [hW0]; simp
  have hb0 : Below w.heap.size w W0 := by
    rw [hW0]
    exact (((Below.refl _ w).alloc (Nat.le_refl _) _).alloc (by simp) _).alloc (by simp; omega) _
  have hE0 : HasC W0 w.heap.size 25 #[nV (countL b L h 0)] := by rw [hW0]; exact ((HasC.new w _ _).alloc _).alloc _
  have hA0 : HasC W0 (w.heap.size + 1) 66 #[.pointer (some ⟨gW, 0, none⟩)] := by rw [hW0]; exact (HasC.at_ _ _ _ (by simp)).alloc _
  have hS0 : HasC W0 (w.heap.size + 2) 25 #[nV h] := by rw [hW0]; exact HasC.at_ _ _ _ (by simp)
  rw [← hW0]
  clear hW0
  refine range_fnK (by omega) (counters_it (w.heap.size + 1) (w.heap.size + 2) gW g o m cp a b h L (by rw [HM.out, HLEN.out]) h2 h3 hb32 hh) (enters_of Try.func54 (by kernel_rfl) rfl) rfl (fun _ => rfl)
    (fun k W => Below w.heap.size w W ∧ HasC W w.heap.size 25 #[nV (countL b L h k)] ∧ HasC W (w.heap.size + 1) 66 #[.pointer (some ⟨gW, 0, none⟩)] ∧ HasC W (w.heap.size + 2) 25 #[nV h])
    (fun j W => j = .exit 0 ∧ Below w.heap.size w W ∧ HasC W w.heap.size 25 #[nV (countL b L h a)])
    (fun k W W' h hb => ⟨h.1.trans (hb.mono h.1.size), h.2.1.below hb h.2.1.lt, h.2.2.1.below hb h.2.2.1.lt, h.2.2.2.below hb h.2.2.2.lt⟩)
    (fun k W hk => ⟨hk.2.2.1.cell 0, hk.2.2.2.cell 0, (HW.out.below hk.1 hgW).cell 0, (HW.out.below hk.1 hgW).cell 1, (HW.out.below hk.1 hgW).cell 2, fun hka => by
      have hl : plC b h k < L.length := by rw [HLEN.out]; exact pl_lt h3 hka
      rw [getD_at hl]
      exact HC.out _ hl W hk.1⟩) ?_ ?_ ?_ ?_ ?_ ?_
  · rintro k W _ o ⟨hbw, hE, hA, hS⟩ _
    exact ⟨below_put hbw _ _ (by omega), hE.put (by omega) _, hA.put (by omega) _, hS.put (by omega) _⟩
  · rintro j W _ o ⟨hj, hbw, hE⟩ _
    exact ⟨hj, below_put hbw _ _ (by omega), hE.put (by omega) _⟩
  · intro o
    have hk : Below W0.heap.size W0 ((W0.alloc (.deferred (some []))).alloc (.loop o)) := ((Below.refl _ W0).alloc (Nat.le_refl _) _).alloc (by simp) _
    exact ⟨hb0.trans (hk.mono hb0.size), hE0.below hk hE0.lt, hA0.below hk hA0.lt, hS0.below hk hS0.lt⟩
  · rintro k hk W ⟨hbw, hE, hA, hS⟩ rd bz hLp
    rw [cnts_at]
    have hka : k < a := by rwa [cnts_len] at hk
    have hnx := countL_next b L h k
    have han := countL_anti b L h (show k + 1 ≤ a by omega)
    obtain ⟨t, ht⟩ : ∃ t, t = plC b h k := ⟨_, rfl⟩
    rw [← ht] at hnx ⊢
    obtain ⟨z, hz⟩ : ∃ z, z = L.getD t 0 := ⟨_, rfl⟩
    rw [← hz] at hnx ⊢
    obtain ⟨cur, hcur⟩ : ∃ cur, cur = countL b L h k := ⟨_, rfl⟩
    rw [← hcur] at hnx hE
    obtain ⟨nxt, hnxt⟩ : ∃ nxt, nxt = countL b L h (k + 1) := ⟨_, rfl⟩
    rw [← hnxt] at hnx han ⊢
    obtain ⟨fin, hfin⟩ : ∃ fin, fin = countL b L h a := ⟨_, rfl⟩
    rw [← hfin] at han ⊢
    have hLt := hLp.lt
    unfold encA
    clear hA0 hE0 hS0 hb0 hcur hnxt hfin hz ht hk
    have HLP := Lib.hid hLp
    clear hLp
    gi_wp2_with fail
    have hLp := HLP.out
    refine ⟨hLp, ?_⟩
    have hE1 := hE.put (L := W0.heap.size + 1) (by omega) (.loop bz)
    have hA1 := hA.put (L := W0.heap.size + 1) (by omega) (.loop bz)
    have hS1 := hS.put (L := W0.heap.size + 1) (by omega) (.loop bz)
    have hbw1 := below_put hbw (W0.heap.size + 1) (.loop bz) (by omega)
    have hL1 := hLp.put (.loop bz)
    generalize W.putObj (W0.heap.size + 1) (.loop bz) = V at hE1 hA1 hS1 hbw1 hL1
    clear hE hA hS hbw hLp
    have c0 := hE1.cell 0
    have f0 := hE1.frozen 0
    have HLT := Lib.hid hLt
    have HZ := Lib.hid hz0
    clear hLt hz0
    by_cases hzz : z = 0
    · have hf0 : fin = 0 := by omega
      have hq : ((z : Int) == 0) = true := by rw [hzz]; rfl
      have HF := Lib.hid hf0
      clear hf0 han hnx hzz
      gi_wp2_with fail
      have hz0 := HZ.out
      have hLt := HLT.out
      refine ⟨hL1.set _ _ (by simp; omega) (by simp; omega), rfl, hbw1.setCell (p := ⟨w.heap.size, 0, none⟩) (by simp) _, ?_⟩
      rw [HF.out]
      exact (hE1.set 0 _).eq rfl
    · have hq : ((z : Int) == 0) = false := by simp; omega
      by_cases hlt : z < cur
      · have hq2 : (z : Int) < (cur : Int) := by omega
        have hn1 : nxt = z := by omega
        have HN := Lib.hid hn1
        clear hn1 han hnx hzz hlt
        gi_wp2_with fail
        have hz0 := HZ.out
        have hLt := HLT.out
        refine ⟨hL1.set _ _ (by simp; omega) (by simp; omega), hbw1.setCell (p := ⟨w.heap.size, 0, none⟩) (by simp) _, ?_, hA1.far _ _ (by simp), hS1.far _ _ (by simp)⟩
        rw [HN.out]
        exact (hE1.set 0 _).eq rfl
      · have hq2 : ¬ (z : Int) < (cur : Int) := by omega
        have hn1 : nxt = cur := by omega
        have HN := Lib.hid hn1
        clear hn1 han hnx hzz hlt
        gi_wp2_with fail
        exact ⟨hL1, hbw1, by rw [HN.out]; exact hE1, hA1, hS1⟩
  · rintro W ⟨hbw, hE, hA, hS⟩ hK
    rw [cnts_len] at hE
    have c0 := hE.cell 0
    clear hA0 hE0 hS0 hb0
    gi_wp2_with fail
    refine ⟨by simp, .inl ⟨_, _, rfl, run_takeDeferred (b := W0.heap.size) hK, ?_⟩⟩
    exact ⟨_, results_tmp rfl _ _ _, rfl, below_put hbw _ _ (by omega)⟩
  · rintro j W ⟨rfl, hbw, hE⟩ hK
    have c0 := hE.cell 0
    clear hA0 hE0 hS0 hb0
    gi_wp2_with fail
    refine ⟨by simp, .inl ⟨_, _, rfl, run_takeDeferred (b := W0.heap.size) hK, ?_⟩⟩
    exact ⟨_, results_tmp rfl _ _ _, rfl, below_put hbw _ _ (by omega)⟩
set_option maxHeartbeats 1000000 in
set_option maxRecDepth 100000 in
theorem cCount_any (r c : Int) (L : List Nat) (v : Value) (h : Nat) (w : World) (hv : NumSl w v L) (hn : L.length ≤ 200) (_hL : ∀ y ∈ L, y ≤ topN) (hh : h ≤ topN) :
    Calls Try.prog 21 #[cV r c v, nV h] w fun e w' => e = .returned (nV (countCm r c L h)) ∧ Below w.heap.size w w' := by
  have hb0 := (Below.refl w.heap.size w).alloc (Nat.le_refl _) (Obj.cells #[.int .i64 r, .int .i64 c, v] 24)
  have hx0 := HasC.new w 24 #[.int .i64 r, .int .i64 c, v]
  have R1 := Lib.hid (cRight_any r c L v _ (hv.below hb0) hn)
  have HB := Lib.hid hb0
  have HX := Lib.hid hx0
  cases hq : rightC r c L with
  | false =>
    rw [hq] at R1
    have hcv : countCm r c L h = 0 := by unfold countCm; rw [hq]; rfl
    have HV := Lib.hid hcv
    obtain ⟨ao, cp, rfl, _⟩ := hv.shape
    clear hq hcv hb0 hx0 hv
    unfold cV at R1 ⊢
    go_enter Try.func21, Try.ntmps21
    go_wp2_with fail
    with_reducible refine (R1.out).mono ?_
    rintro e w1 ⟨rfl, hb⟩
    have hb1 := HB.out.trans (hb.mono HB.out.size)
    go_wp2_with fail
    go_ret
    exact ⟨by rw [HV.out]; rfl, hb1⟩
  | true =>
    rw [hq] at R1
    obtain ⟨a, b, rfl, rfl, h1, h2, h3, hl⟩ := rightC_nat hq
    have hcv : countCm (a : Int) (b : Int) L h = countL b L h a := by unfold countCm; rw [hq, if_pos rfl, Int.toNat_natCast, Int.toNat_natCast]
    have hl0 : 0 < L.length := by rw [hl]; exact Nat.mul_pos (by omega) (by omega)
    have HSV := Lib.hid hv
    obtain ⟨ao, cp, rfl, hcc⟩ := hv.shape
    obtain ⟨g, o, rfl, hcc0⟩ := hcc 0 hl0
    clear hcc0
    rw [hcv]
    obtain ⟨m, hm⟩ : ∃ m, m = L.length := ⟨_, rfl⟩
    rw [← hm] at R1 HX HB HSV ⊢
    obtain ⟨fin, hfin⟩ : ∃ fin, fin = countL b L h a := ⟨_, rfl⟩
    have HFI := Lib.hid hfin
    rw [← hfin]
    clear hq hcv hb0 hx0 hv hcc hl0 hm hfin
    unfold cV at R1 ⊢
    go_enter Try.func21, Try.ntmps21
    go_wp2_with fail
    with_reducible refine (R1.out).mono ?_
    rintro e w1 ⟨rfl, hb⟩
    have hb1 := HB.out.trans (hb.mono HB.out.size)
    have hx1 := HX.out.below hb HX.out.lt
    obtain ⟨W2, hW2⟩ : ∃ W2, W2 = w1.alloc (.cells #[.int .i64 (a : Int), .int .i64 (b : Int), .slice (some ⟨g, o, none⟩) m cp] 59) := ⟨_, rfl⟩
    have hk2 : Below w1.heap.size w1 W2 := by rw [hW2]; exact (Below.refl _ w1).alloc (Nat.le_refl _) _
    have hb2 := hb1.trans (hk2.mono hb1.size)
    have L1 := callsIn_wide.1 (least_in 5 (by decide) w1.heap.size a b h g o m cp L W2 (by rw [hW2]; exact HasC.new w1 _ _) (HSV.out.below hb2) hl h2 (by omega) (by omega) hh)
    rw [← HFI.out] at L1
    have HL := Lib.hid L1
    have HW := Lib.hid hW2
    have HB2 := Lib.hid hb2
    have c0 := hx1.cell 0
    have c1 := hx1.cell 1
    have c2 := hx1.cell 2
    clear L1 hW2 hb2 hk2 hb1 hb hl hx1 h1 h2 h3
    go_wp2_with fail
    rw [← HW.out]
    with_reducible refine (HL.out).mono ?_
    rintro e w3 ⟨rfl, hb3⟩
    have hb4 := HB2.out.trans (hb3.mono HB2.out.size)
    go_wp2_with fail
    go_ret
    exact ⟨rfl, hb4⟩
end Go.Proofs.Ythhlofcmhnkcmaa
