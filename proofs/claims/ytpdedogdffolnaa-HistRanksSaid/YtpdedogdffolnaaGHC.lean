/- Package hist: rank; Rank, Total. Package hist: Rank, Total. Package hist: Select. Package hist: add, merge, lower. Package hist: merge, lower. What package hist answers: all ten of its calls. -/
import Derived.Test.YtpdedogdffolnaaGCd
namespace Go.Proofs.Ytpdedogdffolnaa
open Go.RowKit Go.Shelf
attribute [local go_sem] Oper.semAt_some

theorem sumP_allT {p : Int → Bool} {l : List Bn} (h : ∀ x ∈ l, p x.1 = true) : sumP p l = (l.map (·.2)).sum := by
  induction l with
  | nil => rfl
  | cons x t ih =>
    simp only [sumP, List.map_cons, List.sum_cons]
    rw [if_pos (h x (List.mem_cons_self ..)), ih fun y hy => h y (List.mem_cons_of_mem _ hy)]
theorem sumP_noT {p : Int → Bool} {l : List Bn} (h : ∀ x ∈ l, p x.1 = false) : sumP p l = 0 := by
  induction l with
  | nil => rfl
  | cons x t ih =>
    simp only [sumP]
    rw [if_neg (by rw [h x (List.mem_cons_self ..)]; decide), ih fun y hy => h y (List.mem_cons_of_mem _ hy)]
theorem rank_at {L : List Bn} {last : Int} {k : Nat} (hr : RiseG L) (h1 : ∀ j, j < k → (L.getD j (0, 0)).1 ≤ last) (h2 : ∀ hk : k < L.length, last < L[k].1) : min (sumP (fun a => decide (a ≤ last)) L) topN = accB L k := by
  have hL : sumP (fun a => decide (a ≤ last)) L = sumP (fun a => decide (a ≤ last)) (L.take k) + sumP (fun a => decide (a ≤ last)) (L.drop k) := by rw [← sumP_app, List.take_append_drop]
  have e1 : sumP (fun a => decide (a ≤ last)) (L.take k) = ((L.take k).map (·.2)).sum := sumP_allT fun x hx => by
    obtain ⟨j, hj, rfl⟩ := List.getElem_of_mem hx
    rw [List.length_take] at hj
    rw [List.getElem_take]
    have := h1 j (by omega)
    rw [getD_in (show j < L.length by omega)] at this
    exact decide_eq_true this
  have e2 : sumP (fun a => decide (a ≤ last)) (L.drop k) = 0 := sumP_noT fun x hx => by
    obtain ⟨j, hj, rfl⟩ := List.getElem_of_mem hx
    rw [List.length_drop] at hj
    rw [List.getElem_drop]
    have h3 := h2 (by omega)
    by_cases h0 : j = 0
    · subst h0
      exact decide_eq_false (by simpa using h3)
    · have := riseG_lt hr (i := k) (j := k + j) (by omega) (by omega)
      exact decide_eq_false (by omega)
  rw [hL, e1, e2]
  rfl

set_option maxHeartbeats 4000000 in
set_option maxRecDepth 100000 in
theorem gRnk_in (n : Nat) (h3 : 12 ≤ n) (f last : Int) (L : List Bn) (v : Value) (w : World) (hv : BinSl w v L) (hr : RiseG L) (hn : L.length ≤ 1000) :
    CallsIn Fence.wide n Try.prog 47 #[hgV f v, .int .i64 last] w fun e w' => e = .returned (gV (min (sumP (fun a => decide (a ≤ last)) L) topN)) ∧ Below w.heap.size w w' := by
  obtain ⟨ao, c, rfl, hba⟩ := hv.at_
  obtain ⟨m, hm⟩ : ∃ m, m = L.length := ⟨_, rfl⟩
  have HM := Lib.hid hm
  have HBA := Lib.hid hba
  have HR := Lib.hid (fun k h1 h2 => rank_at (last := last) (k := k) hr h1 h2)
  obtain ⟨R, hR⟩ : ∃ R, R = min (sumP (fun a => decide (a ≤ last)) L) topN := ⟨_, rfl⟩
  rw [← hR] at HR ⊢
  rw [← hm] at hn ⊢
  clear hm hba hv hR hr
  unfold hgV
  refine callsIn_of_wp_marks Try.func47 rfl trivial ?_ rfl
  simp only [Try.ntmps47, List.size_toArray, List.length_cons, List.length_nil, Nat.reduceAdd, Nat.reduceSub, Array.replicate_succ, Array.replicate_zero, List.push_toArray, List.append_toArray, List.nil_append, List.cons_append]
  gi_wp2_with fail
  refine wpIn_scope' ?_
  gi_wp2_with fail
  refine wpIn_label ?_
  gi_wp2_with fail
  refine ⟨trivial, fun _ => by omega, ?_⟩
  refine (callsIn_wide.2 (gUpTo_any _ _ _)).mono ?_
  rintro e w2 ⟨rfl, rfl⟩
  gi_wp2_with fail
  obtain ⟨W0, hW0⟩ : ∃ W0, W0 = (((w.alloc (.cells #[.int .i64 f, .slice ao m c] 25)).alloc (.cells #[.int .i64 last] 3)).alloc (.cells #[.int .u64 0] 22)).alloc (.cells #[.int .i64 f, .slice ao m c] 25) := ⟨_, rfl⟩
  have hz0 : W0.heap.size = w.heap.size + 4 := by rw [hW0]; simp
  have hb0 : Below w.heap.size w W0 := by
    rw [hW0]
    exact ((((Below.refl _ w).alloc (Nat.le_refl _) _).alloc (by simp) _).alloc (by simp; omega) _).alloc (by simp; omega) _
  have hT0 : HasC W0 (w.heap.size + 1) 3 #[.int .i64 last] := by rw [hW0]; exact ((HasC.at_ _ _ _ (by simp)).alloc _).alloc _
  have hN0 : HasC W0 (w.heap.size + 2) 22 #[gV 0] := by rw [hW0]; exact (HasC.at_ _ _ _ (by simp)).alloc _
  have hX0 : HasC W0 (w.heap.size + 3) 25 #[.int .i64 f, .slice ao m c] := by rw [hW0]; exact HasC.at_ _ _ _ (by simp)
  rw [← hW0]
  clear hW0
  have hkp : ∀ {V V' : World}, Kp (W0.heap.size + 2) V V' → Below w.heap.size V V' := fun h => h.1.mono (by omega)
  refine range_fnP (by omega) (up_it (w.heap.size + 3) w.heap.size ao c L (by have := HM.out; omega)) (enters_of Try.func56 (by kernel_rfl) rfl) rfl (fun _ => rfl)
    (fun k V => Below w.heap.size w V ∧ HasC V (w.heap.size + 1) 3 #[.int .i64 last] ∧ HasC V (w.heap.size + 2) 22 #[gV (accB L k)] ∧ HasC V (w.heap.size + 3) 25 #[.int .i64 f, .slice ao m c] ∧ Hid (∀ j, j < k → (L.getD j (0, 0)).1 ≤ last))
    (fun j V => j = .exit 0 ∧ Below w.heap.size w V ∧ HasC V (w.heap.size + 2) 22 #[gV R])
    (fun k V V' h hb => ⟨h.1.trans (hkp hb), h.2.1.below hb.1 (by omega), h.2.2.1.below hb.1 (by omega), h.2.2.2.1.below hb.1 (by omega), h.2.2.2.2⟩)
    (fun j V V' h hb => ⟨h.1, h.2.1.trans (hkp hb), h.2.2.below hb.1 (by omega)⟩) ?_ ?_ ?_ ?_ ?_ ?_ ?_
  · rintro k V ⟨hb, hT, hN, hX, hj⟩
    exact ⟨by rw [← HM.out]; exact hX.cell 1, HBA.out.below hb⟩
  · rintro k V lo o ⟨hb, hT, hN, hX, hj⟩ hLp
    exact ⟨below_put hb _ _ (by omega), hT.put (by omega) _, hN.put (by omega) _, hX.put (by omega) _, hj⟩
  · rintro j V lo o ⟨hj, hb, hN⟩ hLp
    exact ⟨hj, below_put hb _ _ (by omega), hN.put (by omega) _⟩
  · intro o
    have hk : Below W0.heap.size W0 ((W0.alloc (.deferred (some []))).alloc (.loop o)) := ((Below.refl _ W0).alloc (Nat.le_refl _) _).alloc (by simp) _
    exact ⟨hb0.trans (hk.mono hb0.size), hT0.below hk hT0.lt, by rw [acc_zero]; exact hN0.below hk hN0.lt, hX0.below hk hX0.lt, (fun j hj => by omega : ∀ j, j < 0 → _)⟩
  · rintro k hk V ⟨hb, hT, hN, hX, hj⟩ hzV rd bz hLp
    have hkl : k < L.length := by rw [up_len] at hk; exact hk
    rw [up_at]
    have hLk := Lib.hid (getD_in (d := ((0, 0) : Bn)) hkl)
    obtain ⟨xa, hxa⟩ : ∃ xa, xa = (L.getD k (0, 0)).1 := ⟨_, rfl⟩
    obtain ⟨t, ht⟩ : ∃ t, t = accB L (k + 1) := ⟨_, rfl⟩
    have HXA := Lib.hid hxa
    have HTT := Lib.hid ht
    rw [← hxa, ← ht]
    dsimp only [encU]
    have HLP := Lib.hid hLp
    have hkr1 : Kr (W0.heap.size + 2) V (V.putObj (W0.heap.size + 1) (.loop bz)) := Kr.put _ (by omega)
    have hb1 := below_put hb (W0.heap.size + 1) (.loop bz) (by omega)
    have hT1 := hT.put (L := W0.heap.size + 1) (by omega) (.loop bz)
    have hN1 := hN.put (L := W0.heap.size + 1) (by omega) (.loop bz)
    have hX1 := hX.put (L := W0.heap.size + 1) (by omega) (.loop bz)
    have hL1 := hLp.put (.loop bz)
    have HZ := Lib.hid hz0
    clear hb hT hN hX hLp hT0 hN0 hX0 hb0 hxa ht hz0 hkp hzV
    gi_wp2_with fail
    refine ⟨HLP.out, ?_⟩
    obtain ⟨V1, hV1⟩ : ∃ V1, V1 = V.putObj (W0.heap.size + 1) (.loop bz) := ⟨_, rfl⟩
    rw [← hV1] at hkr1 hb1 hT1 hN1 hX1 hL1 ⊢
    clear hV1
    have t0 := hT1.cell 0
    have n0 := hN1.cell 0
    have z0 := hN1.frozen 0
    by_cases hgt : last < xa
    · have hres : R = accB L k := HR.out k hj.out (fun hk' => by have := HXA.out; rw [hLk.out] at this; rw [← this]; exact hgt)
      have HRS := Lib.hid hres
      clear hres
      gi_wp2_with fail
      rw [← HRS.out] at hN1
      exact ⟨hL1, ⟨rfl, hb1, hN1⟩, hkr1⟩
    · have hj2 : Hid (∀ j, j < k + 1 → (L.getD j (0, 0)).1 ≤ last) := fun j hjk => by
        by_cases e : j = k
        · subst e; rw [← HXA.out]; omega
        · exact hj.out j (by omega)
      gi_wp2_with fail
      have hz0 := HZ.out
      have hN2 : HasC (V1.setCell ⟨w.heap.size + 2, 0, none⟩ (gV t)) (w.heap.size + 2) 22 #[gV t] := (hN1.set 0 _).eq rfl
      have hL2 := hL1.set ⟨w.heap.size + 2, 0, none⟩ (gV t) (by simp; omega) (by simp; omega)
      have hb2 := hb1.setCell (p := ⟨w.heap.size + 2, 0, none⟩) (by simp) (gV t)
      have hT2 := hT1.far ⟨w.heap.size + 2, 0, none⟩ (gV t) (by simp)
      have hX2 := hX1.far ⟨w.heap.size + 2, 0, none⟩ (gV t) (by simp)
      have hkr2 := hkr1.trans (Kr.set (p := ⟨w.heap.size + 2, 0, none⟩) (gV t) (by simp; omega))
      rw [HTT.out] at hN2 hL2 hb2 hT2 hX2 hkr2 ⊢
      exact ⟨hL2, ⟨hb2, hT2, hN2, hX2, hj2⟩, hkr2⟩
  · rintro V ⟨hb, hT, hN, hX, hj⟩ hK
    rw [up_len] at hN hj
    have hres : R = accB L L.length := HR.out L.length hj.out (fun h => absurd h (Nat.lt_irrefl _))
    rw [← hres] at hN
    have n0 := hN.cell 0
    clear hres
    gi_wp2_with fail
    rw [Exit.noGoto_ret]
    refine ⟨by simp, .inl ⟨_, _, rfl, run_takeDeferred (b := W0.heap.size) hK, ?_⟩⟩
    exact ⟨_, results_tmp rfl _ _ _, rfl, below_put hb _ _ (by omega)⟩
  · rintro j V ⟨rfl, hb, hN⟩ hK
    have n0 := hN.cell 0
    gi_wp2_with fail
    rw [Exit.noGoto_ret]
    refine ⟨by simp, .inl ⟨_, _, rfl, run_takeDeferred (b := W0.heap.size) hK, ?_⟩⟩
    exact ⟨_, results_tmp rfl _ _ _, rfl, below_put hb _ _ (by omega)⟩
end Go.Proofs.Ytpdedogdffolnaa
namespace Go.Proofs.Ytpdedogdffolnaa
open Go.RowKit Go.Shelf
attribute [local go_sem] Oper.semAt_some

theorem right_fine2 {f : Int} {L : List Bn} (h : rightG f L = true) : fineB f = true := ((Bool.and_eq_true _ _).mp h).1
set_option maxHeartbeats 4000000 in
set_option maxRecDepth 100000 in
theorem gRank_in (n : Nat) (h3 : 13 ≤ n) (f : Int) (L : List Bn) (v : Value) (x : Nat) (w : World) (h : GOk f L) (hv : BinSl w v L) (hx : x ≤ topN) :
    CallsIn Fence.wide n Try.prog 30 #[hgV f v, gV x] w fun e w' => e = .returned (gV (rankG f L x)) ∧ Below w.heap.size w w' := by
  have hb0 := (Below.refl w.heap.size w).alloc (Nat.le_refl _) (Obj.cells #[.int .i64 f, v] 25)
  have hx0 := HasC.new w 25 #[.int .i64 f, v]
  have R1 := Lib.hid (gRight_any f L v _ h (hv.below hb0))
  have HX := Lib.hid hx0
  have HB := Lib.hid hb0
  have HV := Lib.hid hv
  obtain ⟨a, l, c, rfl⟩ := hv.form
  have hlen := h.2.1
  have htop := fun y hy => (h.2.2 y hy).2
  clear hb0 hx0 hv h
  unfold hgV at R1 ⊢
  cases hq : rightG f L with
  | false =>
    rw [hq] at R1
    have hr : rankG f L x = 0 := by unfold rankG; rw [hq]; rfl
    rw [hr]
    clear hr hq htop
    refine callsIn_of_wp Try.func30 rfl trivial ?_ rfl
    simp only [Try.ntmps30, List.size_toArray, List.length_cons, List.length_nil, Nat.reduceAdd, Nat.reduceSub, Array.replicate_succ, Array.replicate_zero, List.push_toArray, List.append_toArray, List.nil_append, List.cons_append]
    gi_wp2_with fail
    refine ⟨trivial, fun _ => by omega, ?_⟩
    refine (callsIn_wide.2 R1.out).mono ?_
    rintro e w1 ⟨rfl, hb⟩
    have hb2 := HB.out.trans (hb.mono HB.out.size)
    gi_wp2_with fail
    go_ret
    exact ⟨rfl, hb2⟩
  | true =>
    rw [hq] at R1
    obtain ⟨k, rfl, hk⟩ := fineB_nat (right_fine2 hq)
    have hri := right_rise hq htop
    have hr : rankG (k : Int) L x = min (sumP (fun a => decide (a ≤ (bktP k x : Int))) L) topN := by unfold rankG; rw [hq]; rfl
    have P1 := Lib.hid (fun W => gPlace_any k x W hk hx)
    have K1 := Lib.hid (fun W hs => gRnk_in (n - 1) (by omega) (k : Int) (bktP k x : Int) L (.slice a l c) W hs hri (by omega))
    rw [← hr] at K1
    obtain ⟨p, hp⟩ : ∃ p, p = bktP k x := ⟨_, rfl⟩
    rw [← hp] at P1 K1
    obtain ⟨R, hR⟩ : ∃ R, R = rankG (k : Int) L x := ⟨_, rfl⟩
    rw [← hR] at K1 ⊢
    unfold hgV at K1
    clear hr hq htop hri hp hR
    refine callsIn_of_wp Try.func30 rfl trivial ?_ rfl
    simp only [Try.ntmps30, List.size_toArray, List.length_cons, List.length_nil, Nat.reduceAdd, Nat.reduceSub, Array.replicate_succ, Array.replicate_zero, List.push_toArray, List.append_toArray, List.nil_append, List.cons_append]
    gi_wp2_with fail
    refine ⟨trivial, fun _ => by omega, ?_⟩
    refine (callsIn_wide.2 R1.out).mono ?_
    rintro e w1 ⟨rfl, hb⟩
    have hb2 := HB.out.trans (hb.mono HB.out.size)
    have hx2 := HX.out.below hb HX.out.lt
    obtain ⟨D, hDk, hDd⟩ : ∃ D : World → Prop, (∀ W, D W → Below w1.heap.size w1 W) ∧ (∀ W, Below w1.heap.size w1 W → D W) := ⟨_, fun _ h => h, fun _ h => h⟩
    have E1 : ∀ i : InC D, i.w.cell? ⟨w.heap.size, 0, none⟩ = some (.int .i64 (k : Int)) := fun i => (hx2.below (hDk _ i.h) hx2.lt).cell 0
    have E2 : ∀ i : InC D, i.w.cell? ⟨w.heap.size, 1, none⟩ = some (.slice a l c) := fun i => (hx2.below (hDk _ i.h) hx2.lt).cell 1
    have HDD := Lib.hid hDd
    have HB2 := Lib.hid hb2
    clear hDk hDd hb hx2 hb2
    gi_wp2_with fail
    refine region_heldIn 6 [0, 1, 2, 3] [4, 5] D (by kernel_rfl) (FOk.wide _) (by kernel_rfl) (by intro c a d v w h; cases d <;> exact h) (HDD.out _ (Below.refl _ _).drew) ?_
    intro hne
    simp only [pickL, nthL]
    repeat (go_big_quiet_step (fail))
    refine wpQuiet_nil ?_
    intro Q0 hQ0
    clear E1 E2
    gi_wp2_with fail
    refine ⟨trivial, fun _ => by omega, ?_⟩
    refine (callsIn_wide.2 (P1.out _)).mono ?_
    rintro e W3 ⟨rfl, hb3⟩
    have hb13 : Below w1.heap.size w1 W3 := (Below.refl w1.heap.size w1).drew.trans hb3
    have HB3 := Lib.hid hb13
    clear hb3 hb13
    gi_wp2_with fail
    refine hQ0.out _ _ ⟨⟨W3, HDD.out _ HB3.out⟩, rfl⟩ ?_
    intro Q1 hQ1
    clear hQ0
    have hb3 := HB2.out.trans (HB3.out.mono HB2.out.size)
    have K2 := Lib.hid (K1.out W3 (HV.out.below hb3))
    have HB4 := Lib.hid hb3
    clear hb3
    gi_wp2_with fail
    refine ⟨trivial, fun _ => by omega, ?_⟩
    refine K2.out.mono ?_
    rintro e W4 ⟨rfl, hb5⟩
    have hb14 := HB3.out.trans (hb5.mono HB3.out.size)
    have HB5 := Lib.hid hb14
    clear hb5 hb14
    gi_wp2_with fail
    refine hQ1.out _ _ ⟨⟨W4, HDD.out _ HB5.out⟩, rfl⟩ ?_
    simp only [heavyRun, List.drop_succ_cons, List.drop_zero]
    clear hQ1 hne
    gi_wp2_with fail
    go_ret
    exact ⟨rfl, HB2.out.trans (HB5.out.mono HB2.out.size)⟩
theorem gRank_any (f : Int) (L : List Bn) (v : Value) (x : Nat) (w : World) (h : GOk f L) (hv : BinSl w v L) (hx : x ≤ topN) :
    Calls Try.prog 30 #[hgV f v, gV x] w fun e w' => e = .returned (gV (rankG f L x)) ∧ Below w.heap.size w w' := callsIn_wide.1 (gRank_in 13 (by decide) f L v x w h hv hx)
set_option maxRecDepth 100000 in
theorem gTotal_any (f : Int) (L : List Bn) (v : Value) (w : World) (h : GOk f L) (hv : BinSl w v L) :
    Calls Try.prog 28 #[hgV f v] w fun e w' => e = .returned (gV (rankG f L topN)) ∧ Below w.heap.size w w' := by
  have hb0 := (Below.refl w.heap.size w).alloc (Nat.le_refl _) (Obj.cells #[.int .i64 f, v] 25)
  have K1 := Lib.hid (gRank_any f L v topN _ h (hv.below hb0) (Nat.le_refl _))
  have HB := Lib.hid hb0
  obtain ⟨a, l, c, rfl⟩ := hv.form
  obtain ⟨R, hR⟩ : ∃ R, R = rankG f L topN := ⟨_, rfl⟩
  rw [← hR] at K1 ⊢
  unfold hgV at K1 ⊢
  clear hb0 hv h hR
  go_enter Try.func28, Try.ntmps28
  go_wp2_with fail
  refine (K1.out).mono ?_
  rintro e w1 ⟨rfl, hb⟩
  have hb2 := HB.out.trans (hb.mono HB.out.size)
  go_wp2_with fail
  go_ret
  exact ⟨rfl, hb2⟩
end Go.Proofs.Ytpdedogdffolnaa
namespace Go.Proofs.Ytpdedogdffolnaa
open Go.RowKit Go.Shelf
attribute [local go_sem] Oper.semAt_some

/-- Counters of a place, told: where there is none, the numbers are free. -/
def SelX (S : Nat × Nat × Bool) (e : Ending) : Prop := ∃ Q : Nat × Nat × Bool, e = .returned (bndV Q) ∧ Q.2.2 = S.2.2 ∧ (S.2.2 = true → Q = S) ∧ Q.1 ≤ topN ∧ Q.2.1 ≤ topN
set_option maxRecDepth 100000 in
theorem gResult_sel {fn : Func} {p q r : Tmp} (h : fn.results = #[.cell p 22, .cell q 22, .cell r 4]) (tmps : Array Value) (w : World) (g1 g2 g3 : Nat) (a b c : Value)
    (hp : tmps.getD p undef = .pointer (some ⟨g1, 0, none⟩)) (hq : tmps.getD q undef = .pointer (some ⟨g2, 0, none⟩)) (hr : tmps.getD r undef = .pointer (some ⟨g3, 0, none⟩))
    (h1 : w.cell? ⟨g1, 0, none⟩ = some a) (h2 : w.cell? ⟨g2, 0, none⟩ = some b) (h3 : w.cell? ⟨g3, 0, none⟩ = some c) : (results fn tmps).run Try.prog w = .ok (.tuple #[a, b, c]) w := by
  have hp' : tmps[p]?.getD undef = .pointer (some ⟨g1, 0, none⟩) := by simpa using hp
  have hq' : tmps[q]?.getD undef = .pointer (some ⟨g2, 0, none⟩) := by simpa using hq
  have hr' : tmps[r]?.getD undef = .pointer (some ⟨g3, 0, none⟩) := by simpa using hr
  have ha : (isAgg 22).run Try.prog w = .ok false w := by rfl
  have hb : (isAgg 4).run Try.prog w = .ok false w := by rfl
  simp only [results, h, loadVar]
  simp [hp', hq', hr', asAddr, ha, hb, h1, h2, h3, Result.andThen]
theorem boundsI_le (f a : Int) : (boundsI f a).1 ≤ topN ∧ (boundsI f a).2.1 ≤ topN := by
  unfold boundsI
  cases hq : (fineB f && okI f.toNat a) with
  | false => exact ⟨Nat.zero_le _, Nat.zero_le _⟩
  | true =>
    have h2 := ((Bool.and_eq_true _ _).mp hq).2
    unfold okI at h2
    have ho := ((Bool.and_eq_true _ _).mp h2).2
    have h3 := hi_lt ho
    have h4 := lo_le_hi f.toNat a.toNat
    have ht : topN + 1 = 2 ^ 64 := rfl
    exact ⟨(by show loP f.toNat a.toNat ≤ topN; omega), (by show hiP f.toNat a.toNat ≤ topN; omega)⟩
theorem sel_next {p acc : Nat} {L : List Bn} {k : Nat} (hk : k < L.length) : selL p acc (L.drop k) = if p < plusS acc L[k].2 then some L[k].1 else selL p (plusS acc L[k].2) (L.drop (k + 1)) := by
  rw [List.drop_eq_getElem_cons hk]
  rfl

set_option maxHeartbeats 8000000 in
set_option maxRecDepth 100000 in
theorem gSel_in (n : Nat) (h3 : 13 ≤ n) (f : Int) (L : List Bn) (v : Value) (p : Nat) (w : World) (h : GOk f L) (hv : BinSl w v L) (_hp : p ≤ topN) :
    CallsIn Fence.wide n Try.prog 26 #[hgV f v, gV p] w fun e w' => SelX (selG f L p) e ∧ Below w.heap.size w w' := by
  obtain ⟨ao, c, rfl, hba⟩ := hv.at_
  obtain ⟨m, hm⟩ : ∃ m, m = L.length := ⟨_, rfl⟩
  have hb5 := ((((Below.refl w.heap.size w).alloc (Nat.le_refl _) (Obj.cells #[.int .i64 f, .slice ao L.length c] 25)).alloc (by simp) (Obj.cells #[.int .u64 (p : Int)] 22)).alloc (by simp; omega) (Obj.cells #[.int .u64 0] 22)).alloc (by simp; omega) (Obj.cells #[.int .u64 0] 22) |>.alloc (by simp; omega) (Obj.cells #[.bool false] 4)
  have R1 := Lib.hid (gRight_any f L _ _ h (hv.below hb5))
  have HB5 := Lib.hid hb5
  have HM := Lib.hid hm
  have HBA := Lib.hid hba
  have hfs := h.1
  have HLS := Lib.hid (fun y hy => (h.2.2 y hy).1)
  have hlen := h.2.1
  have HF0 := Lib.hid (fun hq : rightG f L = false => (show selG f L p = (0, 0, false) by unfold selG; rw [hq]; rfl))
  have HF1 := Lib.hid (fun hq : rightG f L = true => (show selG f L p = (match selL p 0 L with | some a => boundsI f a | none => (0, 0, false)) by unfold selG; rw [hq]; rfl))
  obtain ⟨S, hS⟩ : ∃ S, S = selG f L p := ⟨_, rfl⟩
  rw [← hS] at HF0 HF1 ⊢
  rw [← hm] at R1 HB5 hlen ⊢
  clear hm hba hv hb5 h hS
  unfold hgV at R1 ⊢
  obtain ⟨W5, hW5⟩ : ∃ W5, W5 = ((((w.alloc (.cells #[.int .i64 f, .slice ao m c] 25)).alloc (.cells #[.int .u64 (p : Int)] 22)).alloc (.cells #[.int .u64 0] 22)).alloc (.cells #[.int .u64 0] 22)).alloc (.cells #[.bool false] 4) := ⟨_, rfl⟩
  have hz5 : W5.heap.size = w.heap.size + 5 := by rw [hW5]; simp
  have hH5 : HasC W5 w.heap.size 25 #[.int .i64 f, .slice ao m c] := by rw [hW5]; exact ((((HasC.new w _ _).alloc _).alloc _).alloc _).alloc _
  have hP5 : HasC W5 (w.heap.size + 1) 22 #[gV p] := by rw [hW5]; exact (((HasC.at_ _ _ _ (by simp)).alloc _).alloc _).alloc _
  have hA5 : HasC W5 (w.heap.size + 2) 22 #[gV 0] := by rw [hW5]; exact ((HasC.at_ _ _ _ (by simp)).alloc _).alloc _
  have hC5 : HasC W5 (w.heap.size + 3) 22 #[gV 0] := by rw [hW5]; exact (HasC.at_ _ _ _ (by simp)).alloc _
  have hO5 : HasC W5 (w.heap.size + 4) 4 #[.bool false] := by rw [hW5]; exact HasC.at_ _ _ _ (by simp)
  rw [← hW5] at R1 HB5
  have HH := Lib.hid hH5
  have HP := Lib.hid hP5
  have HA := Lib.hid hA5
  have HC := Lib.hid hC5
  have HO := Lib.hid hO5
  have HZ := Lib.hid hz5
  have HW := Lib.hid hW5
  clear hW5 hz5 hH5 hP5 hA5 hC5 hO5
  refine callsIn_of_wp_marks Try.func26 rfl trivial ?_ rfl
  simp only [Try.ntmps26, List.size_toArray, List.length_cons, List.length_nil, Nat.reduceAdd, Nat.reduceSub, Array.replicate_succ, Array.replicate_zero, List.push_toArray, List.append_toArray, List.nil_append, List.cons_append]
  gi_wp2_with fail
  refine ⟨trivial, fun _ => by omega, ?_⟩
  rw [← HW.out]
  refine (callsIn_wide.2 R1.out).mono ?_
  rintro e w6 ⟨rfl, hb6⟩
  have hz5 := HZ.out
  have hb06 := HB5.out.trans (hb6.mono HB5.out.size)
  have hH6 := HH.out.below hb6 HH.out.lt
  have hP6 := HP.out.below hb6 HP.out.lt
  have hA6 := HA.out.below hb6 HA.out.lt
  have hC6 := HC.out.below hb6 HC.out.lt
  have hO6 := HO.out.below hb6 HO.out.lt
  have hz6 : w.heap.size + 5 ≤ w6.heap.size := by have := hb6.size; omega
  clear hb6 hz5 R1 HH HP HA HC HO HW HB5 HZ
  cases hq : rightG f L with
  | false =>
    have hs := HF0.out hq
    subst hs
    clear hq
    have za := hA6.frozen 0
    have zc := hC6.frozen 0
    have zo := hO6.frozen 0
    have ca := hA6.cell 0
    have cc := hC6.cell 0
    have co := hO6.cell 0
    gi_wp2_with fail
    have hA7 : HasC (((w6.setCell ⟨w.heap.size + 2, 0, none⟩ (.int .u64 0)).setCell ⟨w.heap.size + 3, 0, none⟩ (.int .u64 0)).setCell ⟨w.heap.size + 4, 0, none⟩ (.bool false)) (w.heap.size + 2) 22 #[gV 0] := (((hA6.set 0 (.int .u64 0)).far _ _ (by simp)).far _ _ (by simp)).eq rfl
    have hC7 : HasC (((w6.setCell ⟨w.heap.size + 2, 0, none⟩ (.int .u64 0)).setCell ⟨w.heap.size + 3, 0, none⟩ (.int .u64 0)).setCell ⟨w.heap.size + 4, 0, none⟩ (.bool false)) (w.heap.size + 3) 22 #[gV 0] := (((hC6.far _ _ (by simp)).set 0 (.int .u64 0)).far _ _ (by simp)).eq rfl
    have hO7 : HasC (((w6.setCell ⟨w.heap.size + 2, 0, none⟩ (.int .u64 0)).setCell ⟨w.heap.size + 3, 0, none⟩ (.int .u64 0)).setCell ⟨w.heap.size + 4, 0, none⟩ (.bool false)) (w.heap.size + 4) 4 #[.bool false] := (((hO6.far _ _ (by simp)).far _ _ (by simp)).set 0 (.bool false)).eq rfl
    have hb7 := ((hb06.setCell (p := ⟨w.heap.size + 2, 0, none⟩) (by simp) (.int .u64 0)).setCell (p := ⟨w.heap.size + 3, 0, none⟩) (by simp) (.int .u64 0)).setCell (p := ⟨w.heap.size + 4, 0, none⟩) (by simp) (.bool false)
    exact ⟨_, gResult_sel rfl _ _ (w.heap.size + 2) (w.heap.size + 3) (w.heap.size + 4) _ _ _ rfl rfl rfl (hA7.cell 0) (hC7.cell 0) (hO7.cell 0), ⟨(0, 0, false), rfl, rfl, (fun _ => rfl), Nat.zero_le _, Nat.zero_le _⟩, hb7⟩
  | true =>
    have hs := HF1.out hq
    have HS := Lib.hid hs
    have hst : Hid (selL p (accB L 0) (L.drop 0) = selL p 0 L) := by show _ = _; rw [acc_zero, List.drop_zero]
    have hN := Lib.hid (fun k (hk : k < L.length) => sel_next (p := p) (acc := accB L k) hk)
    obtain ⟨sl, hsl⟩ : ∃ sl, sl = selL p 0 L := ⟨_, rfl⟩
    rw [← hsl] at HS hst
    have h60 := hH6.cell 0
    have h61 := hH6.cell 1
    clear hs hsl hq
    gi_wp2_with fail
    refine ⟨trivial, fun _ => by omega, ?_⟩
    refine (callsIn_wide.2 (gUpTo_any _ _ _)).mono ?_
    rintro e w7 ⟨rfl, rfl⟩
    gi_wp2_with fail
    obtain ⟨W0, hW0⟩ : ∃ W0, W0 = w6.alloc (.cells #[.int .i64 f, .slice ao m c] 25) := ⟨_, rfl⟩
    have hz0 : W0.heap.size = w6.heap.size + 1 := by rw [hW0]; simp
    have hb0 : Below w6.heap.size w6 W0 := by rw [hW0]; exact (Below.refl _ w6).alloc (Nat.le_refl _) _
    have hX0 : HasC W0 w6.heap.size 25 #[.int .i64 f, .slice ao m c] := by rw [hW0]; exact HasC.new w6 _ _
    rw [← hW0]
    have hbw0 := hb06.trans (hb0.mono (by omega))
    have hH0 := hH6.below hb0 hH6.lt
    have hP0 := hP6.below hb0 hP6.lt
    have hA0 := hA6.below hb0 hA6.lt
    have hC0 := hC6.below hb0 hC6.lt
    have hO0 := hO6.below hb0 hO6.lt
    have hzz : w.heap.size + 6 ≤ W0.heap.size := by omega
    obtain ⟨X, hXX⟩ : ∃ X, X = w6.heap.size := ⟨_, rfl⟩
    rw [← hXX] at hX0 hz0 hz6 ⊢
    clear hW0 hb0 hH6 hP6 hA6 hC6 hO6 hb06 hXX
    refine range_fnP (by omega) (up_it X w.heap.size ao c L (by have := HM.out; omega)) (enters_of Try.func56 (by kernel_rfl) rfl) rfl (fun _ => rfl)
      (fun k V => Below w.heap.size w V ∧ HasC V w.heap.size 25 #[.int .i64 f, .slice ao m c] ∧ HasC V (w.heap.size + 1) 22 #[gV p] ∧ HasC V (w.heap.size + 2) 22 #[gV 0] ∧ HasC V (w.heap.size + 3) 22 #[gV 0] ∧ HasC V (w.heap.size + 4) 4 #[.bool false] ∧ HasC V X 25 #[.int .i64 f, .slice ao m c] ∧ Hid (selL p (accB L k) (L.drop k) = sl))
      (fun j V => j = .ret ∧ Below w.heap.size w V ∧ HasC V (w.heap.size + 2) 22 #[gV S.1] ∧ HasC V (w.heap.size + 3) 22 #[gV S.2.1] ∧ HasC V (w.heap.size + 4) 4 #[.bool S.2.2] ∧ Hid (S.1 ≤ topN ∧ S.2.1 ≤ topN))
      (fun k V V' h hb => ⟨h.1.trans (hb.1.mono (by omega)), h.2.1.below hb.1 (by omega), h.2.2.1.below hb.1 (by omega), h.2.2.2.1.below hb.1 (by omega), h.2.2.2.2.1.below hb.1 (by omega), h.2.2.2.2.2.1.below hb.1 (by omega), h.2.2.2.2.2.2.1.below hb.1 (by omega), h.2.2.2.2.2.2.2⟩)
      (fun j V V' h hb => ⟨h.1, h.2.1.trans (hb.1.mono (by omega)), h.2.2.1.below hb.1 (by omega), h.2.2.2.1.below hb.1 (by omega), h.2.2.2.2.1.below hb.1 (by omega), h.2.2.2.2.2⟩) ?_ ?_ ?_ ?_ ?_ ?_ ?_
    · rintro k V ⟨hb, hH, hP, hA, hC, hO, hX, hst⟩
      exact ⟨by rw [← HM.out]; exact hX.cell 1, HBA.out.below hb⟩
    · rintro k V lo o ⟨hb, hH, hP, hA, hC, hO, hX, hst⟩ hLp
      exact ⟨below_put hb _ _ (by omega), hH.put (by omega) _, hP.put (by omega) _, hA.put (by omega) _, hC.put (by omega) _, hO.put (by omega) _, hX.put (by omega) _, hst⟩
    · rintro j V lo o ⟨hj, hb, hA, hC, hO, hle⟩ hLp
      exact ⟨hj, below_put hb _ _ (by omega), hA.put (by omega) _, hC.put (by omega) _, hO.put (by omega) _, hle⟩
    · intro o
      have hk : Below W0.heap.size W0 ((W0.alloc (.deferred (some []))).alloc (.loop o)) := ((Below.refl _ W0).alloc (Nat.le_refl _) _).alloc (by simp) _
      exact ⟨hbw0.trans (hk.mono (by omega)), hH0.below hk hH0.lt, hP0.below hk hP0.lt, hA0.below hk hA0.lt, hC0.below hk hC0.lt, hO0.below hk hO0.lt, hX0.below hk hX0.lt, hst⟩
    · rintro k hk V ⟨hb, hH, hP, hA, hC, hO, hX, hst⟩ hzV rd bz hLp
      have hkl : k < L.length := by rw [up_len] at hk; exact hk
      rw [up_at, getD_in hkl]
      have hsn := hN.out k hkl
      rw [hst.out] at hsn
      have hac := acc_next hkl
      rw [← hac] at hsn
      have hsx := HLS.out _ (List.getElem_mem hkl)
      obtain ⟨x, hx⟩ : ∃ x, x = L[k] := ⟨_, rfl⟩
      rw [← hx] at hsn hsx ⊢
      obtain ⟨xa, xn⟩ := x
      dsimp only [encU] at hsn hsx ⊢
      obtain ⟨t, ht⟩ : ∃ t, t = accB L (k + 1) := ⟨_, rfl⟩
      have HTT := Lib.hid ht
      rw [← ht] at hsn ⊢
      have HSN := Lib.hid hsn
      have HLP := Lib.hid hLp
      have hkr1 : Kr (W0.heap.size + 2) V (V.putObj (W0.heap.size + 1) (.loop bz)) := Kr.put _ (by omega)
      have hb1 := below_put hb (W0.heap.size + 1) (.loop bz) (by omega)
      have hH1 := hH.put (L := W0.heap.size + 1) (by omega) (.loop bz)
      have hP1 := hP.put (L := W0.heap.size + 1) (by omega) (.loop bz)
      have hA1 := hA.put (L := W0.heap.size + 1) (by omega) (.loop bz)
      have hC1 := hC.put (L := W0.heap.size + 1) (by omega) (.loop bz)
      have hO1 := hO.put (L := W0.heap.size + 1) (by omega) (.loop bz)
      have hX1 := hX.put (L := W0.heap.size + 1) (by omega) (.loop bz)
      have hL1 := hLp.put (.loop bz)
      have hzv : W0.heap.size + 2 ≤ (V.putObj (W0.heap.size + 1) (.loop bz)).heap.size := by simpa using hzV
      have HZ := Lib.hid (And.intro hz0 (And.intro hz6 hzz))
      clear hb hH hP hA hC hO hX hLp hX0 hH0 hP0 hA0 hC0 hO0 hbw0 hx ht hz0 hz6 hzz hzV hsn hac hst
      gi_wp2_with fail
      refine ⟨HLP.out, ?_⟩
      obtain ⟨V1, hV1⟩ : ∃ V1, V1 = V.putObj (W0.heap.size + 1) (.loop bz) := ⟨_, rfl⟩
      rw [← hV1] at hkr1 hb1 hH1 hP1 hA1 hC1 hO1 hX1 hL1 hzv ⊢
      clear hV1
      have p0 := hP1.cell 0
      have h0 := hH1.cell 0
      by_cases hgt : p < t
      · have hsl := HSN.out
        rw [if_pos hgt] at hsl
        have hSb : S = boundsI f xa := by rw [HS.out, hsl]
        have hle := boundsI_le f xa
        rw [← hSb] at hle
        have B1 := Lib.hid (fun W => gBounds_any f xa W hfs hsx)
        rw [← hSb] at B1
        have HLE := Lib.hid hle
        have hgi : (p : Int) < (t : Int) := by omega
        clear hsl hSb hle hgt
        gi_wp2_with fail
        refine ⟨trivial, fun _ => by omega, ?_⟩
        refine (CallsIn.inRound _ (callsIn_wide.2 (B1.out _))).mono ?_
        rintro e V2 ⟨rfl, hb2⟩
        have hbw2 := hb1.trans (hb2.mono (by have := HZ.out; omega))
        have hA2 := hA1.below hb2 hA1.lt
        have hC2 := hC1.below hb2 hC1.lt
        have hO2 := hO1.below hb2 hO1.lt
        have hL2 := hL1.below hb2 hL1.lt
        have hkr2 := hkr1.trans (Kr.of_below hb2)
        have za := hA2.frozen 0
        have zc := hC2.frozen 0
        have zo := hO2.frozen 0
        have ca := hA2.cell 0
        have cc := hC2.cell 0
        have co := hO2.cell 0
        clear hb1 hH1 hP1 hA1 hC1 hO1 hX1 hL1 p0 h0 hb2 hkr1
        obtain ⟨s1, s2, s3⟩ := S
        dsimp only [bndV] at HLE ⊢
        gi_wp2_with fail
        obtain ⟨hz0, hz6, hzz⟩ := HZ.out
        have q1 := ((hL2.set ⟨w.heap.size + 2, 0, none⟩ (gV s1) (by simp; omega) (by simp; omega)).set ⟨w.heap.size + 3, 0, none⟩ (gV s2) (by simp; omega) (by simp; omega)).set ⟨w.heap.size + 4, 0, none⟩ (.bool s3) (by simp; omega) (by simp; omega)
        have q2 := ((hbw2.setCell (p := ⟨w.heap.size + 2, 0, none⟩) (by simp) (gV s1)).setCell (p := ⟨w.heap.size + 3, 0, none⟩) (by simp) (gV s2)).setCell (p := ⟨w.heap.size + 4, 0, none⟩) (by simp) (.bool s3)
        have q3 : HasC (((V2.setCell ⟨w.heap.size + 2, 0, none⟩ (gV s1)).setCell ⟨w.heap.size + 3, 0, none⟩ (gV s2)).setCell ⟨w.heap.size + 4, 0, none⟩ (.bool s3)) (w.heap.size + 2) 22 #[gV s1] := (((hA2.set 0 (gV s1)).far _ _ (by simp)).far _ _ (by simp)).eq rfl
        have q4 : HasC (((V2.setCell ⟨w.heap.size + 2, 0, none⟩ (gV s1)).setCell ⟨w.heap.size + 3, 0, none⟩ (gV s2)).setCell ⟨w.heap.size + 4, 0, none⟩ (.bool s3)) (w.heap.size + 3) 22 #[gV s2] := (((hC2.far _ _ (by simp)).set 0 (gV s2)).far _ _ (by simp)).eq rfl
        have q5 : HasC (((V2.setCell ⟨w.heap.size + 2, 0, none⟩ (gV s1)).setCell ⟨w.heap.size + 3, 0, none⟩ (gV s2)).setCell ⟨w.heap.size + 4, 0, none⟩ (.bool s3)) (w.heap.size + 4) 4 #[.bool s3] := (((hO2.far _ _ (by simp)).far _ _ (by simp)).set 0 (.bool s3)).eq rfl
        have q6 := ((hkr2.trans (Kr.set (p := ⟨w.heap.size + 2, 0, none⟩) (gV s1) (by simp; omega))).trans (Kr.set (p := ⟨w.heap.size + 3, 0, none⟩) (gV s2) (by simp; omega))).trans (Kr.set (p := ⟨w.heap.size + 4, 0, none⟩) (.bool s3) (by simp; omega))
        first | exact ⟨q1, ⟨rfl, q2, q3, q4, q5, HLE⟩, q6⟩ | exact ⟨q1, ⟨rfl, q2, q3, q4, q5⟩, q6⟩
      · have hsl := HSN.out
        rw [if_neg hgt] at hsl
        have hst2 : Hid (selL p t (L.drop (k + 1)) = sl) := hsl.symm
        have hgi : ¬ (p : Int) < (t : Int) := by omega
        clear hsl hgt
        gi_wp2_with fail
        first | exact ⟨hL1, ⟨hb1, hH1, hP1, hA1, hC1, hO1, hX1, hst2⟩, hkr1⟩ | exact ⟨hL1, ⟨hb1, hH1, hP1, hA1, hC1, hO1, hX1⟩, hkr1⟩
    · rintro V ⟨hb, hH, hP, hA, hC, hO, hX, hst⟩ hK
      rw [up_len] at hst
      have hsl := hst.out
      rw [List.drop_eq_nil_of_le (Nat.le_refl _)] at hsl
      have hS0 : S = (0, 0, false) := by rw [HS.out, ← hsl]; rfl
      subst hS0
      have za := hA.frozen 0
      have zc := hC.frozen 0
      have zo := hO.frozen 0
      have ca := hA.cell 0
      have cc := hC.cell 0
      have co := hO.cell 0
      have HZ := Lib.hid (And.intro hz0 (And.intro hz6 hzz))
      clear hst hsl hX0 hH0 hP0 hA0 hC0 hO0 hbw0 hz0 hz6 hzz
      gi_wp2_with fail
      obtain ⟨hz0, hz6, hzz⟩ := HZ.out
      have hA7 : HasC (((V.setCell ⟨w.heap.size + 2, 0, none⟩ (.int .u64 0)).setCell ⟨w.heap.size + 3, 0, none⟩ (.int .u64 0)).setCell ⟨w.heap.size + 4, 0, none⟩ (.bool false)) (w.heap.size + 2) 22 #[gV 0] := (((hA.set 0 (.int .u64 0)).far _ _ (by simp)).far _ _ (by simp)).eq rfl
      have hC7 : HasC (((V.setCell ⟨w.heap.size + 2, 0, none⟩ (.int .u64 0)).setCell ⟨w.heap.size + 3, 0, none⟩ (.int .u64 0)).setCell ⟨w.heap.size + 4, 0, none⟩ (.bool false)) (w.heap.size + 3) 22 #[gV 0] := (((hC.far _ _ (by simp)).set 0 (.int .u64 0)).far _ _ (by simp)).eq rfl
      have hO7 : HasC (((V.setCell ⟨w.heap.size + 2, 0, none⟩ (.int .u64 0)).setCell ⟨w.heap.size + 3, 0, none⟩ (.int .u64 0)).setCell ⟨w.heap.size + 4, 0, none⟩ (.bool false)) (w.heap.size + 4) 4 #[.bool false] := (((hO.far _ _ (by simp)).far _ _ (by simp)).set 0 (.bool false)).eq rfl
      have hb7 := ((hb.setCell (p := ⟨w.heap.size + 2, 0, none⟩) (by simp) (.int .u64 0)).setCell (p := ⟨w.heap.size + 3, 0, none⟩) (by simp) (.int .u64 0)).setCell (p := ⟨w.heap.size + 4, 0, none⟩) (by simp) (.bool false)
      have hK7 : (((V.setCell ⟨w.heap.size + 2, 0, none⟩ (.int .u64 0)).setCell ⟨w.heap.size + 3, 0, none⟩ (.int .u64 0)).setCell ⟨w.heap.size + 4, 0, none⟩ (.bool false)).heap[W0.heap.size]? = some (.deferred (some [])) :=
        (Below.heap_setCell _ ⟨w.heap.size + 4, 0, none⟩ _ W0.heap.size (by simp; omega)).trans ((Below.heap_setCell _ ⟨w.heap.size + 3, 0, none⟩ _ W0.heap.size (by simp; omega)).trans ((Below.heap_setCell V ⟨w.heap.size + 2, 0, none⟩ _ W0.heap.size (by simp; omega)).trans hK))
      refine ⟨by simp, .inl ⟨_, _, rfl, run_takeDeferred (b := W0.heap.size) hK7, ?_⟩⟩
      exact ⟨_, gResult_sel rfl _ _ (w.heap.size + 2) (w.heap.size + 3) (w.heap.size + 4) _ _ _ rfl rfl rfl ((hA7.put (L := W0.heap.size) (by omega) _).cell 0) ((hC7.put (L := W0.heap.size) (by omega) _).cell 0) ((hO7.put (L := W0.heap.size) (by omega) _).cell 0), ⟨(0, 0, false), rfl, rfl, (fun _ => rfl), Nat.zero_le _, Nat.zero_le _⟩, below_put hb7 _ _ (by omega)⟩
    · rintro j V ⟨rfl, hb, hA, hC, hO, hle⟩ hK
      gi_wp2_with fail
      refine ⟨by simp, .inl ⟨_, _, rfl, run_takeDeferred (b := W0.heap.size) hK, ?_⟩⟩
      exact ⟨_, gResult_sel rfl _ _ (w.heap.size + 2) (w.heap.size + 3) (w.heap.size + 4) _ _ _ rfl rfl rfl ((hA.put (L := W0.heap.size) (by omega) _).cell 0) ((hC.put (L := W0.heap.size) (by omega) _).cell 0) ((hO.put (L := W0.heap.size) (by omega) _).cell 0), ⟨S, rfl, rfl, fun _ => rfl, hle.out.1, hle.out.2⟩, below_put hb _ _ (by omega)⟩
theorem gSel_any (f : Int) (L : List Bn) (v : Value) (p : Nat) (w : World) (h : GOk f L) (hv : BinSl w v L) (hp : p ≤ topN) :
    Calls Try.prog 26 #[hgV f v, gV p] w fun e w' => SelX (selG f L p) e ∧ Below w.heap.size w w' := callsIn_wide.1 (gSel_in 13 (by decide) f L v p w h hv hp)
end Go.Proofs.Ytpdedogdffolnaa
namespace Go.Proofs.Ytpdedogdffolnaa
open Go.RowKit Go.Shelf

/-- A histogram or none, and what is wrong. -/
def WX (P : Hg) (e : Ending) (W : World) : Prop := ∃ v, BinSl W v P.1.2 ∧ ((P.2 = 0 ∧ e = .returned (.tuple #[hgV P.1.1 v, .nilIface])) ∨ (P = badG ∧ v = .slice none 0 0 ∧ ∃ s, e = .returned (.tuple #[hgV 0 v, .iface 76 (.string s)])))
theorem okP_leT {n : Nat} (hn : n ≤ 3) {a : Nat} (h : okP n a = true) : a ≤ 1000 := by have := ok_le hn h; omega
theorem right_ok {n : Nat} {L : List Bn} (h : rightG (n : Int) L = true) : ∀ y ∈ L, 0 ≤ y.1 ∧ okP n y.1.toNat = true := by
  intro y hy
  have h1 : L.all (binB (n : Int)) = true := ((Bool.and_eq_true _ _).mp ((Bool.and_eq_true _ _).mp h).2).1
  have h2 := List.all_eq_true.1 h1 y hy
  unfold binB okI at h2
  simp only [Bool.and_eq_true, decide_eq_true_eq, Int.toNat_natCast] at h2
  exact h2.2.1
theorem right_keys {n : Nat} (hn : n ≤ 3) {L : List Bn} (h : rightG (n : Int) L = true) : KeysB L := by
  intro y hy
  obtain ⟨h1, h2⟩ := right_ok h y hy
  have := okP_leT hn h2
  exact ⟨h1, by omega⟩
/-- One histogram at work. -/
theorem gBegin1_any (n : Nat) (hn : n ≤ 3) (L : List Bn) (a : Option Addr) (l p : Nat) (W : World) (hv : BinSl W (.slice a l p) L) (hl : L.length ≤ 400) (ht : ∀ x ∈ L, x.2 ≤ topN) (hr : rightG (n : Int) L = true) :
    Calls Try.prog 49 #[.int .i64 (n : Int), .slice (some ⟨W.heap.size, 0, none⟩) 1 1] (W.alloc (.cells #[.int .i64 (n : Int), .slice a l p] 25)) fun e w' => e = .returned (.pointer (some ⟨W.heap.size + 2, 0, none⟩)) ∧ WkG w' (W.heap.size + 2) (W.heap.size + 1) (n : Int) ∧ CtM w' (W.heap.size + 1) L ∧ Below (W.heap.size + 1) (W.alloc (.cells #[.int .i64 (n : Int), .slice a l p] 25)) w' := by
  have h := callsIn_wide.1 (gBegin_in 12 (by decide) (n : Int) (some ⟨W.heap.size, 0, none⟩) 1 [((n : Int), ⟨a, l, p⟩)] (fun _ => L) (W.alloc (.cells #[.int .i64 (n : Int), .slice a l p] 25)) (by rw [World.size_alloc]; exact hist_one W ((n : Int), ⟨a, l, p⟩) _) (by simp)
    (fun j hj => by
      obtain rfl : j = 0 := by simpa using hj
      exact ⟨hv.below ((Below.refl _ W).alloc (Nat.le_refl _) _), by omega, right_keys hn hr, ht⟩))
  have hacc : accG (fun _ => L) [((n : Int), (⟨a, l, p⟩ : Sl3))].length = L := merge_one (right_rise hr ht)
  rw [hacc, World.size_alloc] at h
  exact h
/-- Two at work. -/
theorem gBegin2_any (n : Nat) (hn : n ≤ 3) (L : List Bn) (a : Option Addr) (l p : Nat) (M : List Bn) (b : Option Addr) (m q : Nat) (W : World) (hv : BinSl W (.slice a l p) L) (hu : BinSl W (.slice b m q) M) (hl : L.length ≤ 400) (hm : M.length ≤ 400) (ht : ∀ x ∈ L, x.2 ≤ topN) (ht2 : ∀ x ∈ M, x.2 ≤ topN) (hr : rightG (n : Int) L = true) (hr2 : rightG (n : Int) M = true) :
    Calls Try.prog 49 #[.int .i64 (n : Int), .slice (some ⟨W.heap.size, 0, none⟩) 2 2] (W.alloc (.cells #[.int .i64 (n : Int), .slice a l p, .int .i64 (n : Int), .slice b m q] 25)) fun e w' => e = .returned (.pointer (some ⟨W.heap.size + 2, 0, none⟩)) ∧ WkG w' (W.heap.size + 2) (W.heap.size + 1) (n : Int) ∧ CtM w' (W.heap.size + 1) (mergeG L M) ∧ Below (W.heap.size + 1) (W.alloc (.cells #[.int .i64 (n : Int), .slice a l p, .int .i64 (n : Int), .slice b m q] 25)) w' := by
  have hbb : Below W.heap.size W (W.alloc (.cells #[.int .i64 (n : Int), .slice a l p, .int .i64 (n : Int), .slice b m q] 25)) := (Below.refl _ W).alloc (Nat.le_refl _) _
  have h := callsIn_wide.1 (gBegin_in 12 (by decide) (n : Int) (some ⟨W.heap.size, 0, none⟩) 2 [((n : Int), ⟨a, l, p⟩), ((n : Int), ⟨b, m, q⟩)] (twoG L M) (W.alloc (.cells #[.int .i64 (n : Int), .slice a l p, .int .i64 (n : Int), .slice b m q] 25)) (by rw [World.size_alloc]; exact hist_two W ((n : Int), ⟨a, l, p⟩) ((n : Int), ⟨b, m, q⟩) _) (by simp)
    (fun j hj => by
      have hj2 : j < 2 := by simpa using hj
      have : j = 0 ∨ j = 1 := by omega
      rcases this with rfl | rfl
      · exact ⟨hv.below hbb, (by show L.length ≤ 1000; omega), right_keys hn hr, ht⟩
      · exact ⟨hu.below hbb, (by show M.length ≤ 1000; omega), right_keys hn hr2, ht2⟩))
  have hacc : accG (twoG L M) [((n : Int), (⟨a, l, p⟩ : Sl3)), ((n : Int), ⟨b, m, q⟩)].length = mergeG L M := by
    show mergeG (mergeG [] L) M = mergeG L M
    rw [merge_one (right_rise hr ht)]
  rw [hacc, World.size_alloc] at h
  exact h
set_option maxHeartbeats 4000000 in
set_option maxRecDepth 100000 in
theorem gAddw_any (f : Int) (L : List Bn) (v : Value) (x c : Nat) (g : Nat) (w : World) (h : GOk f L) (hv : BinSl w v L) (hx : x ≤ topN) (hc : c ≤ topN) (hg : HasC w g 22 #[gV x]) :
    Calls Try.prog 38 #[hgV f v, gV c, .slice (some ⟨g, 0, none⟩) 1 1] w fun e w' => WX (addG f L x c) e w' ∧ Below w.heap.size w w' := by
  have hb0 := ((Below.refl w.heap.size w).alloc (Nat.le_refl _) (Obj.cells #[.int .i64 f, v] 25)).alloc (by simp) (Obj.cells #[.int .i64 0, .slice none 0 0] 25)
  have hx0 : HasC ((w.alloc (Obj.cells #[.int .i64 f, v] 25)).alloc (Obj.cells #[.int .i64 0, .slice none 0 0] 25)) w.heap.size 25 #[.int .i64 f, v] := (HasC.new w _ _).alloc _
  have hr0 : HasC ((w.alloc (Obj.cells #[.int .i64 f, v] 25)).alloc (Obj.cells #[.int .i64 0, .slice none 0 0] 25)) (w.heap.size + 1) 25 #[.int .i64 0, .slice none 0 0] := HasC.at_ _ _ _ (by simp)
  have hz0 : ((w.alloc (Obj.cells #[.int .i64 f, v] 25)).alloc (Obj.cells #[.int .i64 0, .slice none 0 0] 25)).heap.size = w.heap.size + 2 := by simp
  obtain ⟨a, l, p, rfl⟩ := hv.form
  obtain ⟨W1, hW1⟩ : ∃ W1, W1 = (w.alloc (Obj.cells #[.int .i64 f, .slice a l p] 25)).alloc (Obj.cells #[.int .i64 0, .slice none 0 0] 25) := ⟨_, rfl⟩
  rw [← hW1] at hb0 hx0 hr0 hz0
  have C1 := Lib.hid (gCheck1_any f L a l p W1 h (hv.below hb0))
  have HX := Lib.hid hx0
  have HR := Lib.hid hr0
  have HB := Lib.hid hb0
  have HV := Lib.hid hv
  have HG := Lib.hid hg
  have HW := Lib.hid hW1
  have HZ := Lib.hid hz0
  have hlen := h.2.1
  have htop := fun y hy => (h.2.2 y hy).2
  have hfs := h.1
  obtain ⟨P, hP⟩ : ∃ P, P = addG f L x c := ⟨_, rfl⟩
  rw [← hP]
  clear hb0 hx0 hr0 hz0 hv hg hW1 h
  unfold hgV
  go_enter Try.func38, Try.ntmps38
  go_wp2_with fail
  rw [← HW.out]
  have C2 := C1.out
  rw [HZ.out] at C2
  refine C2.mono ?_
  rintro e W2 ⟨⟨u, rfl, hu⟩, hb2⟩
  have hb12 : Below W1.heap.size W1 W2 := ((Below.refl _ W1).alloc (Nat.le_refl _) _).trans (hb2.mono (by have := HZ.out; omega))
  have hbw2 := HB.out.trans (hb12.mono HB.out.size)
  have hX2 := HX.out.below hb12 HX.out.lt
  have hR2 := HR.out.below hb12 HR.out.lt
  have hz2 : w.heap.size + 2 ≤ W2.heap.size := by have := hb12.size; have := HZ.out; omega
  clear C1 C2 HX HR HB HW HZ hb2 hb12
  cases hq : rightG f L with
  | false =>
    have hPb : P = badG := by rw [hP]; unfold addG; rw [hq]; rfl
    rw [hq] at hu
    subst hPb
    rcases hu with ⟨hu, _⟩ | ⟨_, s, rfl⟩
    · cases hu
    have c0 := hR2.cell 0
    have c1 := hR2.cell 1
    have z0 := hR2.frozen 0
    have z1 := hR2.frozen 1
    clear hP hq htop
    go_wp2_with fail
    refine bodyPost_ret (results_hist rfl _ _ (w.heap.size + 1) _ _ rfl (((hR2.set 0 (.int .i64 0)).set 1 (.slice none 0 0)).eq (cs' := #[.int .i64 0, .slice none 0 0]) rfl)) rfl ?_
    exact ⟨⟨_, BinSl.nil _, .inr ⟨rfl, rfl, s, rfl⟩⟩, (hbw2.setCell (p := ⟨w.heap.size + 1, 0, none⟩) (by simp) _).setCell (p := ⟨w.heap.size + 1, 1, none⟩) (by simp) _⟩
  | true =>
    rw [hq] at hu
    rcases hu with ⟨_, rfl⟩ | ⟨hu, _⟩
    case inr => cases hu
    obtain ⟨k, rfl, hk⟩ := fineB_nat (right_fine2 hq)
    have hPk : P = (((k : Int), putBn L (bktP k x : Int) c), 0) := by rw [hP]; unfold addG; rw [hq]; rfl
    have B1 := Lib.hid (gBegin1_any k hk L a l p W2 (HV.out.below hbw2) hlen htop hq)
    have x0 := hX2.cell 0
    have x1 := hX2.cell 1
    have HPK := Lib.hid hPk
    clear hP hPk hq htop
    go_wp2_with fail
    refine B1.out.mono ?_
    rintro e W4 ⟨rfl, hWk, hMk, hb4⟩
    have hb24 : Below W2.heap.size W2 W4 := ((Below.refl _ W2).alloc (Nat.le_refl _) _).trans (hb4.mono (by omega))
    have hbw4 := hbw2.trans (hb24.mono hbw2.size)
    have hR4 := hR2.below hb24 hR2.lt
    have hgl := HG.out.lt
    have hG4 := HG.out.below hbw4 hgl
    have T1 := Lib.hid (callsIn_wide.1 (gTell_in 12 (by decide) (w.heap.size + 2) (W2.heap.size + 2) (W2.heap.size + 1) k L c (some ⟨g, 0, none⟩) 1 [x] W4 hk hWk hMk (fun j hj => by
      obtain rfl : j = 0 := by simpa using hj
      exact ⟨g, 0, rfl, hG4.lt, hG4.cell 0⟩) (by simp) (fun y hy => by rw [List.mem_singleton.1 hy]; exact hx) hc (by omega) (by omega) (by omega) (fun g' o' e => by cases e; omega)))
    have HM4 := Lib.hid hMk
    clear B1 hb4 hWk hMk x0 x1
    go_wp2_with fail
    refine T1.out.mono ?_
    rintro e W5 ⟨⟨ve, rfl⟩, hWk5, hMk5, hb5, hz5⟩
    have hbw5 : Below w.heap.size w W5 := hbw4.trans (hb5.mono (by omega))
    have hR5 := hR4.below hb5 (by omega)
    have hM5 : CtM W5 (W2.heap.size + 1) (putBn L (bktP k x : Int) c) := hMk5
    have hl5 : (putBn L (bktP k x : Int) c).length ≤ 1000 := by have := putBn_len L (bktP k x : Int) c; omega
    have D1 := Lib.hid (callsIn_wide.1 (gDone_in 12 (by decide) (W2.heap.size + 2) (W2.heap.size + 1) (k : Int) _ W5 hWk5 hM5 hl5))
    clear T1 hWk5 hMk5 hM5 hb5 hl5 HM4
    go_wp2_with fail
    refine D1.out.mono ?_
    rintro e W6 ⟨⟨v6, rfl, hv6⟩, hb6⟩
    have hbw6 := hbw5.trans (hb6.mono (by have := hbw5.size; omega))
    have hR6 := hR5.below hb6 hR5.lt
    obtain ⟨a6, l6, c6, rfl⟩ := hv6.form
    have hf6 := hv6.far hR6 ⟨_, _, _, rfl⟩
    have c0 := hR6.cell 0
    have c1 := hR6.cell 1
    have z0 := hR6.frozen 0
    have z1 := hR6.frozen 1
    have HF6 := Lib.hid hf6
    clear D1 hv6 hb6 hf6
    unfold hgV
    go_wp2_with fail
    refine bodyPost_ret (results_hist rfl _ _ (w.heap.size + 1) _ _ rfl (((hR6.set 0 (.int .i64 (k : Int))).set 1 (.slice a6 l6 c6)).eq (cs' := #[.int .i64 (k : Int), .slice a6 l6 c6]) rfl)) rfl ?_
    rw [HPK.out]
    exact ⟨⟨_, ((HF6.out.set ⟨w.heap.size + 1, 0, none⟩ rfl _).set ⟨w.heap.size + 1, 1, none⟩ rfl _).sl, .inl ⟨rfl, rfl⟩⟩, (hbw6.setCell (p := ⟨w.heap.size + 1, 0, none⟩) (by simp) _).setCell (p := ⟨w.heap.size + 1, 1, none⟩) (by simp) _⟩
end Go.Proofs.Ytpdedogdffolnaa
namespace Go.Proofs.Ytpdedogdffolnaa
open Go.RowKit Go.Shelf

set_option maxHeartbeats 4000000 in
set_option maxRecDepth 100000 in
theorem gMergew_any (f : Int) (L : List Bn) (v : Value) (g : Int) (M : List Bn) (u : Value) (w : World) (h : GOk f L) (h2 : GOk g M) (hv : BinSl w v L) (hu : BinSl w u M) :
    Calls Try.prog 44 #[hgV f v, hgV g u] w fun e w' => WX (mergeGH f L g M) e w' ∧ Below w.heap.size w w' := by
  obtain ⟨a, l, p, rfl⟩ := hv.form
  obtain ⟨b, m, q, rfl⟩ := hu.form
  obtain ⟨W1, hW1⟩ : ∃ W1, W1 = ((w.alloc (.cells #[.int .i64 f, .slice a l p] 25)).alloc (.cells #[.int .i64 g, .slice b m q] 25)).alloc (.cells #[.int .i64 0, .slice none 0 0] 25) := ⟨_, rfl⟩
  have hz0 : W1.heap.size = w.heap.size + 3 := by rw [hW1]; simp
  have hb0 : Below w.heap.size w W1 := by
    rw [hW1]
    exact (((Below.refl _ w).alloc (Nat.le_refl _) _).alloc (by simp) _).alloc (by simp; omega) _
  have hx0 : HasC W1 w.heap.size 25 #[.int .i64 f, .slice a l p] := by rw [hW1]; exact ((HasC.new w _ _).alloc _).alloc _
  have hy0 : HasC W1 (w.heap.size + 1) 25 #[.int .i64 g, .slice b m q] := by rw [hW1]; exact (HasC.at_ _ _ _ (by simp)).alloc _
  have hr0 : HasC W1 (w.heap.size + 2) 25 #[.int .i64 0, .slice none 0 0] := by rw [hW1]; exact HasC.at_ _ _ _ (by simp)
  have C1 := Lib.hid (gCheck2_any f L a l p g M b m q W1 h h2 (hv.below hb0) (hu.below hb0))
  have HX := Lib.hid hx0
  have HY := Lib.hid hy0
  have HR := Lib.hid hr0
  have HB := Lib.hid hb0
  have HV := Lib.hid hv
  have HU := Lib.hid hu
  have HW := Lib.hid hW1
  have HZ := Lib.hid hz0
  have hlen := h.2.1
  have hlen2 := h2.2.1
  have htop := fun y hy => (h.2.2 y hy).2
  have htop2 := fun y hy => (h2.2.2 y hy).2
  obtain ⟨P, hP⟩ : ∃ P, P = mergeGH f L g M := ⟨_, rfl⟩
  rw [← hP]
  clear hb0 hx0 hy0 hr0 hz0 hv hu hW1 h h2
  unfold hgV
  go_enter Try.func44, Try.ntmps44
  go_wp2_with fail
  rw [← HW.out]
  have C2 := C1.out
  rw [HZ.out] at C2
  refine C2.mono ?_
  rintro e W2 ⟨⟨u, rfl, hu⟩, hb2⟩
  have hb12 : Below W1.heap.size W1 W2 := ((Below.refl _ W1).alloc (Nat.le_refl _) _).trans (hb2.mono (by have := HZ.out; omega))
  have hbw2 := HB.out.trans (hb12.mono HB.out.size)
  have hX2 := HX.out.below hb12 HX.out.lt
  have hY2 := HY.out.below hb12 HY.out.lt
  have hR2 := HR.out.below hb12 HR.out.lt
  have hz2 : w.heap.size + 3 ≤ W2.heap.size := by have := hb12.size; have := HZ.out; omega
  clear C1 C2 HX HY HR HB HW HZ hb2 hb12
  cases hq : (rightG f L && (decide (g = f) && rightG g M)) with
  | false =>
    have hPb : P = badG := by
      rw [hP]
      unfold mergeGH
      rw [if_neg]
      intro hh
      obtain ⟨h1, h2⟩ := (Bool.and_eq_true _ _).mp hh
      obtain ⟨h3, h4⟩ := (Bool.and_eq_true _ _).mp h2
      rw [h1, h3, decide_eq_true (of_decide_eq_true h4).symm] at hq
      cases hq
    rw [hq] at hu
    subst hPb
    rcases hu with ⟨hu, _⟩ | ⟨_, s, rfl⟩
    · cases hu
    have c0 := hR2.cell 0
    have c1 := hR2.cell 1
    have z0 := hR2.frozen 0
    have z1 := hR2.frozen 1
    clear hP hq htop htop2
    go_wp2_with fail
    refine bodyPost_ret (results_hist rfl _ _ (w.heap.size + 2) _ _ rfl (((hR2.set 0 (.int .i64 0)).set 1 (.slice none 0 0)).eq (cs' := #[.int .i64 0, .slice none 0 0]) rfl)) rfl ?_
    exact ⟨⟨_, BinSl.nil _, .inr ⟨rfl, rfl, s, rfl⟩⟩, (hbw2.setCell (p := ⟨w.heap.size + 2, 0, none⟩) (by simp) _).setCell (p := ⟨w.heap.size + 2, 1, none⟩) (by simp) _⟩
  | true =>
    rw [hq] at hu
    rcases hu with ⟨_, rfl⟩ | ⟨hu, _⟩
    case inr => cases hu
    obtain ⟨hq1, hq2⟩ := (Bool.and_eq_true _ _).mp hq
    obtain ⟨hq3, hq4⟩ := (Bool.and_eq_true _ _).mp hq2
    have hgf := of_decide_eq_true hq3
    subst hgf
    obtain ⟨k, rfl, hk⟩ := fineB_nat (right_fine2 hq1)
    have hPk : P = (((k : Int), mergeG L M), 0) := by rw [hP]; unfold mergeGH; rw [hq1, hq4, decide_eq_true rfl]; rfl
    have B1 := Lib.hid (gBegin2_any k hk L a l p M b m q W2 (HV.out.below hbw2) (HU.out.below hbw2) hlen hlen2 htop htop2 hq1 hq4)
    have hmk : (mergeG L M).length ≤ 1000 := by
      have : ∀ (M L : List Bn), (mergeG L M).length ≤ L.length + M.length := by
        intro M
        induction M with
        | nil => intro L; exact Nat.le_refl _
        | cons y t ih =>
          intro L
          have h1 := ih (putBn L y.1 y.2)
          have h2 := putBn_len L y.1 y.2
          show (mergeG (putBn L y.1 y.2) t).length ≤ _
          rw [List.length_cons]
          omega
      have := this M L
      omega
    have x0 := hX2.cell 0
    have x1 := hX2.cell 1
    have y0 := hY2.cell 0
    have y1 := hY2.cell 1
    have HPK := Lib.hid hPk
    clear hP hPk hq htop htop2 hq1 hq2 hq3 hq4
    go_wp2_with fail
    refine B1.out.mono ?_
    rintro e W4 ⟨rfl, hWk, hMk, hb4⟩
    have hb24 : Below W2.heap.size W2 W4 := ((Below.refl _ W2).alloc (Nat.le_refl _) _).trans (hb4.mono (by omega))
    have hbw4 := hbw2.trans (hb24.mono hbw2.size)
    have hR4 := hR2.below hb24 hR2.lt
    have D1 := Lib.hid (callsIn_wide.1 (gDone_in 12 (by decide) (W2.heap.size + 2) (W2.heap.size + 1) (k : Int) _ W4 hWk hMk hmk))
    clear B1 hb4 hWk hMk x0 x1 y0 y1
    go_wp2_with fail
    refine D1.out.mono ?_
    rintro e W6 ⟨⟨v6, rfl, hv6⟩, hb6⟩
    have hbw6 := hbw4.trans (hb6.mono hbw4.size)
    have hR6 := hR4.below hb6 hR4.lt
    obtain ⟨a6, l6, c6, rfl⟩ := hv6.form
    have hf6 := hv6.far hR6 ⟨_, _, _, rfl⟩
    have c0 := hR6.cell 0
    have c1 := hR6.cell 1
    have z0 := hR6.frozen 0
    have z1 := hR6.frozen 1
    have HF6 := Lib.hid hf6
    clear D1 hv6 hb6 hf6
    unfold hgV
    go_wp2_with fail
    refine bodyPost_ret (results_hist rfl _ _ (w.heap.size + 2) _ _ rfl (((hR6.set 0 (.int .i64 (k : Int))).set 1 (.slice a6 l6 c6)).eq (cs' := #[.int .i64 (k : Int), .slice a6 l6 c6]) rfl)) rfl ?_
    rw [HPK.out]
    exact ⟨⟨_, ((HF6.out.set ⟨w.heap.size + 2, 0, none⟩ rfl _).set ⟨w.heap.size + 2, 1, none⟩ rfl _).sl, .inl ⟨rfl, rfl⟩⟩, (hbw6.setCell (p := ⟨w.heap.size + 2, 0, none⟩) (by simp) _).setCell (p := ⟨w.heap.size + 2, 1, none⟩) (by simp) _⟩
theorem coa_len (L : List Bn) : (coaP L).length ≤ L.length := by
  have : ∀ (L P : List Bn), (L.foldl (fun P y => putBn P (coaB y.1) y.2) P).length ≤ P.length + L.length := by
    intro L
    induction L with
    | nil => intro P; exact Nat.le_refl _
    | cons y t ih =>
      intro P
      have h1 := ih (putBn P (coaB y.1) y.2)
      have h2 := putBn_len P (coaB y.1) y.2
      rw [List.foldl_cons, List.length_cons]
      omega
  have := this L []
  simpa [coaP] using this
set_option maxHeartbeats 4000000 in
set_option maxRecDepth 100000 in
theorem gLowerw_any (f : Int) (L : List Bn) (v : Value) (w : World) (h : GOk f L) (hv : BinSl w v L) :
    Calls Try.prog 45 #[hgV f v] w fun e w' => WX (lowerGH f L) e w' ∧ Below w.heap.size w w' := by
  obtain ⟨a, l, p, rfl⟩ := hv.form
  obtain ⟨W1, hW1⟩ : ∃ W1, W1 = (w.alloc (.cells #[.int .i64 f, .slice a l p] 25)).alloc (.cells #[.int .i64 0, .slice none 0 0] 25) := ⟨_, rfl⟩
  have hz0 : W1.heap.size = w.heap.size + 2 := by rw [hW1]; simp
  have hb0 : Below w.heap.size w W1 := by
    rw [hW1]
    exact ((Below.refl _ w).alloc (Nat.le_refl _) _).alloc (by simp) _
  have hx0 : HasC W1 w.heap.size 25 #[.int .i64 f, .slice a l p] := by rw [hW1]; exact (HasC.new w _ _).alloc _
  have hr0 : HasC W1 (w.heap.size + 1) 25 #[.int .i64 0, .slice none 0 0] := by rw [hW1]; exact HasC.at_ _ _ _ (by simp)
  have C1 := Lib.hid (gCheck1_any f L a l p W1 h (hv.below hb0))
  have HX := Lib.hid hx0
  have HR := Lib.hid hr0
  have HB := Lib.hid hb0
  have HV := Lib.hid hv
  have HW := Lib.hid hW1
  have HZ := Lib.hid hz0
  have hlen := h.2.1
  have htop := fun y hy => (h.2.2 y hy).2
  obtain ⟨P, hP⟩ : ∃ P, P = lowerGH f L := ⟨_, rfl⟩
  rw [← hP]
  clear hb0 hx0 hr0 hz0 hv hW1 h
  unfold hgV
  go_enter Try.func45, Try.ntmps45
  go_wp2_with fail
  rw [← HW.out]
  have C2 := C1.out
  rw [HZ.out] at C2
  refine C2.mono ?_
  rintro e W2 ⟨⟨u, rfl, hu⟩, hb2⟩
  have hb12 : Below W1.heap.size W1 W2 := ((Below.refl _ W1).alloc (Nat.le_refl _) _).trans (hb2.mono (by have := HZ.out; omega))
  have hbw2 := HB.out.trans (hb12.mono HB.out.size)
  have hX2 := HX.out.below hb12 HX.out.lt
  have hR2 := HR.out.below hb12 HR.out.lt
  have hz2 : w.heap.size + 2 ≤ W2.heap.size := by have := hb12.size; have := HZ.out; omega
  clear C1 C2 HX HR HB HW HZ hb2 hb12
  have c0 := hR2.cell 0
  have c1 := hR2.cell 1
  have z0 := hR2.frozen 0
  have z1 := hR2.frozen 1
  cases hq : rightG f L with
  | false =>
    have hPb : P = badG := by rw [hP]; unfold lowerGH; rw [hq]; rfl
    rw [hq] at hu
    subst hPb
    rcases hu with ⟨hu, _⟩ | ⟨_, s, rfl⟩
    · cases hu
    clear hP hq htop
    go_wp2_with fail
    refine bodyPost_ret (results_hist rfl _ _ (w.heap.size + 1) _ _ rfl (((hR2.set 0 (.int .i64 0)).set 1 (.slice none 0 0)).eq (cs' := #[.int .i64 0, .slice none 0 0]) rfl)) rfl ?_
    exact ⟨⟨_, BinSl.nil _, .inr ⟨rfl, rfl, s, rfl⟩⟩, (hbw2.setCell (p := ⟨w.heap.size + 1, 0, none⟩) (by simp) _).setCell (p := ⟨w.heap.size + 1, 1, none⟩) (by simp) _⟩
  | true =>
    rw [hq] at hu
    rcases hu with ⟨_, rfl⟩ | ⟨hu, _⟩
    case inr => cases hu
    have x0 := hX2.cell 0
    have x1 := hX2.cell 1
    obtain ⟨k, rfl, hk⟩ := fineB_nat (right_fine2 hq)
    by_cases hk0 : k = 0
    · subst hk0
      have hPb : P = badG := by rw [hP]; unfold lowerGH; rw [hq]; rfl
      subst hPb
      clear hP hq htop
      go_wp2_with fail
      refine bodyPost_ret (results_hist rfl _ _ (w.heap.size + 1) _ _ rfl (((hR2.set 0 (.int .i64 0)).set 1 (.slice none 0 0)).eq (cs' := #[.int .i64 0, .slice none 0 0]) rfl)) rfl ?_
      exact ⟨⟨_, BinSl.nil _, .inr ⟨rfl, rfl, _, rfl⟩⟩, (hbw2.setCell (p := ⟨w.heap.size + 1, 0, none⟩) (by simp) _).setCell (p := ⟨w.heap.size + 1, 1, none⟩) (by simp) _⟩
    · have hki : ¬ (k : Int) = 0 := by omega
      have hkb : ((k : Int) == 0) = false := by rw [beq_eq_false_iff_ne]; omega
      have hPk : P = (((k : Int) - 1, coaP L), 0) := by
        rw [hP]
        unfold lowerGH
        rw [hq, decide_eq_true (show ((k : Int) ≠ 0) by omega), Int.toNat_natCast, coa_low hk0 hk (right_ok hq)]
        rfl
      have B1 := Lib.hid (gBegin1_any k hk L a l p W2 (HV.out.below hbw2) hlen htop hq)
      have HPK := Lib.hid hPk
      clear hP hPk hq htop c0 c1 z0 z1
      go_wp2_with fail
      refine B1.out.mono ?_
      rintro e W4 ⟨rfl, hWk, hMk, hb4⟩
      have hb24 : Below W2.heap.size W2 W4 := ((Below.refl _ W2).alloc (Nat.le_refl _) _).trans (hb4.mono (by omega))
      have hbw4 := hbw2.trans (hb24.mono hbw2.size)
      have hR4 := hR2.below hb24 hR2.lt
      have T1 := Lib.hid (callsIn_wide.1 (gCoarsen_in 12 (by decide) (w.heap.size + 2) (W2.heap.size + 2) (W2.heap.size + 1) (k : Int) L W4 hWk hMk (by omega) (by omega) (by omega) (by omega) (by unfold smallI; omega) (by unfold smallI; omega)))
      clear B1 hb4 hWk hMk x0 x1
      go_wp2_with fail
      refine T1.out.mono ?_
      rintro e W5 ⟨⟨ve, rfl⟩, hWk5, hMk5, hb5, hz5⟩
      have hbw5 : Below w.heap.size w W5 := hbw4.trans (hb5.mono (by omega))
      have hR5 := hR4.below hb5 (by omega)
      have hl5 : (coaP L).length ≤ 1000 := by have := coa_len L; omega
      have D1 := Lib.hid (callsIn_wide.1 (gDone_in 12 (by decide) (W2.heap.size + 2) (W2.heap.size + 1) ((k : Int) - 1) _ W5 hWk5 hMk5 hl5))
      clear T1 hWk5 hMk5 hb5 hl5
      go_wp2_with fail
      refine D1.out.mono ?_
      rintro e W6 ⟨⟨v6, rfl, hv6⟩, hb6⟩
      have hbw6 := hbw5.trans (hb6.mono hbw5.size)
      have hR6 := hR5.below hb6 hR5.lt
      obtain ⟨a6, l6, c6, rfl⟩ := hv6.form
      have hf6 := hv6.far hR6 ⟨_, _, _, rfl⟩
      have c0 := hR6.cell 0
      have c1 := hR6.cell 1
      have z0 := hR6.frozen 0
      have z1 := hR6.frozen 1
      have HF6 := Lib.hid hf6
      obtain ⟨k1, hk1⟩ : ∃ k1 : Int, k1 = (k : Int) - 1 := ⟨_, rfl⟩
      rw [← hk1] at HPK ⊢
      clear D1 hv6 hb6 hf6 hk1
      unfold hgV
      go_wp2_with fail
      refine bodyPost_ret (results_hist rfl _ _ (w.heap.size + 1) _ _ rfl (((hR6.set 0 (.int .i64 k1)).set 1 (.slice a6 l6 c6)).eq (cs' := #[.int .i64 k1, .slice a6 l6 c6]) rfl)) rfl ?_
      rw [HPK.out]
      exact ⟨⟨_, ((HF6.out.set ⟨w.heap.size + 1, 0, none⟩ rfl _).set ⟨w.heap.size + 1, 1, none⟩ rfl _).sl, .inl ⟨rfl, rfl⟩⟩, (hbw6.setCell (p := ⟨w.heap.size + 1, 0, none⟩) (by simp) _).setCell (p := ⟨w.heap.size + 1, 1, none⟩) (by simp) _⟩
end Go.Proofs.Ytpdedogdffolnaa
namespace Go.Proofs.Ytpdedogdffolnaa
open Go.RowKit Go.Shelf

set_option maxHeartbeats 2000000 in
set_option maxRecDepth 100000 in
theorem gAdd_any (f : Int) (L : List Bn) (v : Value) (x n : Nat) (w : World) (h : GOk f L) (hv : BinSl w v L) (hx : x ≤ topN) (hn : n ≤ topN) :
    Calls Try.prog 15 #[hgV f v, gV x, gV n] w fun e w' => GX (addG f L x n) e w' ∧ Below w.heap.size w w' := by
  obtain ⟨a, l, p, rfl⟩ := hv.form
  obtain ⟨W1, hW1⟩ : ∃ W1, W1 = ((w.alloc (.cells #[.int .i64 f, .slice a l p] 25)).alloc (.cells #[.int .i64 0, .slice none 0 0] 25)) := ⟨_, rfl⟩
  have hz1 : W1.heap.size = w.heap.size + 2 := by rw [hW1]; simp
  have hb1 : Below w.heap.size w W1 := by
    rw [hW1]
    exact (((Below.refl _ w).alloc (Nat.le_refl _) _).alloc (by simp) _)
  have hr1 : HasC W1 (w.heap.size + 1) 25 #[.int .i64 0, .slice none 0 0] := by rw [hW1]; exact HasC.at_ _ _ _ (by simp)
  have hba : Below w.heap.size w (W1.alloc (.cells #[gV x] 22)) := hb1.alloc (by omega) _
  have A1 := Lib.hid (gAddw_any f L (.slice a l p) x n W1.heap.size (W1.alloc (.cells #[gV x] 22)) h (hv.below hba) hx hn (HasC.new W1 _ _))
  have HB := Lib.hid hb1
  have HR := Lib.hid hr1
  have HW := Lib.hid hW1
  have HZ := Lib.hid hz1
  obtain ⟨P, hP⟩ : ∃ P, P = addG f L x n := ⟨_, rfl⟩
  rw [← hP] at A1 ⊢
  clear hb1 hr1 hz1 hW1 hP hv h hba
  unfold hgV at A1 ⊢
  go_enter Try.func15, Try.ntmps15
  go_wp2_with fail
  rw [← HW.out]
  have A2 := A1.out
  rw [HZ.out] at A2
  refine A2.mono ?_
  rintro e W2 ⟨hX, hb2⟩
  have hbw2 := HB.out.trans (((Below.refl W1.heap.size W1).alloc (Nat.le_refl _) (.cells #[gV x] 22)).trans (hb2.mono (by simp)) |>.mono HB.out.size)
  have hR2 : HasC W2 (w.heap.size + 1) 25 #[.int .i64 0, .slice none 0 0] := (HR.out.alloc _).below hb2 (by simp; have := HZ.out; omega)
  obtain ⟨v2, hv2, hor⟩ := hX
  obtain ⟨a2, l2, c2, rfl⟩ := hv2.form
  rcases hor with ⟨h0, rfl⟩ | ⟨hPb, hvn, s, rfl⟩
  · have K := Lib.hid (gTold_ok P.1.1 a2 l2 c2 W2)
    unfold hgV at K ⊢
    clear A1 A2 HB HR HW HZ hb2
    go_wp2_with fail
    refine K.out.mono ?_
    rintro e W3 ⟨rfl, hb3⟩
    have hbw3 := hbw2.trans (hb3.mono hbw2.size)
    have hR3 := hR2.below hb3 hR2.lt
    have hv3 := hv2.below hb3
    have hf3 := hv3.far hR3 ⟨_, _, _, rfl⟩
    have c0 := hR3.cell 0
    have c1 := hR3.cell 1
    have z0 := hR3.frozen 0
    have z1 := hR3.frozen 1
    have HF3 := Lib.hid hf3
    have H0 := Lib.hid h0
    clear K hv2 hv3 hb3 hf3 h0
    go_wp2_with fail
    refine bodyPost_ret (results_hist rfl _ _ (w.heap.size + 1) _ _ rfl (((hR3.set 0 (.int .i64 P.1.1)).set 1 (.slice a2 l2 c2)).eq (cs' := #[.int .i64 P.1.1, .slice a2 l2 c2]) rfl)) rfl ?_
    exact ⟨⟨_, by rw [H0.out]; rfl, ((HF3.out.set ⟨w.heap.size + 1, 0, none⟩ rfl _).set ⟨w.heap.size + 1, 1, none⟩ rfl _).sl⟩, (hbw3.setCell (p := ⟨w.heap.size + 1, 0, none⟩) (by simp) _).setCell (p := ⟨w.heap.size + 1, 1, none⟩) (by simp) _⟩
  · subst hPb
    have K := Lib.hid (gTold_bad 0 a2 l2 c2 s W2)
    unfold hgV at K ⊢
    clear A1 A2 HB HR HW HZ hb2 hv2
    go_wp2_with fail
    refine K.out.mono ?_
    rintro e W3 ⟨rfl, hb3⟩
    have hbw3 := hbw2.trans (hb3.mono hbw2.size)
    have hR3 := hR2.below hb3 hR2.lt
    have c0 := hR3.cell 0
    have c1 := hR3.cell 1
    have z0 := hR3.frozen 0
    have z1 := hR3.frozen 1
    clear K hb3
    go_wp2_with fail
    refine bodyPost_ret (results_hist rfl _ _ (w.heap.size + 1) _ _ rfl (((hR3.set 0 (.int .i64 0)).set 1 (.slice none 0 0)).eq (cs' := #[.int .i64 0, .slice none 0 0]) rfl)) rfl ?_
    exact ⟨⟨_, rfl, BinSl.nil _⟩, (hbw3.setCell (p := ⟨w.heap.size + 1, 0, none⟩) (by simp) _).setCell (p := ⟨w.heap.size + 1, 1, none⟩) (by simp) _⟩
set_option maxHeartbeats 2000000 in
set_option maxRecDepth 100000 in
theorem gMerge_any (f : Int) (L : List Bn) (v : Value) (g : Int) (M : List Bn) (u : Value) (w : World) (h : GOk f L) (h2 : GOk g M) (hv : BinSl w v L) (hu : BinSl w u M) :
    Calls Try.prog 22 #[hgV f v, hgV g u] w fun e w' => GX (mergeGH f L g M) e w' ∧ Below w.heap.size w w' := by
  obtain ⟨a, l, p, rfl⟩ := hv.form
  obtain ⟨b, m, q, rfl⟩ := hu.form
  obtain ⟨W1, hW1⟩ : ∃ W1, W1 = (((w.alloc (.cells #[.int .i64 f, .slice a l p] 25)).alloc (.cells #[.int .i64 g, .slice b m q] 25)).alloc (.cells #[.int .i64 0, .slice none 0 0] 25)) := ⟨_, rfl⟩
  have hz1 : W1.heap.size = w.heap.size + 3 := by rw [hW1]; simp
  have hb1 : Below w.heap.size w W1 := by
    rw [hW1]
    exact ((((Below.refl _ w).alloc (Nat.le_refl _) _).alloc (by simp) _).alloc (by simp; omega) _)
  have hr1 : HasC W1 (w.heap.size + 2) 25 #[.int .i64 0, .slice none 0 0] := by rw [hW1]; exact HasC.at_ _ _ _ (by simp)
  have A1 := Lib.hid (gMergew_any f L (.slice a l p) g M (.slice b m q) W1 h h2 (hv.below hb1) (hu.below hb1))
  have HB := Lib.hid hb1
  have HR := Lib.hid hr1
  have HW := Lib.hid hW1
  have HZ := Lib.hid hz1
  obtain ⟨P, hP⟩ : ∃ P, P = mergeGH f L g M := ⟨_, rfl⟩
  rw [← hP] at A1 ⊢
  clear hb1 hr1 hz1 hW1 hP hv hu h h2
  unfold hgV at A1 ⊢
  go_enter Try.func22, Try.ntmps22
  go_wp2_with fail
  rw [← HW.out]
  refine A1.out.mono ?_
  rintro e W2 ⟨hX, hb2⟩
  have hbw2 := HB.out.trans (hb2.mono HB.out.size)
  have hR2 : HasC W2 (w.heap.size + 2) 25 #[.int .i64 0, .slice none 0 0] := HR.out.below hb2 HR.out.lt
  obtain ⟨v2, hv2, hor⟩ := hX
  obtain ⟨a2, l2, c2, rfl⟩ := hv2.form
  rcases hor with ⟨h0, rfl⟩ | ⟨hPb, hvn, s, rfl⟩
  · have K := Lib.hid (gTold_ok P.1.1 a2 l2 c2 W2)
    unfold hgV at K ⊢
    clear A1 HB HR HW HZ hb2
    go_wp2_with fail
    refine K.out.mono ?_
    rintro e W3 ⟨rfl, hb3⟩
    have hbw3 := hbw2.trans (hb3.mono hbw2.size)
    have hR3 := hR2.below hb3 hR2.lt
    have hv3 := hv2.below hb3
    have hf3 := hv3.far hR3 ⟨_, _, _, rfl⟩
    have c0 := hR3.cell 0
    have c1 := hR3.cell 1
    have z0 := hR3.frozen 0
    have z1 := hR3.frozen 1
    have HF3 := Lib.hid hf3
    have H0 := Lib.hid h0
    clear K hv2 hv3 hb3 hf3 h0
    go_wp2_with fail
    refine bodyPost_ret (results_hist rfl _ _ (w.heap.size + 2) _ _ rfl (((hR3.set 0 (.int .i64 P.1.1)).set 1 (.slice a2 l2 c2)).eq (cs' := #[.int .i64 P.1.1, .slice a2 l2 c2]) rfl)) rfl ?_
    exact ⟨⟨_, by rw [H0.out]; rfl, ((HF3.out.set ⟨w.heap.size + 2, 0, none⟩ rfl _).set ⟨w.heap.size + 2, 1, none⟩ rfl _).sl⟩, (hbw3.setCell (p := ⟨w.heap.size + 2, 0, none⟩) (by simp) _).setCell (p := ⟨w.heap.size + 2, 1, none⟩) (by simp) _⟩
  · subst hPb
    have K := Lib.hid (gTold_bad 0 a2 l2 c2 s W2)
    unfold hgV at K ⊢
    clear A1 HB HR HW HZ hb2 hv2
    go_wp2_with fail
    refine K.out.mono ?_
    rintro e W3 ⟨rfl, hb3⟩
    have hbw3 := hbw2.trans (hb3.mono hbw2.size)
    have hR3 := hR2.below hb3 hR2.lt
    have c0 := hR3.cell 0
    have c1 := hR3.cell 1
    have z0 := hR3.frozen 0
    have z1 := hR3.frozen 1
    clear K hb3
    go_wp2_with fail
    refine bodyPost_ret (results_hist rfl _ _ (w.heap.size + 2) _ _ rfl (((hR3.set 0 (.int .i64 0)).set 1 (.slice none 0 0)).eq (cs' := #[.int .i64 0, .slice none 0 0]) rfl)) rfl ?_
    exact ⟨⟨_, rfl, BinSl.nil _⟩, (hbw3.setCell (p := ⟨w.heap.size + 2, 0, none⟩) (by simp) _).setCell (p := ⟨w.heap.size + 2, 1, none⟩) (by simp) _⟩
set_option maxHeartbeats 2000000 in
set_option maxRecDepth 100000 in
theorem gLower_any (f : Int) (L : List Bn) (v : Value) (w : World) (h : GOk f L) (hv : BinSl w v L) :
    Calls Try.prog 24 #[hgV f v] w fun e w' => GX (lowerGH f L) e w' ∧ Below w.heap.size w w' := by
  obtain ⟨a, l, p, rfl⟩ := hv.form
  obtain ⟨W1, hW1⟩ : ∃ W1, W1 = ((w.alloc (.cells #[.int .i64 f, .slice a l p] 25)).alloc (.cells #[.int .i64 0, .slice none 0 0] 25)) := ⟨_, rfl⟩
  have hz1 : W1.heap.size = w.heap.size + 2 := by rw [hW1]; simp
  have hb1 : Below w.heap.size w W1 := by
    rw [hW1]
    exact (((Below.refl _ w).alloc (Nat.le_refl _) _).alloc (by simp) _)
  have hr1 : HasC W1 (w.heap.size + 1) 25 #[.int .i64 0, .slice none 0 0] := by rw [hW1]; exact HasC.at_ _ _ _ (by simp)
  have A1 := Lib.hid (gLowerw_any f L (.slice a l p) W1 h (hv.below hb1))
  have HB := Lib.hid hb1
  have HR := Lib.hid hr1
  have HW := Lib.hid hW1
  have HZ := Lib.hid hz1
  obtain ⟨P, hP⟩ : ∃ P, P = lowerGH f L := ⟨_, rfl⟩
  rw [← hP] at A1 ⊢
  clear hb1 hr1 hz1 hW1 hP hv h
  unfold hgV at A1 ⊢
  go_enter Try.func24, Try.ntmps24
  go_wp2_with fail
  rw [← HW.out]
  refine A1.out.mono ?_
  rintro e W2 ⟨hX, hb2⟩
  have hbw2 := HB.out.trans (hb2.mono HB.out.size)
  have hR2 : HasC W2 (w.heap.size + 1) 25 #[.int .i64 0, .slice none 0 0] := HR.out.below hb2 HR.out.lt
  obtain ⟨v2, hv2, hor⟩ := hX
  obtain ⟨a2, l2, c2, rfl⟩ := hv2.form
  rcases hor with ⟨h0, rfl⟩ | ⟨hPb, hvn, s, rfl⟩
  · have K := Lib.hid (gTold_ok P.1.1 a2 l2 c2 W2)
    unfold hgV at K ⊢
    clear A1 HB HR HW HZ hb2
    go_wp2_with fail
    refine K.out.mono ?_
    rintro e W3 ⟨rfl, hb3⟩
    have hbw3 := hbw2.trans (hb3.mono hbw2.size)
    have hR3 := hR2.below hb3 hR2.lt
    have hv3 := hv2.below hb3
    have hf3 := hv3.far hR3 ⟨_, _, _, rfl⟩
    have c0 := hR3.cell 0
    have c1 := hR3.cell 1
    have z0 := hR3.frozen 0
    have z1 := hR3.frozen 1
    have HF3 := Lib.hid hf3
    have H0 := Lib.hid h0
    clear K hv2 hv3 hb3 hf3 h0
    go_wp2_with fail
    refine bodyPost_ret (results_hist rfl _ _ (w.heap.size + 1) _ _ rfl (((hR3.set 0 (.int .i64 P.1.1)).set 1 (.slice a2 l2 c2)).eq (cs' := #[.int .i64 P.1.1, .slice a2 l2 c2]) rfl)) rfl ?_
    exact ⟨⟨_, by rw [H0.out]; rfl, ((HF3.out.set ⟨w.heap.size + 1, 0, none⟩ rfl _).set ⟨w.heap.size + 1, 1, none⟩ rfl _).sl⟩, (hbw3.setCell (p := ⟨w.heap.size + 1, 0, none⟩) (by simp) _).setCell (p := ⟨w.heap.size + 1, 1, none⟩) (by simp) _⟩
  · subst hPb
    have K := Lib.hid (gTold_bad 0 a2 l2 c2 s W2)
    unfold hgV at K ⊢
    clear A1 HB HR HW HZ hb2 hv2
    go_wp2_with fail
    refine K.out.mono ?_
    rintro e W3 ⟨rfl, hb3⟩
    have hbw3 := hbw2.trans (hb3.mono hbw2.size)
    have hR3 := hR2.below hb3 hR2.lt
    have c0 := hR3.cell 0
    have c1 := hR3.cell 1
    have z0 := hR3.frozen 0
    have z1 := hR3.frozen 1
    clear K hb3
    go_wp2_with fail
    refine bodyPost_ret (results_hist rfl _ _ (w.heap.size + 1) _ _ rfl (((hR3.set 0 (.int .i64 0)).set 1 (.slice none 0 0)).eq (cs' := #[.int .i64 0, .slice none 0 0]) rfl)) rfl ?_
    exact ⟨⟨_, rfl, BinSl.nil _⟩, (hbw3.setCell (p := ⟨w.heap.size + 1, 0, none⟩) (by simp) _).setCell (p := ⟨w.heap.size + 1, 1, none⟩) (by simp) _⟩
end Go.Proofs.Ytpdedogdffolnaa
