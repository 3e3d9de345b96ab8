/- The page's own answers for layer 9: Merge. -/
import Derived.Test.YtpdedogdffolnaaGSame
import Derived.Test.YtpdedogdffolnaaQuietW
namespace Go.Proofs.Ytpdedogdffolnaa
open Go.RowKit

theorem merge_nextG {L M : List Bn} {k : Nat} (hk : k < M.length) : mergeG L (M.take (k + 1)) = putBn (mergeG L (M.take k)) M[k].1 M[k].2 := by
  unfold mergeG
  rw [List.take_succ_eq_append_getElem hk, List.foldl_append]
  rfl
theorem fold_len {α : Type} (q : α → Int) (c : α → Nat) (m : List α) : ∀ l : List Bn, (m.foldl (fun x y => putBn x (q y) (c y)) l).length ≤ l.length + m.length := by
  induction m with
  | nil => intro l; exact Nat.le_refl _
  | cons y t ih =>
    intro l
    rw [List.foldl_cons]
    have h1 := ih (putBn l (q y) (c y))
    have h2 := putBn_len l (q y) (c y)
    simp only [List.length_cons]
    omega
theorem merge_lenG (L M : List Bn) : (mergeG L M).length ≤ L.length + M.length := fold_len (fun y : Bn => y.1) (fun y => y.2) M L
set_option maxHeartbeats 4000000 in
set_option maxRecDepth 100000 in
theorem pMerge9_in (q : Nat) (h5 : 5 ≤ q) (f : Int) (L : List Bn) (v : Value) (g : Int) (M : List Bn) (u : Value) (w : World) (hv : BinSl w v L) (hu : BinSl w u M) (hn : L.length ≤ 400) (hm : M.length ≤ 400) (hM : ∀ y ∈ M, y.2 ≤ topN) :
    CallsIn Fence.wide q Try.prog 23 #[hgV f v, hgV g u] w fun e w' => GX (mergeGH f L g M) e w' ∧ Below w.heap.size w w' := by
  obtain ⟨W0, hW0⟩ : ∃ W0, W0 = ((w.alloc (Obj.cells #[.int .i64 f, v] 25)).alloc (Obj.cells #[.int .i64 g, u] 25)).alloc (Obj.cells #[.int .i64 0, .slice none 0 0] 25) := ⟨_, rfl⟩
  have hz0 : W0.heap.size = w.heap.size + 3 := by rw [hW0]; simp
  have hb0 : Below w.heap.size w W0 := by rw [hW0]; exact (((Below.refl w.heap.size w).alloc (Nat.le_refl _) _).alloc (by simp) _).alloc (by simp; omega) _
  have hx0 : HasC W0 w.heap.size 25 #[.int .i64 f, v] := by rw [hW0]; exact ((HasC.new w _ _).alloc _).alloc _
  have hy0 : HasC W0 (w.heap.size + 1) 25 #[.int .i64 g, u] := by rw [hW0]; exact (HasC.at_ _ _ _ (by simp)).alloc _
  have hr0 : HasC W0 (w.heap.size + 2) 25 #[.int .i64 0, .slice none 0 0] := by rw [hW0]; exact HasC.at_ _ _ _ (by simp)
  have R1 := Lib.hid (fun W hs => pRight9_any f L v W hs (by omega))
  have R2 := Lib.hid (fun W hs => pRight9_any g M u W hs (by omega))
  have HSV := Lib.hid hv
  have HSU := Lib.hid hu
  have HB := Lib.hid hb0
  have HX := Lib.hid hx0
  have HY := Lib.hid hy0
  have HR := Lib.hid hr0
  have HZ := Lib.hid hz0
  obtain ⟨ao, l, c, rfl⟩ := hv.form
  obtain ⟨bo, d, rfl, hd⟩ := hu.shape
  obtain ⟨m, hmm⟩ : ∃ m, m = M.length := ⟨_, rfl⟩
  have HM := Lib.hid hmm
  have HD := Lib.hid hd
  have HMM := Lib.hid hM
  obtain ⟨P, hPP⟩ : ∃ P, mergeGH f L g M = P := ⟨_, rfl⟩
  rw [hPP]
  rw [← hmm] at hm R2 HY HSU hW0 ⊢
  subst hW0
  clear hb0 hx0 hy0 hr0 hz0 hv hu hd hmm hM
  unfold hgV at R1 R2 ⊢
  refine callsIn_of_wp Try.func23 rfl trivial ?_ rfl
  simp only [Try.ntmps23, List.size_toArray, List.length_cons, List.length_nil, Nat.reduceAdd, Nat.reduceSub, Array.replicate_succ, Array.replicate_zero, List.push_toArray, List.append_toArray, List.nil_append, List.cons_append]
  have bad : ∀ w1, Below (((w.alloc (Obj.cells #[.int .i64 f, .slice ao l c] 25)).alloc (Obj.cells #[.int .i64 g, .slice bo m d] 25)).alloc (Obj.cells #[.int .i64 0, .slice none 0 0] 25)).heap.size (((w.alloc (Obj.cells #[.int .i64 f, .slice ao l c] 25)).alloc (Obj.cells #[.int .i64 g, .slice bo m d] 25)).alloc (Obj.cells #[.int .i64 0, .slice none 0 0] 25)) w1 →
      HasC w1 w.heap.size 25 #[.int .i64 f, .slice ao l c] ∧ HasC w1 (w.heap.size + 1) 25 #[.int .i64 g, .slice bo m d] ∧ HasC w1 (w.heap.size + 2) 25 #[.int .i64 0, .slice none 0 0] ∧ Below w.heap.size w w1 := fun w1 hb => ⟨HX.out.below hb HX.out.lt, HY.out.below hb HY.out.lt, HR.out.below hb HR.out.lt, HB.out.trans (hb.mono HB.out.size)⟩
  have BAD := Lib.hid bad
  clear bad
  cases hq1 : rightG f L with
  | false =>
    rw [hq1] at R1
    have HP : Hid (P = badG) := by show _ = _; rw [← hPP]; unfold mergeGH; rw [hq1]; rfl
    clear hq1 hPP
    gi_wp2_with fail
    refine ⟨trivial, fun _ => by omega, ?_⟩
    refine (callsIn_wide.2 (R1.out _ (HSV.out.below HB.out))).mono ?_
    rintro e w1 ⟨rfl, hb⟩
    obtain ⟨_, _, hr1, hb1⟩ := BAD.out w1 hb
    have c0 := hr1.cell 0
    have c1 := hr1.cell 1
    have z0 := hr1.frozen 0
    have z1 := hr1.frozen 1
    have HR1 := Lib.hid hr1
    clear hb hr1
    gi_wp2_with fail
    refine ⟨trivial, ?_⟩
    gi_wp2_with fail
    refine bodyPost_ret (results_hist rfl _ _ (w.heap.size + 2) _ _ rfl (((HR1.out.set 0 (.int .i64 0)).set 1 (.slice none 0 0)).eq (cs' := #[.int .i64 0, .slice none 0 0]) rfl)) rfl ?_
    rw [HP.out]
    exact ⟨⟨_, rfl, BinSl.nil _⟩, (hb1.setCell (p := ⟨w.heap.size + 2, 0, none⟩) (by simp) _).setCell (p := ⟨w.heap.size + 2, 1, none⟩) (by simp) _⟩
  | true =>
    rw [hq1] at R1
    cases hq2 : rightG g M with
    | false =>
      rw [hq2] at R2
      have HP : Hid (P = badG) := by show _ = _; rw [← hPP]; unfold mergeGH; rw [hq2, Bool.false_and, Bool.and_false]; rfl
      clear hq1 hq2 hPP
      gi_wp2_with fail
      refine ⟨trivial, fun _ => by omega, ?_⟩
      refine (callsIn_wide.2 (R1.out _ (HSV.out.below HB.out))).mono ?_
      rintro e w1 ⟨rfl, hb⟩
      obtain ⟨_, hy1, hr1, hb1⟩ := BAD.out w1 hb
      have l0 := hy1.cell 0
      have l1 := hy1.cell 1
      clear hb
      gi_wp2_with fail
      refine ⟨trivial, fun _ => by omega, ?_⟩
      refine (callsIn_wide.2 (R2.out _ (HSU.out.below hb1))).mono ?_
      rintro e w2 ⟨rfl, hb⟩
      have hr2 := hr1.below hb hr1.lt
      have hb2 := hb1.trans (hb.mono hb1.size)
      have c0 := hr2.cell 0
      have c1 := hr2.cell 1
      have z0 := hr2.frozen 0
      have z1 := hr2.frozen 1
      have HR1 := Lib.hid hr2
      clear hb hr1 hr2 hb1 hy1
      gi_wp2_with fail
      refine bodyPost_ret (results_hist rfl _ _ (w.heap.size + 2) _ _ rfl (((HR1.out.set 0 (.int .i64 0)).set 1 (.slice none 0 0)).eq (cs' := #[.int .i64 0, .slice none 0 0]) rfl)) rfl ?_
      rw [HP.out]
      exact ⟨⟨_, rfl, BinSl.nil _⟩, (hb2.setCell (p := ⟨w.heap.size + 2, 0, none⟩) (by simp) _).setCell (p := ⟨w.heap.size + 2, 1, none⟩) (by simp) _⟩
    | true =>
      rw [hq2] at R2
      by_cases hfg : f = g
      case neg =>
        have HP : Hid (P = badG) := by show _ = _; rw [← hPP]; unfold mergeGH; rw [decide_eq_false hfg, Bool.and_false, Bool.and_false]; rfl
        have hq : (f != g) = true := by simp [hfg]
        clear hq1 hq2 hPP hfg
        gi_wp2_with fail
        refine ⟨trivial, fun _ => by omega, ?_⟩
        refine (callsIn_wide.2 (R1.out _ (HSV.out.below HB.out))).mono ?_
        rintro e w1 ⟨rfl, hb⟩
        obtain ⟨hx1, hy1, hr1, hb1⟩ := BAD.out w1 hb
        have l0 := hy1.cell 0
        have l1 := hy1.cell 1
        clear hb
        gi_wp2_with fail
        refine ⟨trivial, fun _ => by omega, ?_⟩
        refine (callsIn_wide.2 (R2.out _ (HSU.out.below hb1))).mono ?_
        rintro e w2 ⟨rfl, hb⟩
        have hr2 := hr1.below hb hr1.lt
        have hx2 := hx1.below hb hx1.lt
        have hy2 := hy1.below hb hy1.lt
        have hb2 := hb1.trans (hb.mono hb1.size)
        have c0 := hr2.cell 0
        have c1 := hr2.cell 1
        have z0 := hr2.frozen 0
        have z1 := hr2.frozen 1
        have k0 := hx2.cell 0
        have m0 := hy2.cell 0
        have HR1 := Lib.hid hr2
        clear hb hr1 hr2 hb1 hy1 hx1 l0 l1 hx2 hy2
        gi_wp2_with fail
        refine bodyPost_ret (results_hist rfl _ _ (w.heap.size + 2) _ _ rfl (((HR1.out.set 0 (.int .i64 0)).set 1 (.slice none 0 0)).eq (cs' := #[.int .i64 0, .slice none 0 0]) rfl)) rfl ?_
        rw [HP.out]
        exact ⟨⟨_, rfl, BinSl.nil _⟩, (hb2.setCell (p := ⟨w.heap.size + 2, 0, none⟩) (by simp) _).setCell (p := ⟨w.heap.size + 2, 1, none⟩) (by simp) _⟩
      case pos =>
        subst hfg
        have hP : P = ((f, mergeG L M), 0) := by rw [← hPP]; unfold mergeGH; rw [hq1, hq2, decide_eq_true rfl]; rfl
        have hq : (f != f) = false := by simp
        have HP := Lib.hid hP
        clear hq1 hq2 hPP hP
        gi_wp2_with fail
        refine ⟨trivial, fun _ => by omega, ?_⟩
        refine (callsIn_wide.2 (R1.out _ (HSV.out.below HB.out))).mono ?_
        rintro e w1 ⟨rfl, hb⟩
        obtain ⟨hx1, hy1, hr1, hb1⟩ := BAD.out w1 hb
        have l0 := hy1.cell 0
        have l1 := hy1.cell 1
        clear hb
        gi_wp2_with fail
        refine ⟨trivial, fun _ => by omega, ?_⟩
        refine (callsIn_wide.2 (R2.out _ (HSU.out.below hb1))).mono ?_
        rintro e w2 ⟨rfl, hb⟩
        have hr2 := hr1.below hb hr1.lt
        have hx2 := hx1.below hb hx1.lt
        have hy2 := hy1.below hb hy1.lt
        have hb2 := hb1.trans (hb.mono hb1.size)
        have k0 := hx2.cell 0
        have k1 := hx2.cell 1
        have m0 := hy2.cell 0
        have hs2 := HSV.out.below hb2
        clear hb hr1 hb1 hy1 hx1 l0 l1
        gi_wp2_with fail
        clear k0 k1 m0
        gi_loopw [6, 7] (fun z i wr => ∃ k : Nat, k ≤ m ∧ i = .int .i64 (k : Int) ∧ BinSl wr z (mergeG L (M.take k)) ∧ HasC wr w.heap.size 25 #[.int .i64 f, .slice ao l c] ∧ HasC wr (w.heap.size + 1) 25 #[.int .i64 f, .slice bo m d] ∧ HasC wr (w.heap.size + 2) 25 #[.int .i64 0, .slice none 0 0] ∧ Below w.heap.size w wr) (fun _ i _ => m - (intOf i).toNat)
        case atStart => exact ⟨0, Nat.zero_le _, rfl, by rw [List.take_zero]; exact hs2, hx2, hy2, hr2, hb2⟩
        case round =>
          obtain ⟨k, hk, rfl, hs, hx3, hy3, hr3, hb3⟩ := hrel
          clear hs2 hx2 hy2 hr2 hb2
          obtain ⟨sa, sn, sc, rfl⟩ := hs.form
          have m1 := hy3.cell 1
          by_cases hlt : k < m
          · have hltI : (k : Int) < (m : Int) := by omega
            have hkm : k < M.length := by have := HM.out; omega
            obtain ⟨g2, o2, rfl, hdw⟩ := HD.out k hkm
            have hnx := merge_nextG (L := L) hkm
            have hlen : (mergeG L (M.take k)).length ≤ 1000 := by
              have := merge_lenG L (M.take k)
              rw [List.length_take] at this
              omega
            have hyt := HMM.out _ (List.getElem_mem hkm)
            obtain ⟨⟨xa, xn⟩, hx⟩ : ∃ x, M[k] = x := ⟨_, rfl⟩
            rw [hx] at hdw hnx hyt
            dsimp only at hdw hnx hyt
            have HNX := Lib.hid hnx
            have T1 := Lib.hid (fun W hs => pPut_any (mergeG L (M.take k)) xa xn (.slice sa sn sc) W hs hlen hyt)
            obtain ⟨D, hDk, hDd⟩ : ∃ D : World → Prop, (∀ W, D W → Below wr.heap.size wr W) ∧ (∀ W, Below wr.heap.size wr W → D W) := ⟨_, fun _ h => h, fun _ h => h⟩
            have hbw := fun W (h : D W) => hb3.trans ((hDk W h).mono hb3.size)
            have E2 : ∀ i : InC D, i.w.cell? ⟨w.heap.size + 1, 1, none⟩ = some (.slice (some ⟨g2, o2, none⟩) m d) := fun i => (hy3.below (hDk _ i.h) hy3.lt).cell 1
            have E3 : ∀ i : InC D, i.w.cell? ⟨g2, o2 + k * 2, none⟩ = some (.int .i64 xa) := fun i => (hdw _ (hbw _ i.h)).1
            have E4 : ∀ i : InC D, i.w.cell? ⟨g2, o2 + k * 2 + 1, none⟩ = some (gV xn) := fun i => (hdw _ (hbw _ i.h)).2
            have HDD := Lib.hid hDd
            have HS3 := Lib.hid hs
            have HX3 := Lib.hid hx3
            have HY3 := Lib.hid hy3
            have HR3 := Lib.hid hr3
            have HB3 := Lib.hid hb3
            clear hDk hDd hbw hdw hnx hyt hlen hx hkm hs hx3 hy3 hr3 hb3
            gi_wp2_with fail
            refine region_heldIn 14 [0, 1, 2, 3, 4, 5, 6, 7, 8, 9, 10, 11, 12] [13] D (by kernel_rfl) (FOk.wide _) (by kernel_rfl) (by intro c a d v w h; cases d <;> exact h) (HDD.out _ (Below.refl _ _).drew) ?_
            intro hne
            simp only [pickL, nthL]
            repeat (go_big_quiet_step (fail))
            refine wpQuiet_nil ?_
            intro Q1 hQ1
            clear E2 E3 E4 m1
            gi_wp2_with fail
            refine ⟨trivial, fun _ => by omega, ?_⟩
            refine (callsIn_wide.2 (T1.out _ (HS3.out.below ((Below.refl _ _).drew)))).mono ?_
            rintro e W4 ⟨⟨v4, rfl, hv4⟩, hb4⟩
            have hb14 : Below wr.heap.size wr W4 := (Below.refl wr.heap.size wr).drew.trans hb4
            rw [← HNX.out] at hv4
            have HV4 := Lib.hid hv4
            have HB14 := Lib.hid hb14
            clear hb4 hv4 hb14
            gi_wp2_with fail
            refine hQ1.out _ _ ⟨⟨W4, HDD.out _ HB14.out⟩, rfl⟩ ?_
            simp only [heavyRun, List.drop_succ_cons, List.drop_zero]
            clear hQ1 hne
            gi_wp2_with fail
            go_roundw
            case rel => exact ⟨k + 1, by omega, by go_num, HV4.out, HX3.out.below HB14.out HX3.out.lt, HY3.out.below HB14.out HY3.out.lt, HR3.out.below HB14.out HR3.out.lt, HB3.out.trans (HB14.out.mono HB3.out.size)⟩
            case measure => simp [intOf]; omega
          · obtain rfl : k = m := by omega
            have hnl : ¬ (k : Int) < (k : Int) := by omega
            rw [List.take_of_length_le (by rw [HM.out]; exact Nat.le_refl _)] at hs
            have k0 := hx3.cell 0
            have c0 := hr3.cell 0
            have c1 := hr3.cell 1
            have z0 := hr3.frozen 0
            have z1 := hr3.frozen 1
            have HF4 := Lib.hid (hs.far hr3 ⟨_, _, _, rfl⟩)
            have HR4 := Lib.hid hr3
            have HB4 := Lib.hid hb3
            clear hs hx3 hy3 hr3 hb3
            gi_wp2_with fail
            refine bodyPost_ret (results_hist rfl _ _ (w.heap.size + 2) _ _ rfl (((HR4.out.set 0 (.int .i64 f)).set 1 (.slice sa sn sc)).eq (cs' := #[.int .i64 f, .slice sa sn sc]) rfl)) rfl ?_
            rw [HP.out]
            exact ⟨⟨_, rfl, ((HF4.out.set ⟨w.heap.size + 2, 0, none⟩ rfl _).set ⟨w.heap.size + 2, 1, none⟩ rfl _).sl⟩, (HB4.out.setCell (p := ⟨w.heap.size + 2, 0, none⟩) (by simp) _).setCell (p := ⟨w.heap.size + 2, 1, none⟩) (by simp) _⟩
theorem pMerge9_any (f : Int) (L : List Bn) (v : Value) (g : Int) (M : List Bn) (u : Value) (w : World) (hv : BinSl w v L) (hu : BinSl w u M) (hn : L.length ≤ 400) (hm : M.length ≤ 400) (hM : ∀ y ∈ M, y.2 ≤ topN) :
    Calls Try.prog 23 #[hgV f v, hgV g u] w fun e w' => GX (mergeGH f L g M) e w' ∧ Below w.heap.size w w' := callsIn_wide.1 (pMerge9_in 6 (by decide) f L v g M u w hv hu hn hm hM)
end Go.Proofs.Ytpdedogdffolnaa
