/- The page's own answers for layer 9: Lower. -/
import Derived.Test.YtpdedogdffolnaaGMrg
namespace Go.Proofs.Ytpdedogdffolnaa
open Go.RowKit

theorem low_nextG {f : Nat} {L : List Bn} {k : Nat} (hk : k < L.length) : lowG f (L.take (k + 1)) = putBn (lowG f (L.take k)) (bktP (f - 1) (loP f L[k].1.toNat) : Int) L[k].2 := by
  unfold lowG
  rw [List.take_succ_eq_append_getElem hk, List.foldl_append]
  rfl
theorem low_lenG (f : Nat) (L : List Bn) : (lowG f L).length ≤ L.length := by
  have := fold_len (fun y : Bn => (bktP (f - 1) (loP f y.1.toNat) : Int)) (fun y => y.2) L []
  unfold lowG
  simpa using this
set_option maxHeartbeats 4000000 in
set_option maxRecDepth 100000 in
theorem pLower9_in (q : Nat) (h5 : 5 ≤ q) (f : Int) (L : List Bn) (v : Value) (w : World) (hv : BinSl w v L) (hn : L.length ≤ 400) (hL : ∀ y ∈ L, y.2 ≤ topN) :
    CallsIn Fence.wide q Try.prog 25 #[hgV f v] w fun e w' => GX (lowerGH f L) e w' ∧ Below w.heap.size w w' := by
  obtain ⟨W0, hW0⟩ : ∃ W0, W0 = (w.alloc (Obj.cells #[.int .i64 f, v] 25)).alloc (Obj.cells #[.int .i64 0, .slice none 0 0] 25) := ⟨_, rfl⟩
  have hz0 : W0.heap.size = w.heap.size + 2 := by rw [hW0]; simp
  have hb0 : Below w.heap.size w W0 := by rw [hW0]; exact ((Below.refl w.heap.size w).alloc (Nat.le_refl _) _).alloc (by simp) _
  have hx0 : HasC W0 w.heap.size 25 #[.int .i64 f, v] := by rw [hW0]; exact (HasC.new w _ _).alloc _
  have hr0 : HasC W0 (w.heap.size + 1) 25 #[.int .i64 0, .slice none 0 0] := by rw [hW0]; exact HasC.at_ _ _ _ (by simp)
  have R1 := Lib.hid (fun W hs => pRight9_any f L v W hs (by omega))
  have HSV := Lib.hid hv
  have HB := Lib.hid hb0
  have HX := Lib.hid hx0
  have HR := Lib.hid hr0
  have HZ := Lib.hid hz0
  obtain ⟨ao, c, rfl, hd⟩ := hv.shape
  obtain ⟨l, hmm⟩ : ∃ l, l = L.length := ⟨_, rfl⟩
  have HM := Lib.hid hmm
  have HD := Lib.hid hd
  have HMM := Lib.hid hL
  obtain ⟨P, hPP⟩ : ∃ P, lowerGH f L = P := ⟨_, rfl⟩
  rw [hPP]
  rw [← hmm] at hn R1 HX HSV hW0 ⊢
  subst hW0
  clear hb0 hx0 hr0 hz0 hv hd hmm hL
  unfold hgV at R1 ⊢
  refine callsIn_of_wp Try.func25 rfl trivial ?_ rfl
  simp only [Try.ntmps25, List.size_toArray, List.length_cons, List.length_nil, Nat.reduceAdd, Nat.reduceSub, Array.replicate_succ, Array.replicate_zero, List.push_toArray, List.append_toArray, List.nil_append, List.cons_append]
  have bad : ∀ w1, Below ((w.alloc (Obj.cells #[.int .i64 f, .slice ao l c] 25)).alloc (Obj.cells #[.int .i64 0, .slice none 0 0] 25)).heap.size ((w.alloc (Obj.cells #[.int .i64 f, .slice ao l c] 25)).alloc (Obj.cells #[.int .i64 0, .slice none 0 0] 25)) w1 →
      HasC w1 w.heap.size 25 #[.int .i64 f, .slice ao l c] ∧ HasC w1 (w.heap.size + 1) 25 #[.int .i64 0, .slice none 0 0] ∧ Below w.heap.size w w1 := fun w1 hb => ⟨HX.out.below hb HX.out.lt, HR.out.below hb HR.out.lt, HB.out.trans (hb.mono HB.out.size)⟩
  have BAD := Lib.hid bad
  clear bad
  cases hq1 : rightG f L with
  | false =>
    rw [hq1] at R1
    have HP : Hid (P = badG) := by show _ = _; rw [← hPP]; unfold lowerGH; rw [hq1]; rfl
    clear hq1 hPP
    gi_wp2_with fail
    refine ⟨trivial, fun _ => by omega, ?_⟩
    refine (callsIn_wide.2 (R1.out _ (HSV.out.below HB.out))).mono ?_
    rintro e w1 ⟨rfl, hb⟩
    obtain ⟨_, hr1, hb1⟩ := BAD.out w1 hb
    have c0 := hr1.cell 0
    have c1 := hr1.cell 1
    have z0 := hr1.frozen 0
    have z1 := hr1.frozen 1
    have HR1 := Lib.hid hr1
    clear hb hr1
    gi_wp2_with fail
    refine bodyPost_ret (results_hist rfl _ _ (w.heap.size + 1) _ _ rfl (((HR1.out.set 0 (.int .i64 0)).set 1 (.slice none 0 0)).eq (cs' := #[.int .i64 0, .slice none 0 0]) rfl)) rfl ?_
    rw [HP.out]
    exact ⟨⟨_, rfl, BinSl.nil _⟩, (hb1.setCell (p := ⟨w.heap.size + 1, 0, none⟩) (by simp) _).setCell (p := ⟨w.heap.size + 1, 1, none⟩) (by simp) _⟩
  | true =>
    by_cases hf0 : f = 0
    case pos =>
      have HP : Hid (P = badG) := by show _ = _; rw [← hPP]; unfold lowerGH; rw [hf0, decide_eq_false (fun h => h rfl), Bool.and_false]; rfl
      have hq : (f == 0) = true := by simp [hf0]
      rw [hq1] at R1
      clear hq1 hPP hf0
      gi_wp2_with fail
      refine ⟨trivial, fun _ => by omega, ?_⟩
      refine (callsIn_wide.2 (R1.out _ (HSV.out.below HB.out))).mono ?_
      rintro e w1 ⟨rfl, hb⟩
      obtain ⟨hx1, hr1, hb1⟩ := BAD.out w1 hb
      have k0 := hx1.cell 0
      have c0 := hr1.cell 0
      have c1 := hr1.cell 1
      have z0 := hr1.frozen 0
      have z1 := hr1.frozen 1
      have HR1 := Lib.hid hr1
      clear hb hr1 hx1
      gi_wp2_with fail
      refine bodyPost_ret (results_hist rfl _ _ (w.heap.size + 1) _ _ rfl (((HR1.out.set 0 (.int .i64 0)).set 1 (.slice none 0 0)).eq (cs' := #[.int .i64 0, .slice none 0 0]) rfl)) rfl ?_
      rw [HP.out]
      exact ⟨⟨_, rfl, BinSl.nil _⟩, (hb1.setCell (p := ⟨w.heap.size + 1, 0, none⟩) (by simp) _).setCell (p := ⟨w.heap.size + 1, 1, none⟩) (by simp) _⟩
    case neg =>
      have HP : Hid (P = ((f - 1, lowG f.toNat L), 0)) := by show _ = _; rw [← hPP]; unfold lowerGH; rw [hq1, decide_eq_true hf0]; rfl
      have hq : (f == 0) = false := by simp [hf0]
      have hfb : fineB f = true := ((Bool.and_eq_true _ _).mp hq1).1
      have hall : L.all (binB f) = true := ((Bool.and_eq_true _ _).mp ((Bool.and_eq_true _ _).mp hq1).2).1
      have hf1 : 1 ≤ f := by have := of_decide_eq_true ((Bool.and_eq_true _ _).mp hfb).1; omega
      have hf3 : f ≤ 3 := of_decide_eq_true ((Bool.and_eq_true _ _).mp hfb).2
      have hok : ∀ k (hk : k < L.length), boundsI f L[k].1 = (loP f.toNat L[k].1.toNat, hiP f.toNat L[k].1.toNat, true) ∧ loP f.toNat L[k].1.toNat ≤ topN := by
        intro k hk
        have h1 := List.all_eq_true.mp hall _ (List.getElem_mem hk)
        unfold binB at h1
        rw [Bool.and_eq_true, Bool.and_eq_true] at h1
        have h2 := h1.2.1
        refine ⟨?_, ?_⟩
        · unfold boundsI
          rw [hfb, h2]
          rfl
        · have h3 := hi_lt ((Bool.and_eq_true _ _).mp h2).2
          have h4 := lo_le_hi f.toNat L[k].1.toNat
          have h5 : topN = 2 ^ 64 - 1 := rfl
          omega
      have hbk : ∀ x, bucketI (f - 1) x = bktP (f.toNat - 1) x := by
        intro x
        unfold bucketI
        rw [show fineB (f - 1) = true from by unfold fineB; rw [decide_eq_true (by omega), decide_eq_true (by omega)]; rfl, if_pos rfl, show (f - 1).toNat = f.toNat - 1 by omega]
      have HOK := Lib.hid hok
      have HBK := Lib.hid hbk
      rw [hq1] at R1
      clear hq1 hPP hf0 hfb hall hok hbk
      gi_wp2_with fail
      refine ⟨trivial, fun _ => by omega, ?_⟩
      refine (callsIn_wide.2 (R1.out _ (HSV.out.below HB.out))).mono ?_
      rintro e w1 ⟨rfl, hb⟩
      obtain ⟨hx2, hr2, hb2⟩ := BAD.out w1 hb
      have k0 := hx2.cell 0
      clear hb
      gi_wp2_with fail
      clear k0
      gi_loopw [4, 5] (fun z i wr => ∃ k : Nat, k ≤ l ∧ i = .int .i64 (k : Int) ∧ BinSl wr z (lowG f.toNat (L.take k)) ∧ HasC wr w.heap.size 25 #[.int .i64 f, .slice ao l c] ∧ HasC wr (w.heap.size + 1) 25 #[.int .i64 0, .slice none 0 0] ∧ Below w.heap.size w wr) (fun _ i _ => l - (intOf i).toNat)
      case atStart => exact ⟨0, Nat.zero_le _, rfl, by rw [List.take_zero]; exact BinSl.nil _, hx2, hr2, hb2⟩
      case round =>
        obtain ⟨k, hk, rfl, hs, hx3, hr3, hb3⟩ := hrel
        clear hx2 hr2 hb2
        obtain ⟨sa, sn, sc, rfl⟩ := hs.form
        have m1 := hx3.cell 1
        by_cases hlt : k < l
        · have hltI : (k : Int) < (l : Int) := by omega
          have hkm : k < L.length := by have := HM.out; omega
          obtain ⟨g2, o2, rfl, hdw⟩ := HD.out k hkm
          have hnx := low_nextG (f := f.toNat) hkm
          have hlen : (lowG f.toNat (L.take k)).length ≤ 1000 := by
            have := low_lenG f.toNat (L.take k)
            rw [List.length_take] at this
            omega
          have hyt := HMM.out _ (List.getElem_mem hkm)
          obtain ⟨hbd, hlo⟩ := HOK.out k hkm
          obtain ⟨⟨xa, xn⟩, hx⟩ : ∃ x, L[k] = x := ⟨_, rfl⟩
          rw [hx] at hdw hnx hyt hbd hlo
          dsimp only at hdw hnx hyt hbd hlo
          obtain ⟨lo, hloE⟩ : ∃ lo, loP f.toNat xa.toNat = lo := ⟨_, rfl⟩
          obtain ⟨hi, hhiE⟩ : ∃ hi, hiP f.toNat xa.toNat = hi := ⟨_, rfl⟩
          rw [hloE, hhiE] at hbd
          rw [hloE] at hnx hlo
          have B1 := Lib.hid (fun W => pBounds_any f xa W)
          rw [hbd] at B1
          have K1 := Lib.hid (fun W => pBucket_any (f - 1) lo W hlo)
          rw [HBK.out lo] at K1
          obtain ⟨b, hbE⟩ : ∃ b : Int, b = (bktP (f.toNat - 1) lo : Int) := ⟨_, rfl⟩
          rw [← hbE] at hnx K1
          have HNX := Lib.hid hnx
          have T1 := Lib.hid (fun W hs => pPut_any (lowG f.toNat (L.take k)) b xn (.slice sa sn sc) W hs hlen hyt)
          obtain ⟨D, hDk, hDd⟩ : ∃ D : World → Prop, (∀ W, D W → Below wr.heap.size wr W) ∧ (∀ W, Below wr.heap.size wr W → D W) := ⟨_, fun _ h => h, fun _ h => h⟩
          have hbw := fun W (h : D W) => hb3.trans ((hDk W h).mono hb3.size)
          have E1 : ∀ i : InC D, i.w.cell? ⟨w.heap.size, 0, none⟩ = some (.int .i64 f) := fun i => (hx3.below (hDk _ i.h) hx3.lt).cell 0
          have E2 : ∀ i : InC D, i.w.cell? ⟨w.heap.size, 1, none⟩ = some (.slice (some ⟨g2, o2, none⟩) l c) := fun i => (hx3.below (hDk _ i.h) hx3.lt).cell 1
          have E3 : ∀ i : InC D, i.w.cell? ⟨g2, o2 + k * 2, none⟩ = some (.int .i64 xa) := fun i => (hdw _ (hbw _ i.h)).1
          have E4 : ∀ i : InC D, i.w.cell? ⟨g2, o2 + k * 2 + 1, none⟩ = some (gV xn) := fun i => (hdw _ (hbw _ i.h)).2
          have HDD := Lib.hid hDd
          have HDK := Lib.hid hDk
          have HS3 := Lib.hid hs
          have HX3 := Lib.hid hx3
          have HR3 := Lib.hid hr3
          have HB3 := Lib.hid hb3
          clear hDk hDd hbw hdw hnx hyt hlen hx hkm hs hx3 hr3 hb3 hbd hlo hloE hhiE hbE
          unfold bndV at B1
          gi_wp2_with fail
          refine region_tailW 15 D (by kernel_rfl) (by kernel_rfl) (HDD.out _ (Below.refl _ _).drew) ?_
          intro hne
          simp only [List.take_succ_cons, List.take_zero]
          repeat (go_big_quiet_step (((with_reducible refine (B1.out _).mono ?_); rintro e w' ⟨rfl, nn, rfl⟩; exact ⟨rfl, ⟨_, HDD.out _ (bel_drewN (HDK.out _ (InC.h _)) nn)⟩, rfl⟩)))
          refine wpQuiet_nil ?_
          intro j
          simp only [List.drop_succ_cons, List.drop_zero]
          have HDJ := Lib.hid (HDK.out _ j.h)
          clear hne
          gi_wp2_with fail
          refine region_heldIn 13 [0, 1, 2, 3, 4, 6, 7, 8, 9, 10, 11] [5, 12] D (by kernel_rfl) (FOk.wide _) (by kernel_rfl) (by intro c a d v w h; cases d <;> exact h) (HDD.out _ HDJ.out.drew) ?_
          intro hne
          simp only [pickL, nthL]
          repeat (go_big_quiet_step (fail))
          refine wpQuiet_nil ?_
          intro Q1 hQ1
          clear E1 E2 E3 E4 m1
          gi_wp2_with fail
          refine ⟨trivial, fun _ => by omega, ?_⟩
          refine (callsIn_wide.2 (K1.out _)).mono ?_
          rintro e W3 ⟨rfl, rfl⟩
          gi_wp2_with fail
          refine hQ1.out _ _ ⟨⟨j.w.drew, HDD.out _ HDJ.out.drew⟩, rfl⟩ ?_
          intro Q2 hQ2
          clear hQ1
          gi_wp2_with fail
          refine ⟨trivial, fun _ => by omega, ?_⟩
          refine (callsIn_wide.2 (T1.out _ (HS3.out.below HDJ.out.drew))).mono ?_
          rintro e W4 ⟨⟨v4, rfl, hv4⟩, hb4⟩
          have hb14 : Below wr.heap.size wr W4 := HDJ.out.drew.trans (hb4.mono HDJ.out.drew.size)
          rw [← HNX.out] at hv4
          have HV4 := Lib.hid hv4
          have HB14 := Lib.hid hb14
          clear hb4 hv4 hb14
          gi_wp2_with fail
          refine hQ2.out _ _ ⟨⟨W4, HDD.out _ HB14.out⟩, rfl⟩ ?_
          simp only [heavyRun, List.drop_succ_cons, List.drop_zero]
          clear hQ2 hne
          gi_wp2_with fail
          go_roundw
          case rel => exact ⟨k + 1, by omega, by go_num, HV4.out, HX3.out.below HB14.out HX3.out.lt, HR3.out.below HB14.out HR3.out.lt, HB3.out.trans (HB14.out.mono HB3.out.size)⟩
          case measure => simp [intOf]; omega
        · obtain rfl : k = l := by omega
          have hnl : ¬ (k : Int) < (k : Int) := by omega
          rw [List.take_of_length_le (by rw [HM.out]; exact Nat.le_refl _)] at hs
          have k0 := hx3.cell 0
          have c0 := hr3.cell 0
          have c1 := hr3.cell 1
          have z0 := hr3.frozen 0
          have z1 := hr3.frozen 1
          have HF4 := Lib.hid (hs.far hr3 ⟨_, _, _, rfl⟩)
          have HR4 := Lib.hid hr3
          have HB4 := Lib.hid hb3
          clear hs hx3 hr3 hb3
          gi_wp2_with fail
          refine bodyPost_ret (results_hist rfl _ _ (w.heap.size + 1) _ _ rfl (((HR4.out.set 0 (.int .i64 (f - 1))).set 1 (.slice sa sn sc)).eq (cs' := #[.int .i64 (f - 1), .slice sa sn sc]) rfl)) rfl ?_
          rw [HP.out]
          exact ⟨⟨_, rfl, ((HF4.out.set ⟨w.heap.size + 1, 0, none⟩ rfl _).set ⟨w.heap.size + 1, 1, none⟩ rfl _).sl⟩, (HB4.out.setCell (p := ⟨w.heap.size + 1, 0, none⟩) (by simp) _).setCell (p := ⟨w.heap.size + 1, 1, none⟩) (by simp) _⟩
theorem pLower9_any (f : Int) (L : List Bn) (v : Value) (w : World) (hv : BinSl w v L) (hn : L.length ≤ 400) (hL : ∀ y ∈ L, y.2 ≤ topN) :
    Calls Try.prog 25 #[hgV f v] w fun e w' => GX (lowerGH f L) e w' ∧ Below w.heap.size w w' := callsIn_wide.1 (pLower9_in 6 (by decide) f L v w hv hn hL)
end Go.Proofs.Ytpdedogdffolnaa
