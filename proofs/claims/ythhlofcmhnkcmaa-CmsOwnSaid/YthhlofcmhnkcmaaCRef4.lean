/- The page's own answers for layer 8: Merge. -/
import Derived.Test.YthhlofcmhnkcmaaCRef3
import Derived.Test.YthhlofcmhnkcmaaHeldIn
import Derived.TacticsInMore
import Derived.LoopNIn
import Derived.LoopIn
namespace Go.Proofs.Ythhlofcmhnkcmaa
open Go.RowKit

theorem mergeC_len {L K : List Nat} (h : L.length = K.length) : (mergeC L K).length = L.length := by simp [mergeC, h]
theorem mergeC_at {L K : List Nat} (k : Nat) (h : k < L.length) (h2 : k < K.length) (h3 : k < (mergeC L K).length) : (mergeC L K)[k] = plusS L[k] K[k] := by simp [mergeC]
set_option maxHeartbeats 4000000 in
set_option maxRecDepth 100000 in
theorem pMerge8_in (n : Nat) (h5 : 3 ≤ n) (r c : Int) (L : List Nat) (v : Value) (r2 c2 : Int) (K : List Nat) (u : Value) (w : World) (hv : NumSl w v L) (hu : NumSl w u K) (hL : ∀ x ∈ L, x ≤ topN) (hK : ∀ x ∈ K, x ≤ topN) :
    CallsIn Fence.wide n Try.prog 24 #[cV r c v, cV r2 c2 u] w fun e w' => CmX w.heap.size (mergeCm r c L r2 c2 K) e w' ∧ Below w.heap.size w w' := by
  obtain ⟨i0, hi, hz0', hz1, hz2⟩ := partsE infoN
  have i1 := Lib.hid hi
  have i2 := Lib.hid hz0'
  have i3 := Lib.hid hz1
  have i4 := Lib.hid hz2
  clear hi hz0' hz1 hz2
  obtain ⟨W0, hW0⟩ : ∃ W0, W0 = ((w.alloc (Obj.cells #[.int .i64 r, .int .i64 c, v] 24)).alloc (Obj.cells #[.int .i64 r2, .int .i64 c2, u] 24)).alloc (Obj.cells #[.int .i64 0, .int .i64 0, .slice none 0 0] 24) := ⟨_, rfl⟩
  have hz0 : W0.heap.size = w.heap.size + 3 := by rw [hW0]; simp
  have hb0 : Below w.heap.size w W0 := by rw [hW0]; exact (((Below.refl w.heap.size w).alloc (Nat.le_refl _) _).alloc (by simp) _).alloc (by simp; omega) _
  have hx0 : HasC W0 w.heap.size 24 #[.int .i64 r, .int .i64 c, v] := by rw [hW0]; exact ((HasC.new w _ _).alloc _).alloc _
  have hy0 : HasC W0 (w.heap.size + 1) 24 #[.int .i64 r2, .int .i64 c2, u] := by rw [hW0]; exact (HasC.at_ _ _ _ (by simp)).alloc _
  have hr0 : HasC W0 (w.heap.size + 2) 24 #[.int .i64 0, .int .i64 0, .slice none 0 0] := by rw [hW0]; exact HasC.at_ _ _ _ (by simp)
  have R1 := Lib.hid (fun W hs => pRight8_any r c L v W hs)
  have R2 := Lib.hid (fun W hs => pRight8_any r2 c2 K u W hs)
  have HSV := Lib.hid hv
  have HSU := Lib.hid hu
  have HB := Lib.hid hb0
  have HX := Lib.hid hx0
  have HY := Lib.hid hy0
  have HR := Lib.hid hr0
  have HZ := Lib.hid hz0
  obtain ⟨ao, cp, rfl, hcv⟩ := hv.shape
  obtain ⟨bo, dp, rfl, hcu⟩ := hu.shape
  have HCV := Lib.hid hcv
  have HCU := Lib.hid hcu
  obtain ⟨m, hm⟩ : ∃ m, m = L.length := ⟨_, rfl⟩
  obtain ⟨p, hp⟩ : ∃ p, p = K.length := ⟨_, rfl⟩
  have HM := Lib.hid hm
  have HP := Lib.hid hp
  have HLL := Lib.hid hL
  have HKK := Lib.hid hK
  obtain ⟨A, hA⟩ : ∃ A : Cm → Ending → World → Prop, A = CmX w.heap.size := ⟨_, rfl⟩
  have HA := Lib.hid hA
  rw [← hA]
  rw [← hm] at R1 HX HSV hW0 ⊢
  rw [← hp] at R2 HY HSU hW0 ⊢
  subst hW0
  clear hb0 hx0 hy0 hr0 hz0 hv hu hcv hcu hm hp hL hK hA
  unfold cV at R1 R2 ⊢
  refine callsIn_of_wp Try.func24 rfl trivial ?_ rfl
  simp only [Try.ntmps24, List.size_toArray, List.length_cons, List.length_nil, Nat.reduceAdd, Nat.reduceSub, Array.replicate_succ, Array.replicate_zero, List.push_toArray, List.append_toArray, List.nil_append, List.cons_append]
  cases hq1 : rightC r c L with
  | false =>
    have hmg : mergeCm r c L r2 c2 K = badC := by unfold mergeCm; rw [hq1]; rfl
    rw [hq1] at R1
    have HG := Lib.hid hmg
    clear hq1 hmg
    gi_wp2_with fail
    refine ⟨trivial, fun _ => by omega, ?_⟩
    refine (callsIn_wide.2 (R1.out _ (HSV.out.below HB.out))).mono ?_
    rintro e w1 ⟨rfl, rfl⟩
    gi_wp2_with fail
    refine ⟨trivial, ?_⟩
    gi_wp2_with fail
    have HRF := Lib.hid (HR.out.alloc (Obj.cells #[.int .i64 r, .int .i64 c, .slice ao m cp] 24))
    have HBF := Lib.hid (HB.out.alloc HB.out.size (Obj.cells #[.int .i64 r, .int .i64 c, .slice ao m cp] 24))
    refine bodyPost_ret (results_cms rfl _ _ (w.heap.size + 2) _ _ _ rfl HRF.out) rfl ?_
    rw [HA.out, HG.out]
    exact ⟨⟨_, rfl, NumF.nil _ _⟩, HBF.out⟩
  | true =>
    rw [hq1] at R1
    have HB1 := Lib.hid (HB.out.alloc HB.out.size (Obj.cells #[.int .i64 r, .int .i64 c, .slice ao m cp] 24))
    have HRF := Lib.hid ((HR.out.alloc (Obj.cells #[.int .i64 r, .int .i64 c, .slice ao m cp] 24)).alloc (Obj.cells #[.int .i64 r2, .int .i64 c2, .slice bo p dp] 24))
    have HBF := Lib.hid (HB1.out.alloc HB1.out.size (Obj.cells #[.int .i64 r2, .int .i64 c2, .slice bo p dp] 24))
    have HXF := Lib.hid ((HX.out.alloc (Obj.cells #[.int .i64 r, .int .i64 c, .slice ao m cp] 24)).alloc (Obj.cells #[.int .i64 r2, .int .i64 c2, .slice bo p dp] 24))
    have HYF := Lib.hid ((HY.out.alloc (Obj.cells #[.int .i64 r, .int .i64 c, .slice ao m cp] 24)).alloc (Obj.cells #[.int .i64 r2, .int .i64 c2, .slice bo p dp] 24))
    cases hq2 : rightC r2 c2 K with
    | false =>
      have hmg : mergeCm r c L r2 c2 K = badC := by unfold mergeCm; rw [hq1, hq2]; rfl
      rw [hq2] at R2
      have HG := Lib.hid hmg
      clear hq1 hq2 hmg
      gi_wp2_with fail
      refine ⟨trivial, fun _ => by omega, ?_⟩
      refine (callsIn_wide.2 (R1.out _ (HSV.out.below HB.out))).mono ?_
      rintro e w1 ⟨rfl, rfl⟩
      gi_wp2_with fail
      refine ⟨trivial, fun _ => by omega, ?_⟩
      refine (callsIn_wide.2 (R2.out _ (HSU.out.below HB1.out))).mono ?_
      rintro e w2 ⟨rfl, rfl⟩
      gi_wp2_with fail
      refine bodyPost_ret (results_cms rfl _ _ (w.heap.size + 2) _ _ _ rfl HRF.out) rfl ?_
      rw [HA.out, HG.out]
      exact ⟨⟨_, rfl, NumF.nil _ _⟩, HBF.out⟩
    | true =>
      rw [hq2] at R2
      have x0 := HXF.out.cell 0
      have x1 := HXF.out.cell 1
      have y0 := HYF.out.cell 0
      have y1 := HYF.out.cell 1
      by_cases hr : r = r2
      case neg =>
        have hmg : mergeCm r c L r2 c2 K = badC := by unfold mergeCm; rw [hq1, hq2, decide_eq_false hr]; rfl
        have HG := Lib.hid hmg
        have hrn : (r != r2) = true := by simp [hr]
        clear hq1 hq2 hmg hr
        gi_wp2_with fail
        refine ⟨trivial, fun _ => by omega, ?_⟩
        refine (callsIn_wide.2 (R1.out _ (HSV.out.below HB.out))).mono ?_
        rintro e w1 ⟨rfl, rfl⟩
        gi_wp2_with fail
        refine ⟨trivial, fun _ => by omega, ?_⟩
        refine (callsIn_wide.2 (R2.out _ (HSU.out.below HB1.out))).mono ?_
        rintro e w2 ⟨rfl, rfl⟩
        gi_wp2_with fail
        refine bodyPost_ret (results_cms rfl _ _ (w.heap.size + 2) _ _ _ rfl HRF.out) rfl ?_
        rw [HA.out, HG.out]
        exact ⟨⟨_, rfl, NumF.nil _ _⟩, HBF.out⟩
      case pos =>
        by_cases hc : c = c2
        case neg =>
          have hmg : mergeCm r c L r2 c2 K = badC := by unfold mergeCm; rw [hq1, hq2, decide_eq_true hr, decide_eq_false hc]; rfl
          have HG := Lib.hid hmg
          have hrn : (r != r2) = false := by simp [hr]
          have hcn : (c != c2) = true := by simp [hc]
          clear hq1 hq2 hmg hr hc
          gi_wp2_with fail
          refine ⟨trivial, fun _ => by omega, ?_⟩
          refine (callsIn_wide.2 (R1.out _ (HSV.out.below HB.out))).mono ?_
          rintro e w1 ⟨rfl, rfl⟩
          gi_wp2_with fail
          refine ⟨trivial, fun _ => by omega, ?_⟩
          refine (callsIn_wide.2 (R2.out _ (HSU.out.below HB1.out))).mono ?_
          rintro e w2 ⟨rfl, rfl⟩
          gi_wp2_with fail
          refine bodyPost_ret (results_cms rfl _ _ (w.heap.size + 2) _ _ _ rfl HRF.out) rfl ?_
          rw [HA.out, HG.out]
          exact ⟨⟨_, rfl, NumF.nil _ _⟩, HBF.out⟩
        case pos =>
          subst hr hc
          obtain ⟨a, b, rfl, rfl, ha1, ha4, hb, hlen⟩ := rightC_nat hq1
          obtain ⟨a', b', haa, hbb, _, _, _, hlen2⟩ := rightC_nat hq2
          obtain rfl : a = a' := by omega
          obtain rfl : b = b' := by omega
          have hmg : mergeCm (a : Int) (b : Int) L (a : Int) (b : Int) K = (((a : Int), (b : Int), mergeC L K), 0) := by unfold mergeCm; rw [hq1, hq2, decide_eq_true rfl, decide_eq_true rfl]; rfl
          have hmp : m = p := by have := HM.out; have := HP.out; omega
          have hm128 : m ≤ 128 := by have := HM.out; rw [this, hlen]; exact Nat.mul_le_mul ha4 (show b ≤ 32 by omega)
          have HG := Lib.hid hmg
          have HMP := Lib.hid hmp
          clear hq1 hq2 hmg hlen hlen2 haa hbb hmp ha1 ha4 hb
          gi_wp2_with fail
          refine ⟨trivial, fun _ => by omega, ?_⟩
          refine (callsIn_wide.2 (R1.out _ (HSV.out.below HB.out))).mono ?_
          rintro e w1 ⟨rfl, rfl⟩
          gi_wp2_with fail
          refine ⟨trivial, fun _ => by omega, ?_⟩
          refine (callsIn_wide.2 (R2.out _ (HSU.out.below HB1.out))).mono ?_
          rintro e w2 ⟨rfl, rfl⟩
          gi_wp2_with fail
          obtain ⟨V, hV⟩ : ∃ V, V = (((((w.alloc (Obj.cells #[.int .i64 (a : Int), .int .i64 (b : Int), .slice ao m cp] 24)).alloc (Obj.cells #[.int .i64 (a : Int), .int .i64 (b : Int), .slice bo p dp] 24)).alloc (Obj.cells #[.int .i64 0, .int .i64 0, .slice none 0 0] 24)).alloc (Obj.cells #[.int .i64 (a : Int), .int .i64 (b : Int), .slice ao m cp] 24)).alloc (Obj.cells #[.int .i64 (a : Int), .int .i64 (b : Int), .slice bo p dp] 24)) := ⟨_, rfl⟩
          have hbV := HBF.out
          have hxV := HXF.out
          have hyV := HYF.out
          have hrV := HRF.out
          rw [← hV] at hbV hxV hyV hrV ⊢
          have hzV : w.heap.size + 5 = V.heap.size := by rw [hV]; simp
          have HZV := Lib.hid hzV
          clear hV x0 x1 y0 y1 hzV
          gi_loopw [6, 7] (fun l i wr => ∃ k : Nat, k ≤ m ∧ i = .int .i64 (k : Int) ∧ wr.ownsRow V.heap.size 25 1 l k (numL ((mergeC L K).take k)) ∧ Below V.heap.size V wr) (fun _ i _ => m - (intOf i).toNat)
          case atStart => exact ⟨0, Nat.zero_le _, rfl, by rw [List.take_zero]; exact ⟨rfl, .inl ⟨rfl, rfl⟩⟩, Below.refl _ _⟩
          case round =>
            obtain ⟨k, hk, rfl, hown, hbw⟩ := hrel
            have hx := hxV.below hbw hxV.lt
            have hy := hyV.below hbw hyV.lt
            have x2 := hx.cell 2
            have y2 := hy.cell 2
            obtain ⟨oa, oc, rfl⟩ := owns_shape hown
            by_cases hlt : k < m
            · have hkL : k < L.length := by have := HM.out; omega
              have hkK : k < K.length := by have := HP.out; have := HMP.out; omega
              have hltm : (k : Int) < (m : Int) := by omega
              have hkp : k < p := by have := HMP.out; omega
              obtain ⟨g, o, rfl, hgc⟩ := HCV.out k hkL
              obtain ⟨g', o', rfl, hgc'⟩ := HCU.out k hkK
              have hM : (mergeC L K).length = m := by rw [mergeC_len (by have := HM.out; have := HP.out; have := HMP.out; omega), HM.out]
              have hnext : numL ((mergeC L K).take (k + 1)) = numL ((mergeC L K).take k) ++ [nV (plusS L[k] K[k])] := by
                rw [List.take_succ_eq_append_getElem (by omega), numL_app, mergeC_at k hkL hkK]
                rfl
              have hP := fun W => pPlus_any L[k] K[k] W (HKK.out _ (List.getElem_mem hkK))
              obtain ⟨z, hz⟩ : ∃ z, z = plusS L[k] K[k] := ⟨_, rfl⟩
              obtain ⟨xa, hxa⟩ : ∃ x, x = L[k] := ⟨_, rfl⟩
              obtain ⟨ya, hya⟩ : ∃ y, y = K[k] := ⟨_, rfl⟩
              obtain ⟨xs, hxs⟩ : ∃ xs, xs = numL ((mergeC L K).take k) := ⟨_, rfl⟩
              rw [← hz, ← hxs] at hnext
              rw [← hz, ← hxa, ← hya] at hP
              rw [← hxs] at hown
              have gx : ∀ W, Below w.heap.size w W → W.cell? ⟨g, o + k, none⟩ = some (nV xa) := fun W hb => by rw [hxa]; exact hgc W hb
              have gy : ∀ W, Below w.heap.size w W → W.cell? ⟨g', o' + k, none⟩ = some (nV ya) := fun W hb => by rw [hya]; exact hgc' W hb
              have HNX := Lib.hid hnext
              have HPL := Lib.hid hP
              have HOW := Lib.hid hown
              have HBW := Lib.hid hbw
              obtain ⟨D, hDk, hDd⟩ : ∃ D : World → Prop, (∀ W, D W → Below V.heap.size V W) ∧ (∀ W, Below V.heap.size V W → D W) := ⟨_, fun _ h => h, fun _ h => h⟩
              have E1 : ∀ i : InC D, i.w.cell? ⟨w.heap.size, 2, none⟩ = some (.slice (some ⟨g, o, none⟩) m cp) := fun i => (hxV.below (hDk _ i.h) hxV.lt).cell 2
              have E2 : ∀ i : InC D, i.w.cell? ⟨w.heap.size + 1, 2, none⟩ = some (.slice (some ⟨g', o', none⟩) p dp) := fun i => (hyV.below (hDk _ i.h) hyV.lt).cell 2
              have E3 : ∀ i : InC D, i.w.cell? ⟨g, o + k, none⟩ = some (nV xa) := fun i => gx _ (hbV.trans ((hDk _ i.h).mono hbV.size))
              have E4 : ∀ i : InC D, i.w.cell? ⟨g', o' + k, none⟩ = some (nV ya) := fun i => gy _ (hbV.trans ((hDk _ i.h).mono hbV.size))
              have HDD := Lib.hid hDd
              clear hx hy hgc hgc' hM hnext hP hz hxa hya hxs gx gy hown hbw hDk hDd
              gi_wp2_with fail
              refine region_heldIn 13 [0, 1, 2, 3, 4, 5, 6, 7, 8, 9, 10] [11, 12] D (by kernel_rfl) (FOk.wide _) (by kernel_rfl) (by intro c a d v w h; cases d <;> exact h) (HDD.out _ HBW.out.drew) ?_
              intro hne
              simp only [pickL, nthL]
              repeat (go_big_quiet_step (fail))
              refine wpQuiet_nil ?_
              intro Q1 hQ1
              gi_wp2_with fail
              refine ⟨trivial, fun _ => by omega, ?_⟩
              refine (callsIn_wide.2 (HPL.out _)).mono ?_
              rintro e W3 ⟨rfl, rfl⟩
              gi_wp2_with fail
              refine hQ1.out _ _ ⟨⟨wr.drew, HDD.out _ HBW.out.drew⟩, rfl⟩ ?_
              intro Q2 hQ2
              clear hQ1
              gi_wp2_with fail
              have hk2 : Below wr.heap.size wr (wr.alloc (.cells #[nV z] 25)) := (Below.refl _ wr).alloc (Nat.le_refl _) _
              have hbw2 : Below V.heap.size V ((wr.alloc (.cells #[nV z] 25)).drew) := (HBW.out.trans (hk2.mono HBW.out.size)).drew
              have hown2 : ((wr.alloc (.cells #[nV z] 25)).drew).ownsRow V.heap.size 25 1 (.slice oa k oc) k xs := owns_same HOW.out fun j _ h2 => hk2.block j h2
              have hc2 : ∀ j u, ([nV z] : List Value)[j]? = some u → ((wr.alloc (.cells #[nV z] 25)).drew).cell? ((⟨wr.heap.size, 0, none⟩ : Addr).add j) = some u := fun j u hj => by
                have hj0 : j = 0 := by
                  have := (List.getElem?_eq_some_iff.1 hj).1
                  simp at this
                  exact this
                subst hj0
                rw [add_blockN]
                exact ((HasC.new wr 25 #[nV z]).cell 0).trans hj
              have HU1 : Hid (∀ u ∈ ([nV z] : List Value), u.oneCell' = true) := fun u hu => by
                have hu' : u = nV z := by simpa using hu
                rw [hu']
                rfl
              have HBW2 := Lib.hid hbw2
              have HOW2 := Lib.hid hown2
              have HC2 := Lib.hid hc2
              refine hQ2.out _ _ ⟨⟨_, HDD.out _ hbw2⟩, rfl⟩ ?_
              simp only [heavyRun, List.drop_succ_cons, List.drop_zero]
              clear hQ2 hbw2 hown2 hc2 hk2 E1 E2 E3 E4 hne
              refine wpListIn_append_own _ rfl (.tmp 38) (.tmp 50) 22 rfl V.heap.size 25 i0 (.int .u64 0) 1 8 Try.underlying22 i1.out i2.out i3.out i4.out rfl (by decide) _ k xs rfl HOW2.out ⟨wr.heap.size, 0, none⟩ 1 1 [nV z] rfl rfl HC2.out HU1.out (by unfold maxLen; omega) (by omega) HBW2.out.size ?_
              intro v' V4 hown4 hgrow4 _
              have hb4 : Below V.heap.size V V4 := HBW2.out.trans ((Below.refl _ _).grown hgrow4 HBW2.out.size (owns_block HOW2.out))
              rw [← HNX.out] at hown4
              obtain ⟨va, vc, rfl⟩ := owns_shape hown4
              have HOW4 := Lib.hid hown4
              clear hown4 hgrow4
              gi_wp2_with fail
              go_roundw
              case rel => exact ⟨k + 1, by omega, by go_num, HOW4.out, hb4⟩
              case measure => simp [intOf]; omega
            · obtain rfl : k = m := by omega
              have hM : (mergeC L K).length = k := by rw [mergeC_len (by have := HM.out; have := HP.out; have := HMP.out; omega), HM.out]
              rw [List.take_of_length_le (by omega)] at hown
              have hnk : ¬ (k : Int) < (k : Int) := by omega
              have hr := hrV.below hbw hrV.lt
              have hf : NumF V.heap.size wr (.slice oa k oc) (mergeC L K) := numF_of_owns (by rw [hM]; exact hown)
              have HF := Lib.hid hf
              have HR4 := Lib.hid hr
              have HB4 := Lib.hid (hbV.trans (hbw.mono hbV.size))
              have x0 := hx.cell 0
              have x1 := hx.cell 1
              have z0 := hr.frozen 0
              have z1 := hr.frozen 1
              have z2 := hr.frozen 2
              have r0 := hr.cell 0
              have r1 := hr.cell 1
              have r2' := hr.cell 2
              clear hown hf hx hy hr hbw hM
              gi_wp2_with fail
              refine bodyPost_ret (results_cms rfl _ _ (w.heap.size + 2) _ _ _ rfl ((((HR4.out.set 0 (.int .i64 (a : Int))).set 1 (.int .i64 (b : Int))).set 2 (.slice oa k oc)).eq (cs' := #[.int .i64 (a : Int), .int .i64 (b : Int), .slice oa k oc]) rfl)) rfl ?_
              rw [HA.out, HG.out]
              have hzV := HZV.out
              refine ⟨⟨_, rfl, ?_⟩, ((HB4.out.setCell (p := ⟨w.heap.size + 2, 0, none⟩) (by simp) _).setCell (p := ⟨w.heap.size + 2, 1, none⟩) (by simp) _).setCell (p := ⟨w.heap.size + 2, 2, none⟩) (by simp) _⟩
              refine (HF.out.keep (by simp) fun j h1 h2 => ?_).mono (by omega)
              rw [Below.heap_setCell _ _ _ j (by simp; omega), Below.heap_setCell _ _ _ j (by simp; omega), Below.heap_setCell _ _ _ j (by simp; omega)]
theorem pMerge8_any (r c : Int) (L : List Nat) (v : Value) (r2 c2 : Int) (K : List Nat) (u : Value) (w : World) (hv : NumSl w v L) (hu : NumSl w u K) (hL : ∀ x ∈ L, x ≤ topN) (hK : ∀ x ∈ K, x ≤ topN) :
    Calls Try.prog 24 #[cV r c v, cV r2 c2 u] w fun e w' => CmX w.heap.size (mergeCm r c L r2 c2 K) e w' ∧ Below w.heap.size w w' :=
  callsIn_wide.1 (pMerge8_in 5 (by decide) r c L v r2 c2 K u w hv hu hL hK)
end Go.Proofs.Ythhlofcmhnkcmaa
