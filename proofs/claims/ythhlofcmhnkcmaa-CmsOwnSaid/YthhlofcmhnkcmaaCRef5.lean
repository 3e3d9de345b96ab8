/- The page's own answers for layer 8: Lower. -/
import Derived.Test.YthhlofcmhnkcmaaCRef4
namespace Go.Proofs.Ythhlofcmhnkcmaa
open Go.RowKit

theorem lowC_len8 (r c : Nat) (L : List Nat) : (lowC8 r c L).length = r * c := by simp [lowC8]
theorem lowC_at8 (r c : Nat) (L : List Nat) (k j : Nat) (hj : j < c) (h : k * c + j < (lowC8 r c L).length) : (lowC8 r c L)[k * c + j] = plusS (L.getD (k * (2 * c) + j) 0) (L.getD (k * (2 * c) + c + j) 0) := by
  simp only [lowC8, List.getElem_map, List.getElem_range]
  rw [dm_div hj, dm_mod hj]
theorem getD_at {L : List Nat} {i : Nat} (h : i < L.length) : L.getD i 0 = L[i] := by rw [List.getD_eq_getElem?_getD, List.getElem?_eq_getElem h, Option.getD_some]
set_option maxHeartbeats 4000000 in
set_option maxRecDepth 100000 in
theorem pLower8_in (n : Nat) (h5 : 3 ≤ n) (r c : Int) (L : List Nat) (v : Value) (w : World) (hv : NumSl w v L) (hL : ∀ x ∈ L, x ≤ topN) :
    CallsIn Fence.wide n Try.prog 26 #[cV r c v] w fun e w' => CmX w.heap.size (lowerCm r c L) e w' ∧ Below w.heap.size w w' := by
  obtain ⟨i0, hi, hz0', hz1, hz2⟩ := partsE infoN
  have i1 := Lib.hid hi
  have i2 := Lib.hid hz0'
  have i3 := Lib.hid hz1
  have i4 := Lib.hid hz2
  clear hi hz0' hz1 hz2
  obtain ⟨W0, hW0⟩ : ∃ W0, W0 = (w.alloc (Obj.cells #[.int .i64 r, .int .i64 c, v] 24)).alloc (Obj.cells #[.int .i64 0, .int .i64 0, .slice none 0 0] 24) := ⟨_, rfl⟩
  have hz0 : W0.heap.size = w.heap.size + 2 := by rw [hW0]; simp
  have hb0 : Below w.heap.size w W0 := by rw [hW0]; exact ((Below.refl w.heap.size w).alloc (Nat.le_refl _) _).alloc (by simp) _
  have hx0 : HasC W0 w.heap.size 24 #[.int .i64 r, .int .i64 c, v] := by rw [hW0]; exact (HasC.new w _ _).alloc _
  have hr0 : HasC W0 (w.heap.size + 1) 24 #[.int .i64 0, .int .i64 0, .slice none 0 0] := by rw [hW0]; exact HasC.at_ _ _ _ (by simp)
  have R1 := Lib.hid (pRight8_any r c L v W0 (hv.below hb0))
  have HBF := Lib.hid (hb0.alloc hb0.size (Obj.cells #[.int .i64 r, .int .i64 c, v] 24))
  have HXF := Lib.hid (hx0.alloc (Obj.cells #[.int .i64 r, .int .i64 c, v] 24))
  have HRF := Lib.hid (hr0.alloc (Obj.cells #[.int .i64 r, .int .i64 c, v] 24))
  have hzV : w.heap.size + 3 = (W0.alloc (Obj.cells #[.int .i64 r, .int .i64 c, v] 24)).heap.size := by rw [World.size_alloc]; omega
  have HZV := Lib.hid hzV
  obtain ⟨ao, cp, rfl, hcv⟩ := hv.shape
  have HCV := Lib.hid hcv
  obtain ⟨m, hm⟩ : ∃ m, m = L.length := ⟨_, rfl⟩
  have HM := Lib.hid hm
  have HLL := Lib.hid hL
  obtain ⟨A, hA⟩ : ∃ A : Cm → Ending → World → Prop, A = CmX w.heap.size := ⟨_, rfl⟩
  have HA := Lib.hid hA
  rw [← hA]
  rw [← hm] at R1 HBF HXF HRF HZV hW0 ⊢
  obtain ⟨V, hV⟩ : ∃ V, V = W0.alloc (Obj.cells #[.int .i64 r, .int .i64 c, .slice ao m cp] 24) := ⟨_, rfl⟩
  have x1 := HXF.out.cell 1
  rw [← hV] at HBF HXF HRF HZV R1 x1
  have HV := Lib.hid hV
  subst hW0
  clear hb0 hx0 hr0 hz0 hzV hv hcv hm hL hA hV
  unfold cV at R1 ⊢
  refine callsIn_of_wp Try.func26 rfl trivial ?_ rfl
  simp only [Try.ntmps26, List.size_toArray, List.length_cons, List.length_nil, Nat.reduceAdd, Nat.reduceSub, Array.replicate_succ, Array.replicate_zero, List.push_toArray, List.append_toArray, List.nil_append, List.cons_append]
  cases hq1 : rightC r c L with
  | false =>
    have hmg : lowerCm r c L = badC := by unfold lowerCm; rw [hq1]; rfl
    rw [hq1] at R1
    have HG := Lib.hid hmg
    have r0 := HRF.out.cell 0
    have r1 := HRF.out.cell 1
    have r2 := HRF.out.cell 2
    have z0 := HRF.out.frozen 0
    have z1 := HRF.out.frozen 1
    have z2 := HRF.out.frozen 2
    clear hq1 hmg
    gi_wp2_with fail
    refine ⟨trivial, fun _ => by omega, ?_⟩
    refine (callsIn_wide.2 R1.out).mono ?_
    rintro e w1 ⟨rfl, rfl⟩
    gi_wp2_with fail
    refine bodyPost_ret (results_cms rfl _ _ (w.heap.size + 1) _ _ _ rfl ((((HRF.out.set 0 (.int .i64 0)).set 1 (.int .i64 0)).set 2 (.slice none 0 0)).eq (cs' := #[.int .i64 0, .int .i64 0, .slice none 0 0]) rfl)) rfl ?_
    rw [HA.out, HG.out]
    exact ⟨⟨_, rfl, NumF.nil _ _⟩, ((HBF.out.setCell (p := ⟨w.heap.size + 1, 0, none⟩) (by simp) _).setCell (p := ⟨w.heap.size + 1, 1, none⟩) (by simp) _).setCell (p := ⟨w.heap.size + 1, 2, none⟩) (by simp) _⟩
  | true =>
    rw [hq1] at R1
    by_cases hc4 : c = 4
    case pos =>
      have hmg : lowerCm r c L = badC := by unfold lowerCm; rw [hq1, show decide (c ≠ 4) = false from decide_eq_false (by simp [hc4])]; rfl
      have HG := Lib.hid hmg
      have hce : (c == 4) = true := by simp [hc4]
      have r0 := HRF.out.cell 0
      have r1 := HRF.out.cell 1
      have r2 := HRF.out.cell 2
      have z0 := HRF.out.frozen 0
      have z1 := HRF.out.frozen 1
      have z2 := HRF.out.frozen 2
      clear hq1 hmg hc4
      gi_wp2_with fail
      refine ⟨trivial, fun _ => by omega, ?_⟩
      refine (callsIn_wide.2 R1.out).mono ?_
      rintro e w1 ⟨rfl, rfl⟩
      gi_wp2_with fail
      refine bodyPost_ret (results_cms rfl _ _ (w.heap.size + 1) _ _ _ rfl ((((HRF.out.set 0 (.int .i64 0)).set 1 (.int .i64 0)).set 2 (.slice none 0 0)).eq (cs' := #[.int .i64 0, .int .i64 0, .slice none 0 0]) rfl)) rfl ?_
      rw [HA.out, HG.out]
      exact ⟨⟨_, rfl, NumF.nil _ _⟩, ((HBF.out.setCell (p := ⟨w.heap.size + 1, 0, none⟩) (by simp) _).setCell (p := ⟨w.heap.size + 1, 1, none⟩) (by simp) _).setCell (p := ⟨w.heap.size + 1, 2, none⟩) (by simp) _⟩
    case neg =>
      obtain ⟨a, b, rfl, rfl, ha1, ha4, hb, hlen⟩ := rightC_nat hq1
      obtain ⟨h, hh⟩ : ∃ h, b = 2 * h := ⟨b / 2, by omega⟩
      have hh1 : 1 ≤ h := by omega
      have hh16 : h ≤ 16 := by omega
      have hmg : lowerCm (a : Int) (b : Int) L = (((a : Int), (h : Int), lowC8 a h L), 0) := by
        unfold lowerCm
        rw [hq1, show decide ((b : Int) ≠ 4) = true from decide_eq_true hc4, Int.toNat_natCast, Int.toNat_natCast, show b / 2 = h by omega, show (b : Int) / 2 = (h : Int) by omega]
        rfl
      have HG := Lib.hid hmg
      have hce : ((b : Int) == 4) = false := by simp; omega
      have hdiv : (b : Int).tdiv 2 = (h : Int) := by rw [Int.tdiv_eq_ediv_of_nonneg (by omega)]; omega
      have hdiv2 : (b : Int) / 2 = (h : Int) := by omega
      have HLEN := Lib.hid hlen
      have HHH := Lib.hid hh
      have x0 := HXF.out.cell 0
      clear hq1 hmg hc4 hlen hb hh
      gi_wp2_with fail
      refine ⟨trivial, fun _ => by omega, ?_⟩
      refine (callsIn_wide.2 R1.out).mono ?_
      rintro e V' ⟨rfl, hV'⟩
      rw [hV']
      clear hV' V'
      gi_wp2_with fail
      have hxV := HXF.out
      have hbV := HBF.out
      have hla : a * h ≤ 64 := Nat.mul_le_mul ha4 hh16
      clear x0 x1
      gi_loopw [5, 6] (fun l i wr => ∃ k : Nat, k ≤ a ∧ i = .int .i64 (k : Int) ∧ wr.ownsRow V.heap.size 25 1 l (k * h) (numL ((lowC8 a h L).take (k * h))) ∧ Below V.heap.size V wr) (fun _ i _ => a - (intOf i).toNat)
      case atStart => exact ⟨0, Nat.zero_le _, rfl, by rw [Nat.zero_mul, List.take_zero]; exact ⟨rfl, .inl ⟨rfl, rfl⟩⟩, Below.refl _ _⟩
      case round =>
        obtain ⟨k, hk, rfl, hown, hbw⟩ := hrel
        have hx := hxV.below hbw hxV.lt
        have x0 := hx.cell 0
        obtain ⟨oa, oc, rfl⟩ := owns_shape hown
        by_cases hlt : k < a
        · have hlta : (k : Int) < (a : Int) := by omega
          gi_wp2_with fail
          clear x0 hx
          gi_loopw [5, 7] (fun l i wr => ∃ j : Nat, j ≤ h ∧ i = .int .i64 (j : Int) ∧ wr.ownsRow V.heap.size 25 1 l (k * h + j) (numL ((lowC8 a h L).take (k * h + j))) ∧ Below V.heap.size V wr) (fun _ i _ => h - (intOf i).toNat)
          case atStart => exact ⟨0, Nat.zero_le _, rfl, by rw [Nat.add_zero]; exact hown, hbw⟩
          case round =>
            obtain ⟨j, hj, rfl, hown', hbw'⟩ := hrel
            clear hown hbw
            obtain ⟨oa', oc', rfl⟩ := owns_shape hown'
            by_cases hlj : j < h
            · have hljh : (j : Int) < (h : Int) := by omega
              have hkh : (k + 1) * h ≤ a * h := Nat.mul_le_mul_right _ hlt
              have hkb : (k + 1) * b ≤ a * b := Nat.mul_le_mul_right _ hlt
              rw [Nat.add_mul, Nat.one_mul] at hkh hkb
              obtain ⟨pk, hpk⟩ : ∃ pk, pk = k * b := ⟨_, rfl⟩
              have hpk2 : k * (2 * h) = pk := by rw [hpk, HHH.out]
              obtain ⟨ix1, hix1⟩ : ∃ i, i = pk + j := ⟨_, rfl⟩
              obtain ⟨q, hq⟩ : ∃ i, i = pk + h := ⟨_, rfl⟩
              obtain ⟨ix2, hix2⟩ : ∃ i, i = q + j := ⟨_, rfl⟩
              have hab : a * b ≤ 128 := by rw [HHH.out]; have : a * (2 * h) = 2 * (a * h) := by rw [Nat.mul_left_comm]
                                           omega
              have hb2 := HHH.out
              have hl1 : ix1 < L.length := by rw [HLEN.out]; omega
              have hl2 : ix2 < L.length := by rw [HLEN.out]; omega
              have hl1m : ix1 < m := by have := HM.out; omega
              have hl2m : ix2 < m := by have := HM.out; omega
              obtain ⟨g, o, rfl, hgc⟩ := HCV.out ix1 hl1
              obtain ⟨g', o', hgg, hgc'⟩ := HCV.out ix2 hl2
              cases hgg
              have w1' : IntKind.i64.wrap ((k : Int) * (b : Int)) = (pk : Int) := by
                have e : ((k : Int) * (b : Int)) = (pk : Int) := by rw [hpk]; push_cast; rfl
                rw [e]; exact wrap_ki _ (by omega) (by omega)
              have w2' : IntKind.i64.wrap ((pk : Int) + (j : Int)) = (ix1 : Int) := by rw [wrap_ki _ (by omega) (by omega)]; omega
              have w3' : IntKind.i64.wrap ((pk : Int) + (h : Int)) = (q : Int) := by rw [wrap_ki _ (by omega) (by omega)]; omega
              have w4' : IntKind.i64.wrap ((q : Int) + (j : Int)) = (ix2 : Int) := by rw [wrap_ki _ (by omega) (by omega)]; omega
              have hM : (lowC8 a h L).length = a * h := lowC_len8 a h L
              have hnext : numL ((lowC8 a h L).take (k * h + (j + 1))) = numL ((lowC8 a h L).take (k * h + j)) ++ [nV (plusS L[ix1] L[ix2])] := by
                rw [← Nat.add_assoc, List.take_succ_eq_append_getElem (by omega), numL_app, lowC_at8 a h L k j hlj (by omega)]
                have e1 : k * (2 * h) + j = ix1 := by omega
                have e2 : k * (2 * h) + h + j = ix2 := by omega
                rw [e1, e2, getD_at hl1, getD_at hl2]
                rfl
              have hP := fun W => pPlus_any L[ix1] L[ix2] W (HLL.out _ (List.getElem_mem hl2))
              obtain ⟨z, hz⟩ : ∃ z, z = plusS L[ix1] L[ix2] := ⟨_, rfl⟩
              obtain ⟨xa, hxa⟩ : ∃ x, x = L[ix1] := ⟨_, rfl⟩
              obtain ⟨ya, hya⟩ : ∃ y, y = L[ix2] := ⟨_, rfl⟩
              obtain ⟨xs, hxs⟩ : ∃ xs, xs = numL ((lowC8 a h L).take (k * h + j)) := ⟨_, rfl⟩
              rw [← hz, ← hxs] at hnext
              rw [← hz, ← hxa, ← hya] at hP
              rw [← hxs] at hown'
              have gx : ∀ W, Below w.heap.size w W → W.cell? ⟨g, o + ix1, none⟩ = some (nV xa) := fun W hb => by rw [hxa]; exact hgc W hb
              have gy : ∀ W, Below w.heap.size w W → W.cell? ⟨g, o + ix2, none⟩ = some (nV ya) := fun W hb => by rw [hya]; exact hgc' W hb
              obtain ⟨t, ht⟩ : ∃ t, t = k * h + j := ⟨_, rfl⟩
              have ht1 : k * h + (j + 1) = t + 1 := by omega
              have htb : t < 1000 := by omega
              rw [← ht] at hown'
              rw [ht1] at hnext
              have HT1 := Lib.hid ht1
              have HTT := Lib.hid ht
              have HNX := Lib.hid hnext
              have HPL := Lib.hid hP
              have HOW := Lib.hid hown'
              have HBW := Lib.hid hbw'
              obtain ⟨D, hDk, hDd⟩ : ∃ D : World → Prop, (∀ W, D W → Below V.heap.size V W) ∧ (∀ W, Below V.heap.size V W → D W) := ⟨_, fun _ h => h, fun _ h => h⟩
              have E1 : ∀ i : InC D, i.w.cell? ⟨w.heap.size, 2, none⟩ = some (.slice (some ⟨g, o, none⟩) m cp) := fun i => (hxV.below (hDk _ i.h) hxV.lt).cell 2
              have E2 : ∀ i : InC D, i.w.cell? ⟨w.heap.size, 1, none⟩ = some (.int .i64 (b : Int)) := fun i => (hxV.below (hDk _ i.h) hxV.lt).cell 1
              have E3 : ∀ i : InC D, i.w.cell? ⟨g, o + ix1, none⟩ = some (nV xa) := fun i => gx _ (hbV.trans ((hDk _ i.h).mono hbV.size))
              have E4 : ∀ i : InC D, i.w.cell? ⟨g, o + ix2, none⟩ = some (nV ya) := fun i => gy _ (hbV.trans ((hDk _ i.h).mono hbV.size))
              have HDD := Lib.hid hDd
              clear hgc hgc' hM hnext hP hz hxa hya hxs gx gy hown' hbw' hDk hDd hkh hkb hpk hpk2 hix1 hq hix2 hab hb2 ht ht1 hl1 hl2
              gi_wp2_with fail
              refine region_heldIn 25 [0, 1, 2, 3, 4, 5, 6, 7, 8, 9, 10, 11, 12, 13, 14, 15, 16, 17, 18, 19, 20, 21, 22] [23, 24] D (by kernel_rfl) (FOk.wide _) (by kernel_rfl) (by intro c a d v w h; cases d <;> exact h) (HDD.out _ HBW.out.drew) ?_
              intro hne
              simp only [pickL, nthL]
              repeat (go_big_quiet_step (fail))
              refine wpQuiet_nil ?_
              intro Q1 hQ1
              gi_wp2_with fail
              refine ⟨trivial, fun _ => by omega, ?_⟩
              refine (callsIn_wide.2 (HPL.out _)).mono ?_
              rintro e W3 ⟨rfl, rfl⟩
              gi_wp2_with fail
              refine hQ1.out _ _ ⟨⟨wr.drew, HDD.out _ HBW.out.drew⟩, rfl⟩ ?_
              intro Q2 hQ2
              clear hQ1
              gi_wp2_with fail
              have hk2 : Below wr.heap.size wr (wr.alloc (.cells #[nV z] 25)) := (Below.refl _ wr).alloc (Nat.le_refl _) _
              have hbw2 : Below V.heap.size V ((wr.alloc (.cells #[nV z] 25)).drew) := (HBW.out.trans (hk2.mono HBW.out.size)).drew
              have hown2 : ((wr.alloc (.cells #[nV z] 25)).drew).ownsRow V.heap.size 25 1 (.slice oa' (k * h + j) oc') t xs := by
                have hh := owns_same (W := (wr.alloc (.cells #[nV z] 25)).drew) HOW.out fun j' _ h2 => hk2.block j' h2
                rwa [show (Value.slice oa' t oc') = Value.slice oa' (k * h + j) oc' by rw [← HTT.out]] at hh
              have hc2 : ∀ j' u, ([nV z] : List Value)[j']? = some u → ((wr.alloc (.cells #[nV z] 25)).drew).cell? ((⟨wr.heap.size, 0, none⟩ : Addr).add j') = some u := fun j' u hj => by
                have hj0 : j' = 0 := by
                  have := (List.getElem?_eq_some_iff.1 hj).1
                  simp at this
                  exact this
                subst hj0
                rw [add_blockN]
                exact ((HasC.new wr 25 #[nV z]).cell 0).trans hj
              have HU1 : Hid (∀ u ∈ ([nV z] : List Value), u.oneCell' = true) := fun u hu => by
                have hu' : u = nV z := by simpa using hu
                rw [hu']
                rfl
              have HBW2 := Lib.hid hbw2
              have HOW2 := Lib.hid hown2
              have HC2 := Lib.hid hc2
              refine hQ2.out _ _ ⟨⟨_, HDD.out _ hbw2⟩, rfl⟩ ?_
              simp only [heavyRun, List.drop_succ_cons, List.drop_zero]
              clear hQ2 hbw2 hown2 hc2 hk2 E1 E2 E3 E4 hne
              refine wpListIn_append_own _ rfl (.tmp 31) (.tmp 55) 22 rfl V.heap.size 25 i0 (.int .u64 0) 1 8 Try.underlying22 i1.out i2.out i3.out i4.out rfl (by decide) _ t xs rfl HOW2.out ⟨wr.heap.size, 0, none⟩ 1 1 [nV z] rfl rfl HC2.out HU1.out (by unfold maxLen; omega) (by omega) HBW2.out.size ?_
              intro v' V4 hown4 hgrow4 _
              have hb4 : Below V.heap.size V V4 := HBW2.out.trans ((Below.refl _ _).grown hgrow4 HBW2.out.size (owns_block HOW2.out))
              rw [← HNX.out] at hown4
              obtain ⟨va, vc, rfl⟩ := owns_shape hown4
              have HOW4 := Lib.hid hown4
              clear hown4 hgrow4
              gi_wp2_with fail
              go_roundw
              case rel => exact ⟨j + 1, by omega, by go_num, by rw [HT1.out]; exact HOW4.out, hb4⟩
              case measure => simp [intOf]; omega
            · obtain rfl : j = h := by omega
              have hnj : ¬ (j : Int) < (j : Int) := by omega
              have e : k * j + j = (k + 1) * j := by rw [Nat.add_mul, Nat.one_mul]
              rw [e] at hown'
              have HOW4 := Lib.hid hown'
              clear hown'
              gi_wp2_with fail
              go_roundw
              case rel => exact ⟨k + 1, by omega, by go_num, by rw [← e] at HOW4 ⊢; exact HOW4.out, hbw'⟩
              case measure => simp [intOf]; omega
        · obtain rfl : k = a := by omega
          have hnk : ¬ (k : Int) < (k : Int) := by omega
          have hM : (lowC8 k h L).length = k * h := lowC_len8 k h L
          rw [List.take_of_length_le (by omega)] at hown
          have hr := HRF.out.below hbw HRF.out.lt
          have hf : NumF V.heap.size wr (.slice oa (k * h) oc) (lowC8 k h L) := numF_of_owns (by rw [hM]; exact hown)
          have HF := Lib.hid hf
          have HR4 := Lib.hid hr
          have HB4 := Lib.hid (hbV.trans (hbw.mono hbV.size))
          have z0 := hr.frozen 0
          have z1 := hr.frozen 1
          have z2 := hr.frozen 2
          have r0 := hr.cell 0
          have r1 := hr.cell 1
          have r2' := hr.cell 2
          clear hown hf hx hr hbw hM
          gi_wp2_with fail
          refine bodyPost_ret (results_cms rfl _ _ (w.heap.size + 1) _ _ _ rfl ((((HR4.out.set 0 (.int .i64 (k : Int))).set 1 (.int .i64 (h : Int))).set 2 (.slice oa (k * h) oc)).eq (cs' := #[.int .i64 (k : Int), .int .i64 (h : Int), .slice oa (k * h) oc]) rfl)) rfl ?_
          rw [HA.out, HG.out]
          have hzV := HZV.out
          refine ⟨⟨_, rfl, ?_⟩, ((HB4.out.setCell (p := ⟨w.heap.size + 1, 0, none⟩) (by simp) _).setCell (p := ⟨w.heap.size + 1, 1, none⟩) (by simp) _).setCell (p := ⟨w.heap.size + 1, 2, none⟩) (by simp) _⟩
          refine (HF.out.keep (by simp) fun j h1 h2 => ?_).mono (by omega)
          rw [Below.heap_setCell _ _ _ j (by simp; omega), Below.heap_setCell _ _ _ j (by simp; omega), Below.heap_setCell _ _ _ j (by simp; omega)]
theorem pLower8_any (r c : Int) (L : List Nat) (v : Value) (w : World) (hv : NumSl w v L) (hL : ∀ x ∈ L, x ≤ topN) :
    Calls Try.prog 26 #[cV r c v] w fun e w' => CmX w.heap.size (lowerCm r c L) e w' ∧ Below w.heap.size w w' :=
  callsIn_wide.1 (pLower8_in 5 (by decide) r c L v w hv hL)
end Go.Proofs.Ythhlofcmhnkcmaa
