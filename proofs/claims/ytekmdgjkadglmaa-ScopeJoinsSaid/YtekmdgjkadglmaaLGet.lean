
/- Package label: Get. -/
import Derived.Test.YtekmdgjkadglmaaLEach
namespace Go.Proofs.Ytekmdgjkadglmaa
open Go.RowKit Go.Shelf
attribute [local go_sem] Oper.semAt_some

set_option maxHeartbeats 1000000 in
set_option maxRecDepth 100000 in
theorem getC_in (n : Nat) (h3 : 3 ≤ n) (L : List Lab) (v : Value) (nm : ByteArray) (w : World) (hv : LblSl w v L) (hn : L.length ≤ 1000) :
    CallsIn Fence.wide n Try.prog 24 #[v, .string nm] w fun e w' => e = .returned (GetV L nm) ∧ Below w.heap.size w w' := by
  obtain ⟨ao, c, rfl, hc⟩ := hv.at_
  obtain ⟨m, hm⟩ : ∃ m, m = L.length := ⟨_, rfl⟩
  have HM := Lib.hid hm
  rw [← hm] at hn
  rw [← hm]
  have HC := Lib.hid hc
  clear hm hc hv
  refine callsIn_of_wp_marks Try.func24 rfl trivial ?_ rfl
  simp only [Try.ntmps24, List.size_toArray, List.length_cons, List.length_nil, Nat.reduceAdd, Nat.reduceSub, Array.replicate_succ, Array.replicate_zero, List.push_toArray, List.append_toArray, List.nil_append, List.cons_append]
  gi_wp2
  refine ⟨trivial, fun _ => by omega, ?_⟩
  refine (callsIn_wide.2 (each_any _ _ _ _)).mono ?_
  rintro e w2 ⟨rfl, rfl⟩
  gi_wp2_with fail
  obtain ⟨W0, hW0⟩ : ∃ W0, W0 = (((w.alloc (.cells #[.string nm] 9)).alloc (.cells #[.string { data := #[] }] 9)).alloc (.cells #[.bool false] 4)).alloc (.cells #[.slice ao m c] 29) := ⟨_, rfl⟩
  have hz0 : W0.heap.size = w.heap.size + 4 := by rw [hW0]; simp
  have hb0 : Below w.heap.size w W0 := by
    rw [hW0]
    exact ((((Below.refl _ w).alloc (Nat.le_refl _) _).alloc (by simp) _).alloc (by simp; omega) _).alloc (by simp; omega) _
  have hn0 : HasC W0 w.heap.size 9 #[.string nm] := by rw [hW0]; exact (((HasC.new w _ _).alloc _).alloc _).alloc _
  have hr0 : HasC W0 (w.heap.size + 1) 9 #[.string { data := #[] }] := by rw [hW0]; exact ((HasC.at_ _ _ _ (by simp)).alloc _).alloc _
  have hk0 : HasC W0 (w.heap.size + 2) 4 #[.bool false] := by rw [hW0]; exact (HasC.at_ _ _ _ (by simp)).alloc _
  have hs0 : HasC W0 (w.heap.size + 3) 29 #[.slice ao m c] := by rw [hW0]; exact HasC.at_ _ _ _ (by simp)
  rw [← hW0]
  clear hW0
  refine range_each (Bn := w.heap.size + 3) (c := c) (ao := ao) (L := L) (by omega) rfl rfl (by have := HM.out; omega) w.heap.size
    (fun k W => HasC W (w.heap.size + 3) 29 #[.slice ao m c] ∧ Below w.heap.size w W ∧ HasC W w.heap.size 9 #[.string nm] ∧ HasC W (w.heap.size + 1) 9 #[.string { data := #[] }] ∧ HasC W (w.heap.size + 2) 4 #[.bool false] ∧ getLb L nm = getLb (L.drop k) nm)
    (fun j W => j = .ret ∧ Below w.heap.size w W ∧ ∃ y, getLb L nm = some y ∧ HasC W (w.heap.size + 1) 9 #[.string y] ∧ HasC W (w.heap.size + 2) 4 #[.bool true])
    (fun k W h => ⟨by rw [← HM.out]; exact h.1.cell 0, HC.out.below h.2.1⟩) ?_ ?_ ?_ ?_ ?_ ?_
  · rintro k W o ⟨hS, hbw, hN, hA, hK, hR⟩
    exact ⟨hS.put (by omega) o, below_put hbw _ o (by omega), hN.put (by omega) o, hA.put (by omega) o, hK.put (by omega) o, hR⟩
  · rintro j W o ⟨hj, hbw, y, hR, hA, hK⟩
    exact ⟨hj, below_put hbw _ o (by omega), y, hR, hA.put (by omega) o, hK.put (by omega) o⟩
  · intro o
    exact ⟨(hs0.alloc _).alloc _, (hb0.alloc (by omega) _).alloc (by simp; omega) _, (hn0.alloc _).alloc _, (hr0.alloc _).alloc _, (hk0.alloc _).alloc _, by rw [List.drop_zero]⟩
  · rintro k hk W ⟨hS, hbw, hN, hA, hK, hR⟩ rd bz hL
    have hstep := getLb_drop L nm k hk
    obtain ⟨x, y, hxy⟩ : ∃ x y, L[k] = (x, y) := ⟨_, _, rfl⟩
    rw [hxy] at hstep
    rw [hxy]
    unfold encE
    dsimp only at hstep
    have hLt := hL.lt
    have HST := Lib.hid hstep
    have HRR := Lib.hid hR
    clear hxy hstep hR
    gi_wp2_with fail
    refine ⟨hL.alloc _, ?_⟩
    have hX := (HasC.new W 37 #[.string x, .string y]).put (L := W0.heap.size + 1) (by omega) bz
    have hN1 := (hN.alloc (.cells #[.string x, .string y] 37)).put (L := W0.heap.size + 1) (by omega) bz
    have hA1 := (hA.alloc (.cells #[.string x, .string y] 37)).put (L := W0.heap.size + 1) (by omega) bz
    have hK1 := (hK.alloc (.cells #[.string x, .string y] 37)).put (L := W0.heap.size + 1) (by omega) bz
    have hS1 := (hS.alloc (.cells #[.string x, .string y] 37)).put (L := W0.heap.size + 1) (by omega) bz
    have hL1 := (hL.alloc (.cells #[.string x, .string y] 37)).put bz
    have hbw1 := below_put (hbw.alloc (by omega) (.cells #[.string x, .string y] 37)) (W0.heap.size + 1) bz (by omega)
    generalize (W.alloc (.cells #[.string x, .string y] 37)).putObj (W0.heap.size + 1) bz = V at hX hN1 hA1 hK1 hS1 hL1 hbw1
    clear hbw hN hA hK hS hL
    have cx := hX.cell 0
    have cy := hX.cell 1
    have cn := hN1.cell 0
    have za := hA1.frozen 0
    have ca := hA1.cell 0
    have zk := hK1.frozen 0
    have ck := hK1.cell 0
    by_cases he : x = nm
    · have hv : getLb L nm = some y := by rw [HRR.out, HST.out, if_pos he]
      have HV := Lib.hid hv
      have hq := ba_eq he
      clear hv he
      gi_wp2_with fail
      refine ⟨(hL1.set _ _ (by simp; omega) (by simp; omega)).set _ _ (by simp; omega) (by simp; omega), rfl, (hbw1.setCell (p := ⟨w.heap.size + 1, 0, none⟩) (by simp) _).setCell (p := ⟨w.heap.size + 1 + 1, 0, none⟩) (by simp; omega) _, y, HV.out, ?_, ?_⟩
      · exact ((hA1.set 0 _).far _ _ (by simp)).eq rfl
      · exact ((hK1.far _ _ (by simp)).set 0 _).eq rfl
    · have hv : getLb L nm = getLb (L.drop (k + 1)) nm := by rw [HRR.out, HST.out, if_neg he]
      have HV := Lib.hid hv
      have hq := ba_ne he
      clear hv he
      gi_wp2_with fail
      exact ⟨hL1, hS1, hbw1, hN1, hA1, hK1, HV.out⟩
  · rintro W ⟨hS, hbw, hN, hA, hK, hR⟩ hD
    have ca : W.cell? ⟨w.heap.size + 1, 0, none⟩ = some (.string { data := #[] }) := hA.cell 0
    have ck : W.cell? ⟨w.heap.size + 2, 0, none⟩ = some (.bool false) := hK.cell 0
    have za := hA.frozen 0
    have zk := hK.frozen 0
    have hv : GetV L nm = .tuple #[.string { data := #[] }, .bool false] := by
      unfold GetV
      rw [hR, List.drop_length]
      rfl
    have HV := Lib.hid hv
    clear hv hR
    gi_wp2_with fail
    have hD2 : ((W.setCell ⟨w.heap.size + 1, 0, none⟩ (.string { data := #[] })).setCell ⟨w.heap.size + 1 + 1, 0, none⟩ (.bool false)).heap[W0.heap.size]? = some (.deferred (some [])) :=
      (Below.heap_setCell _ ⟨w.heap.size + 1 + 1, 0, none⟩ _ W0.heap.size (by simp; omega)).trans ((Below.heap_setCell _ ⟨w.heap.size + 1, 0, none⟩ _ W0.heap.size (by simp; omega)).trans hD)
    have hA2 := (((hA.set 0 (.string { data := #[] })).far ⟨w.heap.size + 1 + 1, 0, none⟩ (.bool false) (by simp)).put (L := W0.heap.size) (by omega) (.deferred none)).cell 0
    have hK2 := (((hK.far ⟨w.heap.size + 1, 0, none⟩ (.string { data := #[] }) (by simp)).set 0 (.bool false)).put (L := W0.heap.size) (by omega) (.deferred none)).cell 0
    have hb2 := (hbw.setCell (p := ⟨w.heap.size + 1, 0, none⟩) (by simp) (.string { data := #[] })).setCell (p := ⟨w.heap.size + 1 + 1, 0, none⟩) (by simp; omega) (.bool false)
    refine ⟨by simp, .inl ⟨_, _, rfl, run_takeDeferred (b := W0.heap.size) hD2, ?_⟩⟩
    exact ⟨.tuple #[.string { data := #[] }, .bool false], by simp [results, Try.results24, go_sem, hA2, hK2], by rw [HV.out], below_put hb2 _ _ (by omega)⟩
  · rintro j W ⟨rfl, hbw, y, hR, hA, hK⟩ hD
    have ca : W.cell? ⟨w.heap.size + 1, 0, none⟩ = some (.string y) := hA.cell 0
    have ck : W.cell? ⟨w.heap.size + 2, 0, none⟩ = some (.bool true) := hK.cell 0
    have hv : GetV L nm = .tuple #[.string y, .bool true] := by unfold GetV; rw [hR]
    have HV := Lib.hid hv
    clear hv hR
    gi_wp2_with fail
    have hA2 := (hA.put (L := W0.heap.size) (by omega) (.deferred none)).cell 0
    have hK2 := (hK.put (L := W0.heap.size) (by omega) (.deferred none)).cell 0
    refine ⟨by simp, .inl ⟨_, _, rfl, run_takeDeferred (b := W0.heap.size) hD, ?_⟩⟩
    exact ⟨.tuple #[.string y, .bool true], by simp [results, Try.results24, go_sem, hA2, hK2], by rw [HV.out], below_put hbw _ _ (by omega)⟩
theorem lGet_any (L : List Lab) (v : Value) (nm : ByteArray) (w : World) (hv : LblSl w v L) (hn : L.length ≤ 1000) :
    Calls Try.prog 24 #[v, .string nm] w fun e w' => e = .returned (GetV L nm) ∧ Below w.heap.size w w' :=
  callsIn_wide.1 (getC_in 5 (by decide) L v nm w hv hn)
end Go.Proofs.Ytekmdgjkadglmaa
