
/- The page's own answers for layer 6: Merge. -/
import Derived.Test.YtncjbbgenngegaaERef3
namespace Go.Proofs.Ytncjbbgenngegaa
open Go.RowKit

/-- Two sketches in boxes of their own, and a cell for what is returned. -/
structure Boxes (w : World) (x y z : Value) (W : World) : Prop where
  one : HasC W w.heap.size 24 #[x]
  two : HasC W (w.heap.size + 1) 24 #[y]
  out : HasC W (w.heap.size + 2) 24 #[z]
  below : Below w.heap.size w W
theorem Boxes.on {w W W' : World} {x y z : Value} {B : Nat} (h : Boxes w x y z W) (hb : Below B W W') (hB : w.heap.size + 3 ≤ B) : Boxes w x y z W' :=
  ⟨h.one.below hb (by omega), h.two.below hb (by omega), h.out.below hb (by omega), h.below.trans (hb.mono (by omega))⟩
theorem Boxes.size {w W : World} {x y z : Value} (h : Boxes w x y z W) : w.heap.size + 3 ≤ W.heap.size := h.out.lt
theorem boxes_new (w : World) (x y z : Value) : ∃ w1 w2 w3, w.alloc (Obj.cells #[x] 24) = w1 ∧ w1.alloc (Obj.cells #[y] 24) = w2 ∧ w2.alloc (Obj.cells #[z] 24) = w3 ∧ w1.heap.size = w.heap.size + 1 ∧ w2.heap.size = w.heap.size + 2 ∧ Boxes w x y z w3 := by
  refine ⟨_, _, _, rfl, rfl, rfl, by simp, by simp, ?_, ?_, ?_, ?_⟩
  · exact ((HasC.new w 24 #[x]).alloc _).alloc _
  · have h := (HasC.new (w.alloc (Obj.cells #[x] 24)) 24 #[y]).alloc (Obj.cells #[z] 24)
    simpa using h
  · have h := HasC.new ((w.alloc (Obj.cells #[x] 24)).alloc (Obj.cells #[y] 24)) 24 #[z]
    simpa using h
  · exact (((Below.refl w.heap.size w).alloc (Nat.le_refl _) _).alloc (by simp) _).alloc (by simp; omega) _
theorem num_both {w : World} {B n m : Nat} {v : Value} {L M : List Nat} (hn : n = L.length) (hm : m = M.length) (h : w.ownsRow B 25 1 v (0 + n + m) ([] ++ numL L ++ numL M)) : w.ownsRow B 25 1 v (L ++ M).length (numL (L ++ M)) := by
  have e1 : (L ++ M).length = 0 + n + m := by rw [List.length_append, ← hn, ← hm]; omega
  have e2 : numL (L ++ M) = [] ++ numL L ++ numL M := by rw [numL_app]; rfl
  rw [e1, e2]
  exact h
set_option maxHeartbeats 4000000 in
set_option maxRecDepth 100000 in
theorem eMerge_any (A B : List Nat) (va vb : Value) (w : World) (hA : NumSl w va A) (hB : NumSl w vb B) (hna : A.length ≤ 400) (hnb : B.length ≤ 400) :
    Calls Try.prog 26 #[.agg #[va], .agg #[vb]] w fun e w' => OfOut w.heap.size (mergeP A B) e w' ∧ Below w.heap.size w w' := by
  have R1 := Lib.hid (fun W a h => eRight_any A a W h (by omega))
  have R2 := Lib.hid (fun W a h => eRight_any B a W h (by omega))
  have HVA := Lib.hid hA
  have HVB := Lib.hid hB
  obtain ⟨ao, ca, rfl, _⟩ := hA.shape
  obtain ⟨bo, cb, rfl, _⟩ := hB.shape
  obtain ⟨n, hnn⟩ : ∃ n, n = A.length := ⟨_, rfl⟩
  obtain ⟨m, hmm⟩ : ∃ m, m = B.length := ⟨_, rfl⟩
  have HN := Lib.hid hnn
  have HM := Lib.hid hmm
  rw [← hnn] at hna HVA ⊢
  rw [← hmm] at hnb HVB ⊢
  obtain ⟨w1, w2, w3, hw1, hw2, hw3, hz1, hz2, hbx⟩ := boxes_new w (.slice ao n ca) (.slice bo m cb) (.slice none 0 0)
  obtain ⟨r, hr⟩ : ∃ r, rightN A = r := ⟨_, rfl⟩
  obtain ⟨q, hq⟩ : ∃ r, rightN B = r := ⟨_, rfl⟩
  rw [hr] at R1
  rw [hq] at R2
  have hmg : mergeP A B = if r && q then ofP (A ++ B) else ([], 60) := by rw [← hr, ← hq]; rfl
  have HG := Lib.hid hmg
  have c0 : w3.cell? ⟨w.heap.size, 0, none⟩ = some (.slice ao n ca) := hbx.one.cell 0
  have hva := HVA.out.below hbx.below
  have HBX := Lib.hid hbx
  clear hnn hmm hA hB hr hq hmg hbx
  go_enter Try.func26, Try.ntmps26
  go_wp2_with fail
  with_reducible refine (R1.out _ _ hva).mono ?_
  rintro e w4 ⟨rfl, hb⟩
  have HB4 := Lib.hid (HBX.out.on hb HBX.out.size)
  have d0 : w4.cell? ⟨w.heap.size, 0, none⟩ = some (.slice ao n ca) := HB4.out.one.cell 0
  have d1 : w4.cell? ⟨w.heap.size + 1, 0, none⟩ = some (.slice bo m cb) := HB4.out.two.cell 0
  have d2 : w4.cell? ⟨w.heap.size + 2, 0, none⟩ = some (.slice none 0 0) := HB4.out.out.cell 0
  have d3 : w4.frozen? ⟨w.heap.size + 2, 0, none⟩ = false := HB4.out.out.frozen 0
  have hvb := HVB.out.below HB4.out.below
  clear c0 hva hb
  cases r with
  | false =>
    go_wp2_with fail
    have hcl2 : HasC (w4.setCell ⟨w.heap.size + 2, 0, none⟩ (.slice none 0 0)) (w.heap.size + 2) 24 #[.slice none 0 0] := HasC.eq (HB4.out.out.set 0 _) rfl
    refine ⟨rfl, _, results_exact rfl _ _ (w.heap.size + 2) _ rfl hcl2, ⟨_, by rw [HG.out]; rfl, ?_⟩, HB4.out.below.setCell (p := ⟨w.heap.size + 2, 0, none⟩) (by simp) _⟩
    rw [HG.out]
    exact World.ownsRow_nil _ _ _ _
  | true =>
    go_wp2_with fail
    with_reducible refine (R2.out _ _ hvb).mono ?_
    rintro e w5 ⟨rfl, hb⟩
    have HB5 := Lib.hid (HB4.out.on hb HB4.out.size)
    have e0 : w5.cell? ⟨w.heap.size, 0, none⟩ = some (.slice ao n ca) := HB5.out.one.cell 0
    have e1 : w5.cell? ⟨w.heap.size + 1, 0, none⟩ = some (.slice bo m cb) := HB5.out.two.cell 0
    have e2 : w5.cell? ⟨w.heap.size + 2, 0, none⟩ = some (.slice none 0 0) := HB5.out.out.cell 0
    have e3 : w5.frozen? ⟨w.heap.size + 2, 0, none⟩ = false := HB5.out.out.frozen 0
    clear d0 d1 d2 d3 hvb hb
    cases q with
    | false =>
      go_wp2_with fail
      have hcl2 : HasC (w5.setCell ⟨w.heap.size + 2, 0, none⟩ (.slice none 0 0)) (w.heap.size + 2) 24 #[.slice none 0 0] := HasC.eq (HB5.out.out.set 0 _) rfl
      refine ⟨rfl, _, results_exact rfl _ _ (w.heap.size + 2) _ rfl hcl2, ⟨_, by rw [HG.out]; rfl, ?_⟩, HB5.out.below.setCell (p := ⟨w.heap.size + 2, 0, none⟩) (by simp) _⟩
      rw [HG.out]
      exact World.ownsRow_nil _ _ _ _
    | true =>
      have sA : ∀ W, Below (w.heap.size + 3) w5 W → SrcN W (.slice ao n ca) n (numL A) := fun W hW => by
        have h := SrcN.of_num (HVA.out.below (HB5.out.below.trans (hW.mono (by omega))))
        rwa [← HN.out] at h
      have sB : ∀ W, Below (w.heap.size + 3) w5 W → SrcN W (.slice bo m cb) m (numL B) := fun W hW => by
        have h := SrcN.of_num (HVB.out.below (HB5.out.below.trans (hW.mono (by omega))))
        rwa [← HM.out] at h
      have SA := Lib.hid sA
      have SB := Lib.hid sB
      have hz5 := HB5.out.size
      clear sA sB
      go_wp2_with fail
      go_region_held_law (fun w' => w'.cell? ⟨w.heap.size, 0, none⟩ = some (.slice ao n ca) ∧ w'.cell? ⟨w.heap.size + 1, 0, none⟩ = some (.slice bo m cb))
        (first
          | go_keep
          | exact ⟨(HB8.out.one.far _ _ (by simp)).cell 0, (HB8.out.two.far _ _ (by simp)).cell 0⟩
          | exact ⟨HB8.out.one.cell 0, HB8.out.two.cell 0⟩
          | exact ⟨HB7.out.one.cell 0, HB7.out.two.cell 0⟩
          | exact ⟨HB6.out.one.cell 0, HB6.out.two.cell 0⟩)
        ((first
          | (refine step_appN _ (by rfl) (.tmp 16) (.tmp 18) (by rfl) (w.heap.size + 3) (.slice none 0 0) 0 [] (by rfl) (World.ownsRow_nil _ _ _ _) (.slice ao n ca) n (numL A) (by rfl) (SA.out _ ((Below.refl _ _).drew)) (by omega) (by simp; omega) ?_; intro v6 w6 hown6 hgrow6; have hz6 := hgrow6.size; have HL6 : Below (w.heap.size + 3) w5 w6 := ((Below.refl _ w5).drew).grown hgrow6 (by simp; omega) (fun k hk => by simp [Value.ownBlock] at hk); have HB6 := Lib.hid (HB5.out.on HL6 (Nat.le_refl _)); have HO6 := Lib.hid hown6; clear hown6 hgrow6)
          | (refine step_appN _ (by rfl) (.tmp 19) (.tmp 21) (by rfl) (w.heap.size + 3) v6 (0 + n) ([] ++ numL A) (by rfl) HO6.out (.slice bo m cb) m (numL B) (by rfl) (SB.out _ HL6) (by omega) (by simp at hz6 ⊢; omega) ?_; intro v7 w7 hown7 hgrow7; have hz7 := hgrow7.size; have HL7 : Below (w.heap.size + 3) w5 w7 := HL6.grown hgrow7 (by simp at hz6 ⊢; omega) (fun k hk => (HO6.out.lt _ hk).1); have HB7 := Lib.hid (HB5.out.on HL7 (Nat.le_refl _)); have HO7 := Lib.hid (num_both HN.out HM.out hown7); clear hown7 hgrow7)
          | (go_at_call 14; refine (eOf_any (A ++ B) v7 w7 (numSl_of_owns HO7.out) (by rw [List.length_append, ← HN.out, ← HM.out]; omega)).mono ?_; rintro e w8 ⟨⟨v8, rfl, hown8⟩, hb8⟩; obtain ⟨ao8, c8, rfl, _⟩ := (numSl_of_owns hown8).shape; have HL8 : Below (w.heap.size + 3) w5 w8 := HL7.trans (hb8.mono HB7.out.size); have HB8 := Lib.hid (HB5.out.on HL8 (Nat.le_refl _)); have HO8 := Lib.hid hown8; have g2 : w8.cell? ⟨w.heap.size + 2, 0, none⟩ = some (.slice none 0 0) := HB8.out.out.cell 0; have g3 : w8.frozen? ⟨w.heap.size + 2, 0, none⟩ = false := HB8.out.out.frozen 0; clear hown8 hb8)))
      all_goals
        have hcl2 : HasC (w8.setCell ⟨w.heap.size + 2, 0, none⟩ (.slice ao8 (ofP (A ++ B)).1.length c8)) (w.heap.size + 2) 24 #[.slice ao8 (ofP (A ++ B)).1.length c8] := HasC.eq (HB8.out.out.set 0 _) rfl
        clear e0 e1 e2 e3 g2 g3
        go_wp2_with fail
        refine ⟨rfl, _, results_exact rfl _ _ (w.heap.size + 2) _ rfl hcl2, ⟨_, by rw [HG.out]; rfl, ?_⟩, HB8.out.below.setCell (p := ⟨w.heap.size + 2, 0, none⟩) (by simp) _⟩
        rw [HG.out]
        have hk := HO8.out.kept (grownBy_setCell' w8 (w.heap.size + 2) (.slice ao8 (ofP (A ++ B)).1.length c8)) (.inr (fun e => by have := (HO8.out.lt _ e).1; have := HB7.out.size; omega))
        exact owns_mono hk (by have := HB7.out.size; omega)
end Go.Proofs.Ytncjbbgenngegaa
