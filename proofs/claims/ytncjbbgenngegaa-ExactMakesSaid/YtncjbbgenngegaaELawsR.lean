/- The statements' walks: ExactRules. -/
import Derived.Test.YtncjbbgenngegaaELaws
namespace Go.Proofs.Ytncjbbgenngegaa
open Go.RowKit

/-- A cell that holds a sketch. -/
def At (W : World) (b : Nat) (s : Value) (L : List Nat) : Prop := W.cell? ⟨b, 0, none⟩ = some s ∧ NumSl W s L ∧ b < W.heap.size
theorem At.on {W W' : World} {b : Nat} {s : Value} {L : List Nat} (h : At W b s L) (hb : Below W.heap.size W W') : At W' b s L :=
  ⟨(hb.cell (p := ⟨b, 0, none⟩) h.2.2).trans h.1, h.2.1.below hb, Nat.lt_of_lt_of_le h.2.2 hb.size⟩
theorem At.cell {W : World} {b : Nat} {s : Value} {L : List Nat} (h : At W b s L) : W.cell? ⟨b, 0, none⟩ = some s := h.1
theorem At.sl {W : World} {b : Nat} {s : Value} {L : List Nat} (h : At W b s L) : NumSl W s L := h.2.1
theorem at_new (W : World) (s : Value) (L : List Nat) (h : NumSl W s L) : ∃ W', W.alloc (Obj.cells #[s] 24) = W' ∧ Below W.heap.size W W' ∧ At W' W.heap.size s L := by
  have hb := (Below.refl W.heap.size W).alloc (Nat.le_refl _) (Obj.cells #[s] 24)
  exact ⟨_, rfl, hb, World.cell?_alloc_at _ _ _ _ rfl, h.below hb, by simp⟩
theorem ofP_len (L : List Nat) : (ofP L).1.length ≤ 64 := by
  unfold ofP
  split
  · assumption
  · exact Nat.zero_le _
theorem mergeP_len (A B : List Nat) : (mergeP A B).1.length ≤ 64 := by
  unfold mergeP
  split
  · exact ofP_len _
  · exact Nat.zero_le _
theorem ofP_few {L : List Nat} (h : L.length ≤ 64) : ofP L = (ofN L, 0) := by
  unfold ofP
  rw [if_pos (Nat.le_trans (of_len L) h)]
theorem right_of {L : List Nat} (h : L.length ≤ 64) : rightN (ofN L) = true := of_right (Nat.le_trans (of_len L) h)
theorem mergeP_ok {A B : List Nat} (hA : rightN A = true) (hB : rightN B = true) (h : (mergeP A B).2 = 0) : (mergeP A B).1 = ofN (A ++ B) ∧ (ofN (A ++ B)).length ≤ 64 := by
  unfold mergeP at h ⊢
  rw [hA, hB] at h ⊢
  simp only [Bool.and_self, if_true] at h ⊢
  unfold ofP at h ⊢
  by_cases hl : (ofN (A ++ B)).length ≤ 64
  · rw [if_pos hl]; exact ⟨rfl, hl⟩
  · rw [if_neg hl] at h; cases h
theorem mergeP_of {A B : List Nat} (hA : rightN A = true) (hB : rightN B = true) (h : (ofN (A ++ B)).length ≤ 64) : mergeP A B = (ofN (A ++ B), 0) := by
  unfold mergeP
  rw [hA, hB]
  unfold ofP
  rw [if_pos h]
  rfl
theorem merge_self {A : List Nat} (hA : rightN A = true) : mergeP A A = (A, 0) := by
  have h : ofN (A ++ A) = A := by
    rw [show ofN (A ++ A) = ofN A from of_congr fun x => by simp]
    exact of_rise (right_parts hA).1
  rw [mergeP_of hA hA (by rw [h]; exact (right_parts hA).2), h]
/-- Three sketches, merged either way about. -/
theorem merge_ways {X Y Z : List Nat} (hX : rightN X = true) (hY : rightN Y = true) (hZ : rightN Z = true)
    (h : (mergeP X Y).2 = 0) (i : (mergeP (mergeP X Y).1 Z).2 = 0) (j : (mergeP Y Z).2 = 0) :
    (mergeP X (mergeP Y Z).1).2 = 0 ∧ (mergeP (mergeP X Y).1 Z).1 = (mergeP X (mergeP Y Z).1).1 := by
  obtain ⟨h1, h2⟩ := mergeP_ok hX hY h
  obtain ⟨j1, j2⟩ := mergeP_ok hY hZ j
  rw [h1] at i ⊢
  rw [j1]
  obtain ⟨i1, i2⟩ := mergeP_ok (of_right h2) hZ i
  have e : ofN (X ++ ofN (Y ++ Z)) = ofN (ofN (X ++ Y) ++ Z) := of_congr fun x => by
    simp only [List.mem_append, mem_of]
    exact or_assoc.symm
  rw [i1, mergeP_of hX (of_right j2) (by rw [e]; exact i2), e]
  exact ⟨rfl, rfl⟩
set_option maxHeartbeats 8000000 in
set_option maxRecDepth 100000 in
theorem lawRules_any (l1 l2 l3 : List Nat) (v1 v2 v3 : Value) (w : World) (h1 : NumSl w v1 l1) (h2 : NumSl w v2 l2) (h3 : NumSl w v3 l3) (_hn1 : l1.length ≤ maxLen) (_hn2 : l2.length ≤ maxLen) (_hn3 : l3.length ≤ maxLen) :
    Calls Try.prog 9 #[v1, v2, v3] w fun e w' => e = .returned (.bool true) ∧ Below w.heap.size w w' := by
  obtain ⟨a1, c1, rfl, _⟩ := h1.shape
  obtain ⟨n1, hnn1⟩ : ∃ n, n = l1.length := ⟨_, rfl⟩
  rw [← hnn1] at _hn1 ⊢
  unfold maxLen at _hn1
  obtain ⟨m1, q1, r1, s1, t1⟩ := min_of 40 40 rfl n1
  obtain ⟨src1, hr1, hs1⟩ := num_take h1 m1 (by omega)
  rw [← hnn1] at hr1
  have hz1 : (l1.take m1).length ≤ 40 := by rw [List.length_take]; omega
  obtain ⟨u1, hu1⟩ : ∃ u, l1.take m1 = u := ⟨_, rfl⟩
  rw [hu1] at hs1 hz1
  have HS1 := Lib.hid hs1
  have hof1 := ofP_few (L := u1) (by omega)
  have hrt1 := right_of (L := u1) (by omega)
  have hxl1 : (ofN u1).length ≤ 64 := Nat.le_trans (of_len u1) (by omega)
  obtain ⟨X1, hX1⟩ : ∃ X, ofN u1 = X := ⟨_, rfl⟩
  rw [hX1] at hof1 hrt1 hxl1
  have O1 := Lib.hid (fun W v h => xOf_any u1 v W h (by omega))
  rw [hof1] at O1
  clear hof1 hX1 hu1 hs1 hnn1 h1
  obtain ⟨a2, c2, rfl, _⟩ := h2.shape
  obtain ⟨n2, hnn2⟩ : ∃ n, n = l2.length := ⟨_, rfl⟩
  rw [← hnn2] at _hn2 ⊢
  unfold maxLen at _hn2
  obtain ⟨m2, q2, r2, s2, t2⟩ := min_of 40 40 rfl n2
  obtain ⟨src2, hr2, hs2⟩ := num_take h2 m2 (by omega)
  rw [← hnn2] at hr2
  have hz2 : (l2.take m2).length ≤ 40 := by rw [List.length_take]; omega
  obtain ⟨u2, hu2⟩ : ∃ u, l2.take m2 = u := ⟨_, rfl⟩
  rw [hu2] at hs2 hz2
  have HS2 := Lib.hid hs2
  have hof2 := ofP_few (L := u2) (by omega)
  have hrt2 := right_of (L := u2) (by omega)
  have hxl2 : (ofN u2).length ≤ 64 := Nat.le_trans (of_len u2) (by omega)
  obtain ⟨X2, hX2⟩ : ∃ X, ofN u2 = X := ⟨_, rfl⟩
  rw [hX2] at hof2 hrt2 hxl2
  have O2 := Lib.hid (fun W v h => xOf_any u2 v W h (by omega))
  rw [hof2] at O2
  clear hof2 hX2 hu2 hs2 hnn2 h2
  obtain ⟨a3, c3, rfl, _⟩ := h3.shape
  obtain ⟨n3, hnn3⟩ : ∃ n, n = l3.length := ⟨_, rfl⟩
  rw [← hnn3] at _hn3 ⊢
  unfold maxLen at _hn3
  obtain ⟨m3, q3, r3, s3, t3⟩ := min_of 40 40 rfl n3
  obtain ⟨src3, hr3, hs3⟩ := num_take h3 m3 (by omega)
  rw [← hnn3] at hr3
  have hz3 : (l3.take m3).length ≤ 40 := by rw [List.length_take]; omega
  obtain ⟨u3, hu3⟩ : ∃ u, l3.take m3 = u := ⟨_, rfl⟩
  rw [hu3] at hs3 hz3
  have HS3 := Lib.hid hs3
  have hof3 := ofP_few (L := u3) (by omega)
  have hrt3 := right_of (L := u3) (by omega)
  have hxl3 : (ofN u3).length ≤ 64 := Nat.le_trans (of_len u3) (by omega)
  obtain ⟨X3, hX3⟩ : ∃ X, ofN u3 = X := ⟨_, rfl⟩
  rw [hX3] at hof3 hrt3 hxl3
  have O3 := Lib.hid (fun W v h => xOf_any u3 v W h (by omega))
  rw [hof3] at O3
  clear hof3 hX3 hu3 hs3 hnn3 h3
  have hself := merge_self hrt1
  have hways := merge_ways hrt1 hrt2 hrt3
  have HW := Lib.hid hways
  have g1 := mergeP_len X1 X2
  have g2 := mergeP_len (mergeP X1 X2).1 X3
  have g3 := mergeP_len X2 X3
  have g4 := mergeP_len X1 (mergeP X2 X3).1
  have M1 := Lib.hid (fun W va vb hA hB => xMerge_any X1 X2 va vb W hA hB (by omega) (by omega))
  have M2 := Lib.hid (fun W va vb hA hB => xMerge_any (mergeP X1 X2).1 X3 va vb W hA hB (by omega) (by omega))
  have M3 := Lib.hid (fun W va vb hA hB => xMerge_any X2 X3 va vb W hA hB (by omega) (by omega))
  have M4 := Lib.hid (fun W va vb hA hB => xMerge_any X1 (mergeP X2 X3).1 va vb W hA hB (by omega) (by omega))
  have M5 := Lib.hid (fun W va vb hA hB => xMerge_any X1 X1 va vb W hA hB (by omega) (by omega))
  rw [hself] at M5
  have S1 := Lib.hid (fun W va vb hA hB => xSame_any X1 X1 va vb W hA hB (by omega) (by omega))
  rw [decide_eq_true rfl] at S1
  obtain ⟨⟨A, ha⟩, hP1⟩ : ∃ P, mergeP X1 X2 = P := ⟨_, rfl⟩
  obtain ⟨⟨C, hc⟩, hP3⟩ : ∃ P, mergeP X2 X3 = P := ⟨_, rfl⟩
  rw [hP1] at M1 M2 HW g1 g2
  rw [hP3] at M3 M4 HW g3 g4
  dsimp only at M1 M2 M3 M4 HW g1 g2 g3 g4
  obtain ⟨⟨B, hbb⟩, hP2⟩ : ∃ P, mergeP A X3 = P := ⟨_, rfl⟩
  obtain ⟨⟨D, hd⟩, hP4⟩ : ∃ P, mergeP X1 C = P := ⟨_, rfl⟩
  rw [hP2] at M2 HW g2
  rw [hP4] at M4 HW g4
  dsimp only at M2 M4 HW g2 g4
  have S2 := Lib.hid (fun W va vb hA hB => xSame_any B D va vb W hA hB (by omega) (by omega))
  clear hP1 hP2 hP3 hP4 hself hways hrt1 hrt2 hrt3
  go_enter Try.func9, Try.ntmps9
  go_wp2_with fail
  with_reducible refine (shown6_any _).mono ?_
  rintro e w1 ⟨rfl, hk⟩
  go_wp2_with fail
  with_reducible refine (O1.out _ _ (HS1.out.below hk)).mono ?_
  rintro e x1 ⟨⟨y1, rfl, z1⟩, hb⟩
  have hk := hk.trans (hb.mono hk.size)
  obtain ⟨ao1, cc1, rfl, _⟩ := z1.sl.shape
  have zs1 : NumSl x1 (.slice ao1 X1.length cc1) X1 := z1.sl
  obtain ⟨w2, hw2, hb2, at1⟩ := at_new x1 (.slice ao1 X1.length cc1) X1 zs1
  have hk := hk.trans (hb2.mono hk.size)
  clear zs1 z1
  go_wp2_with fail
  with_reducible refine (O2.out _ _ (HS2.out.below hk)).mono ?_
  rintro e x2 ⟨⟨y2, rfl, z2⟩, hb⟩
  have hk := hk.trans (hb.mono hk.size)
  have at1 := at1.on hb
  obtain ⟨ao2, cc2, rfl, _⟩ := z2.sl.shape
  have zs2 : NumSl x2 (.slice ao2 X2.length cc2) X2 := z2.sl
  obtain ⟨w3, hw3, hb3, at2⟩ := at_new x2 (.slice ao2 X2.length cc2) X2 zs2
  have hk := hk.trans (hb3.mono hk.size)
  have at1 := at1.on hb3
  clear zs2 z2
  go_wp2_with fail
  with_reducible refine (O3.out _ _ (HS3.out.below hk)).mono ?_
  rintro e x3 ⟨⟨y3, rfl, z3⟩, hb⟩
  have hk := hk.trans (hb.mono hk.size)
  have at1 := at1.on hb
  have at2 := at2.on hb
  obtain ⟨ao3, cc3, rfl, _⟩ := z3.sl.shape
  have zs3 : NumSl x3 (.slice ao3 X3.length cc3) X3 := z3.sl
  obtain ⟨w4, hw4, hb4, at3⟩ := at_new x3 (.slice ao3 X3.length cc3) X3 zs3
  have hk := hk.trans (hb4.mono hk.size)
  have at1 := at1.on hb4
  have at2 := at2.on hb4
  clear zs3 z3
  have k1 := at1.cell
  have k2 := at2.cell
  go_wp2_with fail
  with_reducible refine (M1.out _ _ _ at1.sl at2.sl).mono ?_
  rintro e x4 ⟨⟨y4, rfl, z4⟩, hb⟩
  have hk := hk.trans (hb.mono hk.size)
  have at1 := at1.on hb
  have at2 := at2.on hb
  have at3 := at3.on hb
  obtain ⟨ao4, cc4, rfl, _⟩ := z4.sl.shape
  have zs4 : NumSl x4 (.slice ao4 A.length cc4) A := z4.sl
  obtain ⟨w5, hw5, hb5, at4⟩ := at_new x4 (.slice ao4 A.length cc4) A zs4
  have hk := hk.trans (hb5.mono hk.size)
  have at1 := at1.on hb5
  have at2 := at2.on hb5
  have at3 := at3.on hb5
  clear k1 k2
  clear zs4 z4
  have k4 := at4.cell
  have k3 := at3.cell
  go_wp2_with fail
  with_reducible refine (M2.out _ _ _ at4.sl at3.sl).mono ?_
  rintro e x5 ⟨⟨y5, rfl, z5⟩, hb⟩
  have hk := hk.trans (hb.mono hk.size)
  have at1 := at1.on hb
  have at2 := at2.on hb
  have at3 := at3.on hb
  have at4 := at4.on hb
  obtain ⟨ao5, cc5, rfl, _⟩ := z5.sl.shape
  have zs5 : NumSl x5 (.slice ao5 B.length cc5) B := z5.sl
  obtain ⟨w6, hw6, hb6, at5⟩ := at_new x5 (.slice ao5 B.length cc5) B zs5
  have hk := hk.trans (hb6.mono hk.size)
  have at1 := at1.on hb6
  have at2 := at2.on hb6
  have at3 := at3.on hb6
  have at4 := at4.on hb6
  clear k4 k3
  clear zs5 z5
  have k2 := at2.cell
  have k3 := at3.cell
  go_wp2_with fail
  with_reducible refine (M3.out _ _ _ at2.sl at3.sl).mono ?_
  rintro e x6 ⟨⟨y6, rfl, z6⟩, hb⟩
  have hk := hk.trans (hb.mono hk.size)
  have at1 := at1.on hb
  have at2 := at2.on hb
  have at3 := at3.on hb
  have at4 := at4.on hb
  have at5 := at5.on hb
  obtain ⟨ao6, cc6, rfl, _⟩ := z6.sl.shape
  have zs6 : NumSl x6 (.slice ao6 C.length cc6) C := z6.sl
  obtain ⟨w7, hw7, hb7, at6⟩ := at_new x6 (.slice ao6 C.length cc6) C zs6
  have hk := hk.trans (hb7.mono hk.size)
  have at1 := at1.on hb7
  have at2 := at2.on hb7
  have at3 := at3.on hb7
  have at4 := at4.on hb7
  have at5 := at5.on hb7
  clear k2 k3
  clear zs6 z6
  have k1 := at1.cell
  have k6 := at6.cell
  go_wp2_with fail
  with_reducible refine (M4.out _ _ _ at1.sl at6.sl).mono ?_
  rintro e x7 ⟨⟨y7, rfl, z7⟩, hb⟩
  have hk := hk.trans (hb.mono hk.size)
  have at1 := at1.on hb
  have at2 := at2.on hb
  have at3 := at3.on hb
  have at4 := at4.on hb
  have at5 := at5.on hb
  have at6 := at6.on hb
  obtain ⟨ao7, cc7, rfl, _⟩ := z7.sl.shape
  have zs7 : NumSl x7 (.slice ao7 D.length cc7) D := z7.sl
  obtain ⟨w8, hw8, hb8, at7⟩ := at_new x7 (.slice ao7 D.length cc7) D zs7
  have hk := hk.trans (hb8.mono hk.size)
  have at1 := at1.on hb8
  have at2 := at2.on hb8
  have at3 := at3.on hb8
  have at4 := at4.on hb8
  have at5 := at5.on hb8
  have at6 := at6.on hb8
  clear k1 k6
  clear zs7 z7
  have k1 := at1.cell
  go_wp2_with fail
  with_reducible refine (M5.out _ _ _ at1.sl at1.sl).mono ?_
  rintro e x8 ⟨⟨y8, rfl, z8⟩, hb⟩
  have hk := hk.trans (hb.mono hk.size)
  have at1 := at1.on hb
  have at2 := at2.on hb
  have at3 := at3.on hb
  have at4 := at4.on hb
  have at5 := at5.on hb
  have at6 := at6.on hb
  have at7 := at7.on hb
  obtain ⟨ao8, cc8, rfl, _⟩ := z8.sl.shape
  have zs8 : NumSl x8 (.slice ao8 X1.length cc8) X1 := z8.sl
  obtain ⟨w9, hw9, hb9, at8⟩ := at_new x8 (.slice ao8 X1.length cc8) X1 zs8
  have hk := hk.trans (hb9.mono hk.size)
  have at1 := at1.on hb9
  have at2 := at2.on hb9
  have at3 := at3.on hb9
  have at4 := at4.on hb9
  have at5 := at5.on hb9
  have at6 := at6.on hb9
  have at7 := at7.on hb9
  clear k1
  clear zs8 z8
  have k8 := at8.cell
  have k1 := at1.cell
  go_wp2_with fail
  with_reducible refine (S1.out _ _ _ at8.sl at1.sl).mono ?_
  rintro e x9 ⟨rfl, hb⟩
  have hk := hk.trans (hb.mono hk.size)
  have at5 := at5.on hb
  have at7 := at7.on hb
  have k5 := at5.cell
  have k7 := at7.cell
  by_cases e1 : ha = 0
  · by_cases e2 : hbb = 0
    · by_cases e3 : hc = 0
      · obtain ⟨e4, rfl⟩ := HW.out e1 e2 e3
        subst e1 e2 e3 e4
        rw [decide_eq_true rfl] at S2
        go_wp2_with fail
        with_reducible refine (S2.out _ _ _ at5.sl at7.sl).mono ?_
        rintro e x10 ⟨rfl, hb⟩
        have hk := hk.trans (hb.mono hk.size)
        go_wp2_with fail
        go_ret
        exact ⟨rfl, hk⟩
      · have e3' : ¬ (hc : Int) = 0 := by omega
        subst e1 e2
        go_wp2_with fail
        go_ret
        exact ⟨rfl, hk⟩
    · have e2' : ¬ (hbb : Int) = 0 := by omega
      subst e1
      go_wp2_with fail
      go_ret
      exact ⟨rfl, hk⟩
  · have e1' : ¬ (ha : Int) = 0 := by omega
    go_wp2_with fail
    go_ret
    exact ⟨rfl, hk⟩
end Go.Proofs.Ytncjbbgenngegaa
