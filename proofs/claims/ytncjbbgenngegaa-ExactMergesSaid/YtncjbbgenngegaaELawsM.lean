/- The statements' walks: ExactMerges. -/
import Derived.Test.YtncjbbgenngegaaELawsR
namespace Go.Proofs.Ytncjbbgenngegaa
open Go.RowKit

theorem addP_len (A : List Nat) (x : Nat) : (addP A x).1.length ≤ 64 := by
  unfold addP
  split
  · exact ofP_len _
  · exact Nat.zero_le _
set_option maxHeartbeats 8000000 in
set_option maxRecDepth 100000 in
theorem lawMerges_any (A0 B0 : List Nat) (x : Nat) (va vb : Value) (w : World) (hA : NumSl w va A0) (hB : NumSl w vb B0) (hna : A0.length ≤ maxLen) (hnb : B0.length ≤ maxLen) :
    Calls Try.prog 4 #[.agg #[va], .agg #[vb], nV x] w fun e w' => e = .returned (.bool true) ∧ Below w.heap.size w w' := by
  have FA := Lib.hid (fun W => few6x_any A0 va w W hA hna)
  have FB := Lib.hid (fun W => few6x_any B0 vb w W hB hnb)
  have lA : (A0.take 70).length ≤ 70 := by rw [List.length_take]; omega
  have lB : (B0.take 70).length ≤ 70 := by rw [List.length_take]; omega
  obtain ⟨A, hAe⟩ : ∃ A, A0.take 70 = A := ⟨_, rfl⟩
  obtain ⟨B, hBe⟩ : ∃ B, B0.take 70 = B := ⟨_, rfl⟩
  rw [hAe] at FA lA
  rw [hBe] at FB lB
  have g1 := addP_len A x
  have g2 := mergeP_len A B
  have A1 := Lib.hid (fun W v h => xAdd_any A x v W h (by omega))
  have A2 := Lib.hid (fun W v h => eAdd_any A x v W h (by omega))
  have M1 := Lib.hid (fun W va vb hA hB => xMerge_any A B va vb W hA hB (by omega) (by omega))
  have M2 := Lib.hid (fun W va vb hA hB => eMerge_any A B va vb W hA hB (by omega) (by omega))
  obtain ⟨⟨C, hc⟩, hP1⟩ : ∃ P, addP A x = P := ⟨_, rfl⟩
  obtain ⟨⟨D, hd⟩, hP2⟩ : ∃ P, mergeP A B = P := ⟨_, rfl⟩
  rw [hP1] at A1 A2 g1
  rw [hP2] at M1 M2 g2
  dsimp only at g1 g2
  have N1 := Lib.hid (fun W va vb hA hB => eNums_any C C va vb W hA hB (by omega) (by omega))
  have N2 := Lib.hid (fun W va vb hA hB => eNums_any D D va vb W hA hB (by omega) (by omega))
  rw [decide_eq_true rfl] at N1 N2
  obtain ⟨a1, c1, rfl, _⟩ := hA.shape
  obtain ⟨a2, c2, rfl, _⟩ := hB.shape
  obtain ⟨n1, hn1⟩ : ∃ n, n = A0.length := ⟨_, rfl⟩
  obtain ⟨n2, hn2⟩ : ∃ n, n = B0.length := ⟨_, rfl⟩
  rw [← hn1] at FA ⊢
  rw [← hn2] at FB ⊢
  have hx := HasC.new w 24 #[.slice a1 n1 c1]
  have hk := (Below.refl w.heap.size w).alloc (Nat.le_refl _) (Obj.cells #[.slice a1 n1 c1] 24)
  obtain ⟨w1, hw1⟩ : ∃ w1, w.alloc (Obj.cells #[.slice a1 n1 c1] 24) = w1 := ⟨_, rfl⟩
  have hz1 : w1.heap.size = w.heap.size + 1 := by rw [← hw1]; simp
  rw [hw1] at hx hk
  have hy := HasC.new w1 24 #[.slice a2 n2 c2]
  have hx := hx.alloc (Obj.cells #[.slice a2 n2 c2] 24)
  have hk := hk.alloc (by omega) (Obj.cells #[.slice a2 n2 c2] 24)
  obtain ⟨w2, hw2⟩ : ∃ w2, w1.alloc (Obj.cells #[.slice a2 n2 c2] 24) = w2 := ⟨_, rfl⟩
  rw [hw2] at hx hy hk
  rw [hz1] at hy
  clear hAe hBe hP1 hP2 hA hB hn1 hn2
  go_enter Try.func4, Try.ntmps4
  go_wp2_with fail
  with_reducible refine (shown6_any _).mono ?_
  rintro e w3 ⟨rfl, hb⟩
  have hx := hx.below hb hx.lt
  have hy := hy.below hb hy.lt
  have hk := hk.trans (hb.mono hk.size)
  clear hb
  have k1 : w3.cell? ⟨w.heap.size, 0, none⟩ = some (.slice a1 n1 c1) := hx.cell 0
  go_wp2_with fail
  with_reducible refine (FA.out _).mono ?_
  rintro e w4 ⟨⟨s1, rfl, hs1⟩, hb⟩
  obtain ⟨a3, c3, rfl, _⟩ := hs1.shape
  have hx := hx.below hb hx.lt
  have hy := hy.below hb hy.lt
  have hk := hk.trans (hb.mono hk.size)
  have k2 : w4.cell? ⟨w.heap.size, 0, none⟩ = some (.slice a1 n1 c1) := hx.cell 0
  have k3 : w4.frozen? ⟨w.heap.size, 0, none⟩ = false := hx.frozen 0
  have hx' := (hx.set 0 (.slice a3 A.length c3)).eq (cs' := #[.slice a3 A.length c3]) rfl
  have hy' := hy.far ⟨w.heap.size, 0, none⟩ (.slice a3 A.length c3) (by simp)
  have hk' := hk.setCell (p := ⟨w.heap.size, 0, none⟩) (Nat.le_refl _) (.slice a3 A.length c3)
  obtain ⟨w5, hw5⟩ : ∃ w5, w4.setCell ⟨w.heap.size, 0, none⟩ (.slice a3 A.length c3) = w5 := ⟨_, rfl⟩
  rw [hw5] at hx' hy' hk'
  clear hb hx hy hk k1
  have k4 : w5.cell? ⟨w.heap.size + 1, 0, none⟩ = some (.slice a2 n2 c2) := hy'.cell 0
  go_wp2_with fail
  with_reducible refine (FB.out _).mono ?_
  rintro e w6 ⟨⟨s2, rfl, hs2⟩, hb⟩
  obtain ⟨a4, c4, rfl, _⟩ := hs2.shape
  have hx := hx'.below hb hx'.lt
  have hy := hy'.below hb hy'.lt
  have hk := hk'.trans (hb.mono hk'.size)
  have k5 : w6.cell? ⟨w.heap.size + 1, 0, none⟩ = some (.slice a2 n2 c2) := hy.cell 0
  have k6 : w6.frozen? ⟨w.heap.size + 1, 0, none⟩ = false := hy.frozen 0
  have hy' := (hy.set 0 (.slice a4 B.length c4)).eq (cs' := #[.slice a4 B.length c4]) rfl
  have hx' := hx.far ⟨w.heap.size + 1, 0, none⟩ (.slice a4 B.length c4) (by simp)
  have hk' := hk.setCell (p := ⟨w.heap.size + 1, 0, none⟩) (by simp) (.slice a4 B.length c4)
  obtain ⟨w7, hw7⟩ : ∃ w7, w6.setCell ⟨w.heap.size + 1, 0, none⟩ (.slice a4 B.length c4) = w7 := ⟨_, rfl⟩
  rw [hw7] at hx' hy' hk'
  have atX : At w7 w.heap.size (.slice a3 A.length c3) A := ⟨hx'.cell 0, hs1.below hk', hx'.lt⟩
  have atY : At w7 (w.heap.size + 1) (.slice a4 B.length c4) B := ⟨hy'.cell 0, hs2.below hk', hy'.lt⟩
  have hk := hk'
  clear hb hx hy hx' hy' hk' k2 k3 k4
  have kX := atX.cell
  go_wp2_with fail
  with_reducible refine (A1.out _ _ atX.sl).mono ?_
  rintro e x1 ⟨hy1, hb⟩
  obtain ⟨y1, rfl, z1⟩ := hy1
  have hk := hk.trans (hb.mono hk.size)
  have atX := atX.on hb
  have atY := atY.on hb
  obtain ⟨ao1, cc1, rfl, _⟩ := z1.sl.shape
  have zs1 : NumSl x1 (.slice ao1 C.length cc1) C := z1.sl
  obtain ⟨b1, hw11, hb11, at1⟩ := at_new x1 (.slice ao1 C.length cc1) C zs1
  have hk := hk.trans (hb11.mono hk.size)
  have atX := atX.on hb11
  have atY := atY.on hb11
  clear kX
  clear zs1 z1
  have kX := atX.cell
  go_wp2_with fail
  with_reducible refine (A2.out _ _ atX.sl).mono ?_
  rintro e x2 ⟨hy2, hb⟩
  obtain ⟨y2, rfl, z2⟩ := OfOut.x hy2
  have hk := hk.trans (hb.mono hk.size)
  have atX := atX.on hb
  have atY := atY.on hb
  have at1 := at1.on hb
  obtain ⟨ao2, cc2, rfl, _⟩ := z2.sl.shape
  have zs2 : NumSl x2 (.slice ao2 C.length cc2) C := z2.sl
  obtain ⟨b2, hw12, hb12, at2⟩ := at_new x2 (.slice ao2 C.length cc2) C zs2
  have hk := hk.trans (hb12.mono hk.size)
  have atX := atX.on hb12
  have atY := atY.on hb12
  have at1 := at1.on hb12
  clear kX
  clear zs2 z2
  have kX := atX.cell
  have kY := atY.cell
  go_wp2_with fail
  with_reducible refine (M1.out _ _ _ atX.sl atY.sl).mono ?_
  rintro e x3 ⟨hy3, hb⟩
  obtain ⟨y3, rfl, z3⟩ := hy3
  have hk := hk.trans (hb.mono hk.size)
  have atX := atX.on hb
  have atY := atY.on hb
  have at1 := at1.on hb
  have at2 := at2.on hb
  obtain ⟨ao3, cc3, rfl, _⟩ := z3.sl.shape
  have zs3 : NumSl x3 (.slice ao3 D.length cc3) D := z3.sl
  obtain ⟨b3, hw13, hb13, at3⟩ := at_new x3 (.slice ao3 D.length cc3) D zs3
  have hk := hk.trans (hb13.mono hk.size)
  have atX := atX.on hb13
  have atY := atY.on hb13
  have at1 := at1.on hb13
  have at2 := at2.on hb13
  clear kX kY
  clear zs3 z3
  have kX := atX.cell
  have kY := atY.cell
  go_wp2_with fail
  with_reducible refine (M2.out _ _ _ atX.sl atY.sl).mono ?_
  rintro e x4 ⟨hy4, hb⟩
  obtain ⟨y4, rfl, z4⟩ := OfOut.x hy4
  have hk := hk.trans (hb.mono hk.size)
  have atX := atX.on hb
  have atY := atY.on hb
  have at1 := at1.on hb
  have at2 := at2.on hb
  have at3 := at3.on hb
  obtain ⟨ao4, cc4, rfl, _⟩ := z4.sl.shape
  have zs4 : NumSl x4 (.slice ao4 D.length cc4) D := z4.sl
  obtain ⟨b4, hw14, hb14, at4⟩ := at_new x4 (.slice ao4 D.length cc4) D zs4
  have hk := hk.trans (hb14.mono hk.size)
  have atX := atX.on hb14
  have atY := atY.on hb14
  have at1 := at1.on hb14
  have at2 := at2.on hb14
  have at3 := at3.on hb14
  clear kX kY
  clear zs4 z4
  have kk1 := at1.cell
  have kk2 := at2.cell
  go_wp2_with fail
  with_reducible refine (N1.out _ _ _ at1.sl at2.sl).mono ?_
  rintro e x9 ⟨rfl, hb⟩
  have hk := hk.trans (hb.mono hk.size)
  have at3 := at3.on hb
  have at4 := at4.on hb
  have kk3 := at3.cell
  have kk4 := at4.cell
  clear kk1 kk2
  go_wp2_with fail
  with_reducible refine (N2.out _ _ _ at3.sl at4.sl).mono ?_
  rintro e x10 ⟨rfl, hb⟩
  have hk := hk.trans (hb.mono hk.size)
  go_wp2_with fail
  go_ret
  exact ⟨by simp, hk⟩
end Go.Proofs.Ytncjbbgenngegaa
