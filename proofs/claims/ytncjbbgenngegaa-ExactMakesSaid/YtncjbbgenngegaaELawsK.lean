/- The statements' walks: ExactMakes. -/
import Derived.Test.YtncjbbgenngegaaELawsH
namespace Go.Proofs.Ytncjbbgenngegaa
open Go.RowKit

set_option maxHeartbeats 16000000 in
set_option maxRecDepth 100000 in
theorem lawMakes_any (A0 B0 : List Nat) (x : Nat) (va vb : Value) (w : World) (hA : NumSl w va A0) (hB : NumSl w vb B0) (hna : A0.length ≤ maxLen) (hnb : B0.length ≤ maxLen) :
    Calls Try.prog 3 #[.agg #[va], vb, nV x] w fun e w' => e = .returned (.bool true) ∧ Below w.heap.size w w' := by
  have FA := Lib.hid (fun W => few6x_any A0 va w W hA hna)
  have HB := Lib.hid hB
  have FB := Lib.hid (fun W h => few6_any B0 vb W h hnb)
  have lA : (A0.take 70).length ≤ 70 := by rw [List.length_take]; omega
  have lB : (B0.take 100).length ≤ 100 := by rw [List.length_take]; omega
  obtain ⟨A, hAe⟩ : ∃ A, A0.take 70 = A := ⟨_, rfl⟩
  obtain ⟨B, hBe⟩ : ∃ B, B0.take 100 = B := ⟨_, rfl⟩
  rw [hAe] at FA lA
  rw [hBe] at FB lB
  have g1 := ofP_len B
  have A1 := Lib.hid (fun W v h => xOf_any B v W h (by omega))
  have A2 := Lib.hid (fun W v h => eOf_any B v W h (by omega))
  obtain ⟨⟨C, hc⟩, hP1⟩ : ∃ P, ofP B = P := ⟨_, rfl⟩
  rw [hP1] at A1 A2 g1
  dsimp only at g1
  have N1 := Lib.hid (fun W va vb hA hB => eNums_any C C va vb W hA hB (by omega) (by omega))
  rw [decide_eq_true rfl] at N1
  have N2 := Lib.hid (fun W va vb hA hB => eNums_any C A va vb W hA hB (by omega) (by omega))
  have S2 := Lib.hid (fun W va vb hA hB => xSame_any C A va vb W hA hB (by omega) (by omega))
  have R1 := Lib.hid (fun W v h => xRight_any A v W h (by omega))
  have R2 := Lib.hid (fun W v h => eRight_any A v W h (by omega))
  have H1 := Lib.hid (fun W v h => xHas_any A x v W h (by omega))
  have H2 := Lib.hid (fun W v h => eHas_any A x v W h (by omega))
  have T1 := Lib.hid (fun W v h => xCount_any A v W h (by omega))
  have T2 := Lib.hid (fun W v h => eCount_any A v W h (by omega))
  obtain ⟨z1, hz1⟩ : ∃ z, decide (C = A) = z := ⟨_, rfl⟩
  obtain ⟨z2, hz2⟩ : ∃ z, rightN A = z := ⟨_, rfl⟩
  obtain ⟨z3, hz3⟩ : ∃ z, hasB A x = z := ⟨_, rfl⟩
  obtain ⟨z4, hz4⟩ : ∃ z, countN A = z := ⟨_, rfl⟩
  rw [hz1] at N2 S2
  rw [hz2] at R1 R2
  rw [hz3] at H1 H2
  rw [hz4] at T1 T2
  obtain ⟨a1, c1, rfl, _⟩ := hA.shape
  obtain ⟨a2, c2, rfl, _⟩ := hB.shape
  obtain ⟨n1, hn1⟩ : ∃ n, n = A0.length := ⟨_, rfl⟩
  obtain ⟨n2, hn2⟩ : ∃ n, n = B0.length := ⟨_, rfl⟩
  rw [← hn1] at FA ⊢
  rw [← hn2] at FB HB ⊢
  have hx := HasC.new w 24 #[.slice a1 n1 c1]
  have hk := (Below.refl w.heap.size w).alloc (Nat.le_refl _) (Obj.cells #[.slice a1 n1 c1] 24)
  obtain ⟨w1, hw1⟩ : ∃ w1, w.alloc (Obj.cells #[.slice a1 n1 c1] 24) = w1 := ⟨_, rfl⟩
  rw [hw1] at hx hk
  clear hAe hBe hP1 hA hB hn1 hn2 hz1 hz2 hz3 hz4
  go_enter Try.func3, Try.ntmps3
  go_wp2_with fail
  with_reducible refine (shown6_any _).mono ?_
  rintro e w3 ⟨rfl, hb⟩
  have hx := hx.below hb hx.lt
  have hk := hk.trans (hb.mono hk.size)
  clear hb
  have k1 : w3.cell? ⟨w.heap.size, 0, none⟩ = some (.slice a1 n1 c1) := hx.cell 0
  go_wp2_with fail
  with_reducible refine (FA.out _).mono ?_
  rintro e w4 ⟨⟨s1, rfl, hs1⟩, hb⟩
  obtain ⟨a3, c3, rfl, _⟩ := hs1.shape
  have hx := hx.below hb hx.lt
  have hk := hk.trans (hb.mono hk.size)
  have k2 : w4.cell? ⟨w.heap.size, 0, none⟩ = some (.slice a1 n1 c1) := hx.cell 0
  have k3 : w4.frozen? ⟨w.heap.size, 0, none⟩ = false := hx.frozen 0
  have hx' := (hx.set 0 (.slice a3 A.length c3)).eq (cs' := #[.slice a3 A.length c3]) rfl
  have hk' := hk.setCell (p := ⟨w.heap.size, 0, none⟩) (Nat.le_refl _) (.slice a3 A.length c3)
  obtain ⟨w5, hw5⟩ : ∃ w5, w4.setCell ⟨w.heap.size, 0, none⟩ (.slice a3 A.length c3) = w5 := ⟨_, rfl⟩
  rw [hw5] at hx' hk'
  have atX : At w5 w.heap.size (.slice a3 A.length c3) A := ⟨hx'.cell 0, hs1.below hk', hx'.lt⟩
  have hk := hk'
  clear hb hx hx' hk' k1
  go_wp2_with fail
  with_reducible refine (FB.out _ (HB.out.below hk)).mono ?_
  rintro e w6 ⟨s2, rfl, hs2, rfl⟩
  go_wp2_with fail
  with_reducible refine (A1.out _ _ hs2).mono ?_
  rintro e x1 ⟨⟨y1, rfl, zz1⟩, hb⟩
  have hk := hk.trans (hb.mono hk.size)
  have atX := atX.on hb
  obtain ⟨ao1, cc1, rfl, _⟩ := zz1.sl.shape
  have zs1 : NumSl x1 (.slice ao1 C.length cc1) C := zz1.sl
  obtain ⟨u1, hu1, hbu1, at1⟩ := at_new x1 (.slice ao1 C.length cc1) C zs1
  have hk := hk.trans (hbu1.mono hk.size)
  have atX := atX.on hbu1
  clear zs1 zz1 hb k2 k3
  go_wp2_with fail
  with_reducible refine (FB.out _ (HB.out.below hk)).mono ?_
  rintro e w7 ⟨s3, rfl, hs3, rfl⟩
  go_wp2_with fail
  with_reducible refine (A2.out _ _ hs3).mono ?_
  rintro e x2 ⟨hy2, hb⟩
  obtain ⟨y2, rfl, zz2⟩ := OfOut.x hy2
  have hk := hk.trans (hb.mono hk.size)
  have atX := atX.on hb
  have at1 := at1.on hb
  obtain ⟨ao2, cc2, rfl, _⟩ := zz2.sl.shape
  have zs2 : NumSl x2 (.slice ao2 C.length cc2) C := zz2.sl
  obtain ⟨u2, hu2, hbu2, at2⟩ := at_new x2 (.slice ao2 C.length cc2) C zs2
  have hk := hk.trans (hbu2.mono hk.size)
  have atX := atX.on hbu2
  have at1 := at1.on hbu2
  clear zs2 zz2 hb hy2
  obtain ⟨D, hD0, hDon, hDk⟩ : ∃ D : World → Prop, D u2 ∧ (∀ W W', D W → Below W.heap.size W W' → D W') ∧ ∀ W, D W → At W w.heap.size (.slice a3 A.length c3) A ∧ At W x1.heap.size (.slice ao1 C.length cc1) C ∧ At W x2.heap.size (.slice ao2 C.length cc2) C ∧ Below w.heap.size w W :=
    ⟨fun W => At W w.heap.size (.slice a3 A.length c3) A ∧ At W x1.heap.size (.slice ao1 C.length cc1) C ∧ At W x2.heap.size (.slice ao2 C.length cc2) C ∧ Below w.heap.size w W, ⟨atX, at1, at2, hk⟩, fun W W' h hb => ⟨h.1.on hb, h.2.1.on hb, h.2.2.1.on hb, h.2.2.2.trans (hb.mono h.2.2.2.size)⟩, fun _ h => h⟩
  have E1 : ∀ i : InC D, i.w.cell? ⟨w.heap.size, 0, none⟩ = some (.slice a3 A.length c3) := fun i => (hDk _ i.h).1.cell
  have E2 : ∀ i : InC D, i.w.cell? ⟨x1.heap.size, 0, none⟩ = some (.slice ao1 C.length cc1) := fun i => (hDk _ i.h).2.1.cell
  have E3 : ∀ i : InC D, i.w.cell? ⟨x2.heap.size, 0, none⟩ = some (.slice ao2 C.length cc2) := fun i => (hDk _ i.h).2.2.1.cell
  have SX := Lib.hid (fun i : InC D => (hDk _ i.h).1.sl)
  have SC := Lib.hid (fun i : InC D => (hDk _ i.h).2.1.sl)
  have SE := Lib.hid (fun i : InC D => (hDk _ i.h).2.2.1.sl)
  have HDK := Lib.hid (fun i : InC D => (hDk _ i.h).2.2.2)
  have HDON := Lib.hid hDon
  have HD0 := Lib.hid (hDon _ _ hD0 ((Below.refl _ _).drew))
  clear hD0 hDon hDk atX at1 at2 hk
  go_wp2_with fail
  refine region_class D (by kernel_rfl) (by kernel_rfl) HD0.out ?_
  intro hne
  repeat (go_big_quiet_step (first
    | (go_at_call 15; with_reducible refine (N1.out _ _ _ (SC.out _) (SE.out _)).mono ?_; rintro e w' ⟨rfl, hb⟩; exact ⟨rfl, ⟨_, HDON.out _ _ (InC.h _) hb⟩, rfl⟩)
    | (go_at_call 15; with_reducible refine (N2.out _ _ _ (SC.out _) (SX.out _)).mono ?_; rintro e w' ⟨rfl, hb⟩; exact ⟨rfl, ⟨_, HDON.out _ _ (InC.h _) hb⟩, rfl⟩)
    | (go_at_call 16; with_reducible refine (R1.out _ _ (SX.out _)).mono ?_; rintro e w' ⟨rfl, hb⟩; exact ⟨rfl, ⟨_, HDON.out _ _ (InC.h _) hb⟩, rfl⟩)
    | (go_at_call 17; with_reducible refine (R2.out _ _ (SX.out _)).mono ?_; rintro e w' ⟨rfl, hb⟩; exact ⟨rfl, ⟨_, HDON.out _ _ (InC.h _) hb⟩, rfl⟩)
    | (go_at_call 18; with_reducible refine (H1.out _ _ (SX.out _)).mono ?_; rintro e w' ⟨rfl, hb⟩; exact ⟨rfl, ⟨_, HDON.out _ _ (InC.h _) hb⟩, rfl⟩)
    | (go_at_call 19; with_reducible refine (H2.out _ _ (SX.out _)).mono ?_; rintro e w' ⟨rfl, hb⟩; exact ⟨rfl, ⟨_, HDON.out _ _ (InC.h _) hb⟩, rfl⟩)
    | (go_at_call 20; with_reducible refine (T1.out _ _ (SX.out _)).mono ?_; rintro e w' ⟨rfl, hb⟩; exact ⟨rfl, ⟨_, HDON.out _ _ (InC.h _) hb⟩, rfl⟩)
    | (go_at_call 21; with_reducible refine (T2.out _ _ (SX.out _)).mono ?_; rintro e w' ⟨rfl, hb⟩; exact ⟨rfl, ⟨_, HDON.out _ _ (InC.h _) hb⟩, rfl⟩)
    | (go_at_call 22; with_reducible refine (S2.out _ _ _ (SC.out _) (SX.out _)).mono ?_; rintro e w' ⟨rfl, hb⟩; exact ⟨rfl, ⟨_, HDON.out _ _ (InC.h _) hb⟩, rfl⟩)))
  refine wpQuiet_nil ?_
  intro i
  go_wp2_with fail
  go_ret
  exact ⟨by simp, HDK.out i⟩
end Go.Proofs.Ytncjbbgenngegaa
