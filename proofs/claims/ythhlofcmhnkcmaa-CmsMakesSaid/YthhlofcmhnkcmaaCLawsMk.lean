/- The statements' walks, stage 8: CmsMakes. -/
import Derived.Test.YthhlofcmhnkcmaaCLawsD
namespace Go.Proofs.Ythhlofcmhnkcmaa
open Go.RowKit

set_option maxHeartbeats 16000000 in
set_option maxRecDepth 100000 in
theorem lawMakes8_any (rx cx : Int) (L : List Nat) (vx : Value) (r c : Int) (h n : Nat) (w : World) (hv : NumSl w vx L) (hn : L.length ≤ maxLen) (hL : ∀ x ∈ L, x ≤ topN) (hh : h ≤ topN) (hnn : n ≤ topN) :
    Calls Try.prog 3 #[cV rx cx vx, .int .i64 r, .int .i64 c, nV h, nV n] w fun e w' => e = .returned (.bool true) ∧ Below w.heap.size w w' := by
  have F1 := Lib.hid (fun W => few8x_any rx cx L vx w W hv hn)
  have lX : (L.take 200).length ≤ 200 := by rw [List.length_take]; omega
  have hX : ∀ x ∈ L.take 200, x ≤ topN := fun x hx => hL x (List.mem_of_mem_take hx)
  obtain ⟨X, hXe⟩ : ∃ X, L.take 200 = X := ⟨_, rfl⟩
  rw [hXe] at F1 lX hX
  have l1 := newCm_len r c
  have l2 := addCm_len rx cx X h n lX
  obtain ⟨⟨⟨r1, c1, K1⟩, e1⟩, hP1⟩ : ∃ P, newCm r c = P := ⟨_, rfl⟩
  obtain ⟨⟨⟨r2, c2, K2⟩, e2⟩, hP2⟩ : ∃ P, addCm rx cx X h n = P := ⟨_, rfl⟩
  rw [hP1] at l1
  rw [hP2] at l2
  obtain ⟨rt, hrt⟩ : ∃ b, rightC rx cx X = b := ⟨_, rfl⟩
  obtain ⟨cl, hcl⟩ : ∃ b, colCm rx cx X r h = b := ⟨_, rfl⟩
  obtain ⟨ct, hct⟩ : ∃ b, countCm rx cx X h = b := ⟨_, rfl⟩
  have N1 : Hid (∀ W, Calls Try.prog 12 #[.int .i64 r, .int .i64 c] W fun e w' => (∃ v', e = .returned (.tuple #[.agg #[.int .i64 r1, .int .i64 c1, v'], .int .i64 (e1 : Int)]) ∧ NumF W.heap.size w' v' K1) ∧ Below W.heap.size W w') := fun W => by have := cNew_any r c W; rw [hP1] at this; exact this
  have N2 : Hid (∀ W, Calls Try.prog 13 #[.int .i64 r, .int .i64 c] W fun e w' => (∃ v', e = .returned (.tuple #[.agg #[.int .i64 r1, .int .i64 c1, v'], .int .i64 (e1 : Int)]) ∧ NumF W.heap.size w' v' K1) ∧ Below W.heap.size W w') := fun W => by have := pNew8_any r c W; rw [hP1] at this; exact this
  have A1 : Hid (∀ v W, NumSl W v X → Calls Try.prog 14 #[.agg #[.int .i64 rx, .int .i64 cx, v], nV h, nV n] W fun e w' => (∃ v', e = .returned (.tuple #[.agg #[.int .i64 r2, .int .i64 c2, v'], .int .i64 (e2 : Int)]) ∧ NumF W.heap.size w' v' K2) ∧ Below W.heap.size W w') := fun v W hs => by have := cAdd_any rx cx X v h n W hs lX hX hh hnn; rw [hP2] at this; exact this
  have A2 : Hid (∀ v W, NumSl W v X → Calls Try.prog 15 #[.agg #[.int .i64 rx, .int .i64 cx, v], nV h, nV n] W fun e w' => (∃ v', e = .returned (.tuple #[.agg #[.int .i64 r2, .int .i64 c2, v'], .int .i64 (e2 : Int)]) ∧ NumF W.heap.size w' v' K2) ∧ Below W.heap.size W w') := fun v W hs => by have := pAdd8_any rx cx X v h n W hs hh hnn; rw [hP2] at this; exact this
  have R1 : Hid (∀ v W, NumSl W v X → Calls Try.prog 16 #[.agg #[.int .i64 rx, .int .i64 cx, v]] W fun e w' => e = .returned (.bool rt) ∧ Below W.heap.size W w') := fun v W hs => by have := cRight_any rx cx X v W hs lX; rw [hrt] at this; exact this
  have R2 : Hid (∀ v W, NumSl W v X → Calls Try.prog 17 #[.agg #[.int .i64 rx, .int .i64 cx, v]] W fun e w' => e = .returned (.bool rt) ∧ Below W.heap.size W w') := fun v W hs => by have := pRight8_bel rx cx X v W hs; rw [hrt] at this; exact this
  have G1 : Hid (∀ v W, NumSl W v X → Calls Try.prog 19 #[.agg #[.int .i64 rx, .int .i64 cx, v], .int .i64 r, nV h] W fun e w' => e = .returned (.int .i64 (cl : Int)) ∧ Below W.heap.size W w') := fun v W hs => by have := cCol_any rx cx X v r h W hs lX hh; rw [hcl] at this; exact this
  have G2 : Hid (∀ v W, NumSl W v X → Calls Try.prog 20 #[.agg #[.int .i64 rx, .int .i64 cx, v], .int .i64 r, nV h] W fun e w' => e = .returned (.int .i64 (cl : Int)) ∧ Below W.heap.size W w') := fun v W hs => by have := pCol_any rx cx X v r h W hs hh; rw [hcl] at this; exact this
  have T1 : Hid (∀ v W, NumSl W v X → Calls Try.prog 21 #[.agg #[.int .i64 rx, .int .i64 cx, v], nV h] W fun e w' => e = .returned (nV ct) ∧ Below W.heap.size W w') := fun v W hs => by have := cCount_any rx cx X v h W hs lX hX hh; rw [hct] at this; exact this
  have T2 : Hid (∀ v W, NumSl W v X → Calls Try.prog 22 #[.agg #[.int .i64 rx, .int .i64 cx, v], nV h] W fun e w' => e = .returned (nV ct) ∧ Below W.heap.size W w') := fun v W hs => by have := pCount8_any rx cx X v h W hs hh; rw [hct] at this; exact this
  have S1 : Hid (∀ u v W, NumSl W u K1 → NumSl W v K1 → Calls Try.prog 18 #[.agg #[.int .i64 r1, .int .i64 c1, u], .agg #[.int .i64 r1, .int .i64 c1, v]] W fun e w' => e = .returned (.bool true) ∧ Below W.heap.size W w') := fun u v W hu hv => pSame8_refl r1 c1 K1 l1 u v W hu hv
  have S2 : Hid (∀ u v W, NumSl W u K2 → NumSl W v K2 → Calls Try.prog 18 #[.agg #[.int .i64 r2, .int .i64 c2, u], .agg #[.int .i64 r2, .int .i64 c2, v]] W fun e w' => e = .returned (.bool true) ∧ Below W.heap.size W w') := fun u v W hu hv => pSame8_refl r2 c2 K2 l2 u v W hu hv
  obtain ⟨a0, n0, c0, rfl⟩ := hv.form
  unfold cV at F1 ⊢
  obtain ⟨w0, hw0, hb0, hz0, tx⟩ := atM_new w rx cx (.slice a0 n0 c0)
  clear hn hL hh hnn hXe hP1 hP2 hrt hcl hct lX hX l1 l2 hv
  go_enter Try.func3, Try.ntmps3
  go_wp2_with fail
  with_reducible refine (shown8_any _).mono ?_
  rintro e w1 ⟨rfl, hb⟩
  have hk := hb0.trans (hb.mono hb0.size)
  replace tx := tx.on hb
  clear hb hb0
  have k0 := tx.c0
  have k1 := tx.c1
  have k2 := tx.c2
  go_wp2_with fail
  with_reducible refine (F1.out _).mono ?_
  rintro e w20 ⟨⟨v20, rfl, z20⟩, hb⟩
  obtain ⟨a20, n20, c20, rfl⟩ := z20.form
  replace hk := hk.trans (hb.mono hk.size)
  replace tx := tx.on hb
  clear hb k0 k1 k2
  have k0 := tx.c0
  have k1 := tx.c1
  have k2 := tx.c2
  have f0 := HasC.frozen tx 0
  have f1 := HasC.frozen tx 1
  have f2 := HasC.frozen tx 2
  have tn := AtM.put (r2 := rx) (c2 := cx) (u := .slice a20 n20 c20) tx
  have hn := ((hk.setCell (p := ⟨w.heap.size, 0, none⟩) (by simp) (.int .i64 rx)).setCell (p := ⟨w.heap.size, 1, none⟩) (by simp) (.int .i64 cx)).setCell (p := ⟨w.heap.size, 2, none⟩) (by simp) (.slice a20 n20 c20)
  obtain ⟨w21, hw21⟩ : ∃ W', ((w20.setCell ⟨w.heap.size, 0, none⟩ (.int .i64 rx)).setCell ⟨w.heap.size, 1, none⟩ (.int .i64 cx)).setCell ⟨w.heap.size, 2, none⟩ (.slice a20 n20 c20) = W' := ⟨_, rfl⟩
  rw [hw21] at tn hn
  have sx := z20.below hn
  have hx := z20
  replace tx : AtM w21 w.heap.size rx cx (.slice a20 n20 c20) := tn
  replace hk := hn
  clear hn tn z20
  clear hx
  go_wp2_with fail
  with_reducible refine (N1.out _).mono ?_
  rintro e w22 ⟨⟨v22, rfl, z22⟩, hb⟩
  obtain ⟨a22, n22, c22, rfl⟩ := z22.form
  replace hk := hk.trans (hb.mono hk.size)
  obtain ⟨w23, hw23, hb23, hz23, t1⟩ := atM_new w22 r1 c1 (.slice a22 n22 c22)
  replace hk := hk.trans (hb23.mono hk.size)
  replace sx := (sx.below hb).below hb23
  replace tx := (tx.on hb).on hb23
  have s1 := z22.sl.below hb23
  clear hb hb23 z22 
  clear k0 k1 k2 f0 f1 f2
  go_wp2_with fail
  with_reducible refine (N2.out _).mono ?_
  rintro e w24 ⟨⟨v24, rfl, z24⟩, hb⟩
  obtain ⟨a24, n24, c24, rfl⟩ := z24.form
  replace hk := hk.trans (hb.mono hk.size)
  obtain ⟨w25, hw25, hb25, hz25, t2⟩ := atM_new w24 r1 c1 (.slice a24 n24 c24)
  replace hk := hk.trans (hb25.mono hk.size)
  replace sx := (sx.below hb).below hb25
  replace tx := (tx.on hb).on hb25
  replace s1 := (s1.below hb).below hb25
  replace t1 := (t1.on hb).on hb25
  have s2 := z24.sl.below hb25
  clear hb hb25 z24 
  have kx0 := tx.c0
  have kx1 := tx.c1
  have kx2 := tx.c2
  go_wp2_with fail
  with_reducible refine (A1.out _ _ sx).mono ?_
  rintro e w26 ⟨⟨v26, rfl, z26⟩, hb⟩
  obtain ⟨a26, n26, c26, rfl⟩ := z26.form
  replace hk := hk.trans (hb.mono hk.size)
  obtain ⟨w27, hw27, hb27, hz27, t3⟩ := atM_new w26 r2 c2 (.slice a26 n26 c26)
  replace hk := hk.trans (hb27.mono hk.size)
  replace sx := (sx.below hb).below hb27
  replace tx := (tx.on hb).on hb27
  replace s1 := (s1.below hb).below hb27
  replace t1 := (t1.on hb).on hb27
  replace s2 := (s2.below hb).below hb27
  replace t2 := (t2.on hb).on hb27
  have s3 := z26.sl.below hb27
  clear hb hb27 z26 kx0 kx1 kx2
  have kx0 := tx.c0
  have kx1 := tx.c1
  have kx2 := tx.c2
  go_wp2_with fail
  with_reducible refine (A2.out _ _ sx).mono ?_
  rintro e w28 ⟨⟨v28, rfl, z28⟩, hb⟩
  obtain ⟨a28, n28, c28, rfl⟩ := z28.form
  replace hk := hk.trans (hb.mono hk.size)
  obtain ⟨w29, hw29, hb29, hz29, t4⟩ := atM_new w28 r2 c2 (.slice a28 n28 c28)
  replace hk := hk.trans (hb29.mono hk.size)
  replace sx := (sx.below hb).below hb29
  replace tx := (tx.on hb).on hb29
  replace s1 := (s1.below hb).below hb29
  replace t1 := (t1.on hb).on hb29
  replace s2 := (s2.below hb).below hb29
  replace t2 := (t2.on hb).on hb29
  replace s3 := (s3.below hb).below hb29
  replace t3 := (t3.on hb).on hb29
  have s4 := z28.sl.below hb29
  clear hb hb29 z28 kx0 kx1 kx2
  obtain ⟨D, hD0, hDon, hDk⟩ : ∃ D : World → Prop, D w29 ∧ (∀ W W', D W → Below W.heap.size W W' → D W') ∧ ∀ W, D W → AtM W w.heap.size rx cx (.slice a20 n20 c20) ∧ NumSl W (.slice a20 n20 c20) X ∧ AtM W w22.heap.size r1 c1 (.slice a22 n22 c22) ∧ NumSl W (.slice a22 n22 c22) K1 ∧ AtM W w24.heap.size r1 c1 (.slice a24 n24 c24) ∧ NumSl W (.slice a24 n24 c24) K1 ∧ AtM W w26.heap.size r2 c2 (.slice a26 n26 c26) ∧ NumSl W (.slice a26 n26 c26) K2 ∧ AtM W w28.heap.size r2 c2 (.slice a28 n28 c28) ∧ NumSl W (.slice a28 n28 c28) K2 ∧ Below w.heap.size w W :=
    ⟨fun W => AtM W w.heap.size rx cx (.slice a20 n20 c20) ∧ NumSl W (.slice a20 n20 c20) X ∧ AtM W w22.heap.size r1 c1 (.slice a22 n22 c22) ∧ NumSl W (.slice a22 n22 c22) K1 ∧ AtM W w24.heap.size r1 c1 (.slice a24 n24 c24) ∧ NumSl W (.slice a24 n24 c24) K1 ∧ AtM W w26.heap.size r2 c2 (.slice a26 n26 c26) ∧ NumSl W (.slice a26 n26 c26) K2 ∧ AtM W w28.heap.size r2 c2 (.slice a28 n28 c28) ∧ NumSl W (.slice a28 n28 c28) K2 ∧ Below w.heap.size w W, ⟨tx, sx, t1, s1, t2, s2, t3, s3, t4, s4, hk⟩, fun W W' h hb => ⟨h.1.on hb, h.2.1.below hb, h.2.2.1.on hb, h.2.2.2.1.below hb, h.2.2.2.2.1.on hb, h.2.2.2.2.2.1.below hb, h.2.2.2.2.2.2.1.on hb, h.2.2.2.2.2.2.2.1.below hb, h.2.2.2.2.2.2.2.2.1.on hb, h.2.2.2.2.2.2.2.2.2.1.below hb, h.2.2.2.2.2.2.2.2.2.2.trans (hb.mono h.2.2.2.2.2.2.2.2.2.2.size)⟩, fun _ h => h⟩
  have Ex0 : ∀ i : InC D, i.w.cell? ⟨w.heap.size, 0, none⟩ = some (.int .i64 rx) := fun i => (hDk _ i.h).1.c0
  have Ex1 : ∀ i : InC D, i.w.cell? ⟨w.heap.size, 1, none⟩ = some (.int .i64 cx) := fun i => (hDk _ i.h).1.c1
  have Ex2 : ∀ i : InC D, i.w.cell? ⟨w.heap.size, 2, none⟩ = some (.slice a20 n20 c20) := fun i => (hDk _ i.h).1.c2
  have HNx := Lib.hid (fun W (hd : D W) => (hDk W hd).2.1)
  have E10 : ∀ i : InC D, i.w.cell? ⟨w22.heap.size, 0, none⟩ = some (.int .i64 r1) := fun i => (hDk _ i.h).2.2.1.c0
  have E11 : ∀ i : InC D, i.w.cell? ⟨w22.heap.size, 1, none⟩ = some (.int .i64 c1) := fun i => (hDk _ i.h).2.2.1.c1
  have E12 : ∀ i : InC D, i.w.cell? ⟨w22.heap.size, 2, none⟩ = some (.slice a22 n22 c22) := fun i => (hDk _ i.h).2.2.1.c2
  have HN1 := Lib.hid (fun W (hd : D W) => (hDk W hd).2.2.2.1)
  have E20 : ∀ i : InC D, i.w.cell? ⟨w24.heap.size, 0, none⟩ = some (.int .i64 r1) := fun i => (hDk _ i.h).2.2.2.2.1.c0
  have E21 : ∀ i : InC D, i.w.cell? ⟨w24.heap.size, 1, none⟩ = some (.int .i64 c1) := fun i => (hDk _ i.h).2.2.2.2.1.c1
  have E22 : ∀ i : InC D, i.w.cell? ⟨w24.heap.size, 2, none⟩ = some (.slice a24 n24 c24) := fun i => (hDk _ i.h).2.2.2.2.1.c2
  have HN2 := Lib.hid (fun W (hd : D W) => (hDk W hd).2.2.2.2.2.1)
  have E30 : ∀ i : InC D, i.w.cell? ⟨w26.heap.size, 0, none⟩ = some (.int .i64 r2) := fun i => (hDk _ i.h).2.2.2.2.2.2.1.c0
  have E31 : ∀ i : InC D, i.w.cell? ⟨w26.heap.size, 1, none⟩ = some (.int .i64 c2) := fun i => (hDk _ i.h).2.2.2.2.2.2.1.c1
  have E32 : ∀ i : InC D, i.w.cell? ⟨w26.heap.size, 2, none⟩ = some (.slice a26 n26 c26) := fun i => (hDk _ i.h).2.2.2.2.2.2.1.c2
  have HN3 := Lib.hid (fun W (hd : D W) => (hDk W hd).2.2.2.2.2.2.2.1)
  have E40 : ∀ i : InC D, i.w.cell? ⟨w28.heap.size, 0, none⟩ = some (.int .i64 r2) := fun i => (hDk _ i.h).2.2.2.2.2.2.2.2.1.c0
  have E41 : ∀ i : InC D, i.w.cell? ⟨w28.heap.size, 1, none⟩ = some (.int .i64 c2) := fun i => (hDk _ i.h).2.2.2.2.2.2.2.2.1.c1
  have E42 : ∀ i : InC D, i.w.cell? ⟨w28.heap.size, 2, none⟩ = some (.slice a28 n28 c28) := fun i => (hDk _ i.h).2.2.2.2.2.2.2.2.1.c2
  have HN4 := Lib.hid (fun W (hd : D W) => (hDk W hd).2.2.2.2.2.2.2.2.2.1)
  have HDK := Lib.hid (fun i : InC D => (hDk _ i.h).2.2.2.2.2.2.2.2.2.2)
  have HDON := Lib.hid hDon
  have HD0 := Lib.hid (hDon _ _ hD0 ((Below.refl _ _).drew))
  clear hD0 hDon hDk hk tx sx t1 s1 t2 s2 t3 s3 t4 s4
  go_wp2_with fail
  refine region_class D (by kernel_rfl) (by kernel_rfl) HD0.out ?_
  intro hne
  repeat (go_big_quiet_step (first
    | (go_at_call 16; (with_reducible refine (R1.out _ _ ?_).mono ?_); exact HNx.out _ (InC.h _); rintro e w' ⟨rfl, hb⟩; exact ⟨rfl, ⟨_, HDON.out _ _ (InC.h _) hb⟩, rfl⟩)
    | (go_at_call 17; (with_reducible refine (R2.out _ _ ?_).mono ?_); exact HNx.out _ (InC.h _); rintro e w' ⟨rfl, hb⟩; exact ⟨rfl, ⟨_, HDON.out _ _ (InC.h _) hb⟩, rfl⟩)
    | (go_at_call 18; (with_reducible refine (S1.out _ _ _ ?_ ?_).mono ?_); exact HN1.out _ (InC.h _); exact HN2.out _ (InC.h _); rintro e w' ⟨rfl, hb⟩; exact ⟨rfl, ⟨_, HDON.out _ _ (InC.h _) hb⟩, rfl⟩)
    | (go_at_call 18; (with_reducible refine (S2.out _ _ _ ?_ ?_).mono ?_); exact HN3.out _ (InC.h _); exact HN4.out _ (InC.h _); rintro e w' ⟨rfl, hb⟩; exact ⟨rfl, ⟨_, HDON.out _ _ (InC.h _) hb⟩, rfl⟩)
    | (go_at_call 19; (with_reducible refine (G1.out _ _ ?_).mono ?_); exact HNx.out _ (InC.h _); rintro e w' ⟨rfl, hb⟩; exact ⟨rfl, ⟨_, HDON.out _ _ (InC.h _) hb⟩, rfl⟩)
    | (go_at_call 20; (with_reducible refine (G2.out _ _ ?_).mono ?_); exact HNx.out _ (InC.h _); rintro e w' ⟨rfl, hb⟩; exact ⟨rfl, ⟨_, HDON.out _ _ (InC.h _) hb⟩, rfl⟩)
    | (go_at_call 21; (with_reducible refine (T1.out _ _ ?_).mono ?_); exact HNx.out _ (InC.h _); rintro e w' ⟨rfl, hb⟩; exact ⟨rfl, ⟨_, HDON.out _ _ (InC.h _) hb⟩, rfl⟩)
    | (go_at_call 22; (with_reducible refine (T2.out _ _ ?_).mono ?_); exact HNx.out _ (InC.h _); rintro e w' ⟨rfl, hb⟩; exact ⟨rfl, ⟨_, HDON.out _ _ (InC.h _) hb⟩, rfl⟩)))
  refine wpQuiet_nil ?_
  intro i
  go_wp2_with fail
  go_ret
  exact ⟨by simp, HDK.out i⟩
end Go.Proofs.Ythhlofcmhnkcmaa
