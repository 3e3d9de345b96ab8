/- The statements' walks, stage 8: CmsMerges. -/
import Derived.Test.YthhlofcmhnkcmaaCLawsD
namespace Go.Proofs.Ythhlofcmhnkcmaa
open Go.RowKit

set_option maxHeartbeats 16000000 in
set_option maxRecDepth 100000 in
theorem lawMerges8_any (rx cx : Int) (L : List Nat) (vx : Value) (ry cy : Int) (M : List Nat) (vy : Value) (w : World) (hv : NumSl w vx L) (hn : L.length ≤ maxLen) (hL : ∀ x ∈ L, x ≤ topN) (hu : NumSl w vy M) (hm : M.length ≤ maxLen) (hM : ∀ x ∈ M, x ≤ topN) :
    Calls Try.prog 4 #[cV rx cx vx, cV ry cy vy] w fun e w' => e = .returned (.bool true) ∧ Below w.heap.size w w' := by
  have F1 := Lib.hid (fun W => few8x_any rx cx L vx w W hv hn)
  have F2 := Lib.hid (fun W => few8x_any ry cy M vy w W hu hm)
  have lX : (L.take 200).length ≤ 200 := by rw [List.length_take]; omega
  have hX : ∀ x ∈ L.take 200, x ≤ topN := fun x hx => hL x (List.mem_of_mem_take hx)
  have lY : (M.take 200).length ≤ 200 := by rw [List.length_take]; omega
  have hY : ∀ x ∈ M.take 200, x ≤ topN := fun x hx => hM x (List.mem_of_mem_take hx)
  obtain ⟨X, hXe⟩ : ∃ X, L.take 200 = X := ⟨_, rfl⟩
  obtain ⟨Y, hYe⟩ : ∃ Y, M.take 200 = Y := ⟨_, rfl⟩
  rw [hXe] at F1 lX hX
  rw [hYe] at F2 lY hY
  have l1 := mergeCm_len rx cx X ry cy Y lX
  have l2 := lowerCm_len rx cx X lX
  obtain ⟨⟨⟨r1, c1, K1⟩, e1⟩, hP1⟩ : ∃ P, mergeCm rx cx X ry cy Y = P := ⟨_, rfl⟩
  obtain ⟨⟨⟨r2, c2, K2⟩, e2⟩, hP2⟩ : ∃ P, lowerCm rx cx X = P := ⟨_, rfl⟩
  rw [hP1] at l1
  rw [hP2] at l2
  obtain ⟨sm, hsm⟩ : ∃ b, sameCm rx cx X ry cy Y = b := ⟨_, rfl⟩
  have M1 : Hid (∀ v u W, NumSl W v X → NumSl W u Y → Calls Try.prog 23 #[.agg #[.int .i64 rx, .int .i64 cx, v], .agg #[.int .i64 ry, .int .i64 cy, u]] W fun e w' => (∃ v', e = .returned (.tuple #[.agg #[.int .i64 r1, .int .i64 c1, v'], .int .i64 (e1 : Int)]) ∧ NumF W.heap.size w' v' K1) ∧ Below W.heap.size W w') := fun v u W hs ht => by have := cMerge_any rx cx X v ry cy Y u W hs ht lX lY hX hY; rw [hP1] at this; exact this
  have M2 : Hid (∀ v u W, NumSl W v X → NumSl W u Y → Calls Try.prog 24 #[.agg #[.int .i64 rx, .int .i64 cx, v], .agg #[.int .i64 ry, .int .i64 cy, u]] W fun e w' => (∃ v', e = .returned (.tuple #[.agg #[.int .i64 r1, .int .i64 c1, v'], .int .i64 (e1 : Int)]) ∧ NumF W.heap.size w' v' K1) ∧ Below W.heap.size W w') := fun v u W hs ht => by have := pMerge8_any rx cx X v ry cy Y u W hs ht hX hY; rw [hP1] at this; exact this
  have L1 : Hid (∀ v W, NumSl W v X → Calls Try.prog 25 #[.agg #[.int .i64 rx, .int .i64 cx, v]] W fun e w' => (∃ v', e = .returned (.tuple #[.agg #[.int .i64 r2, .int .i64 c2, v'], .int .i64 (e2 : Int)]) ∧ NumF W.heap.size w' v' K2) ∧ Below W.heap.size W w') := fun v W hs => by have := cLower_any rx cx X v W hs lX hX; rw [hP2] at this; exact this
  have L2 : Hid (∀ v W, NumSl W v X → Calls Try.prog 26 #[.agg #[.int .i64 rx, .int .i64 cx, v]] W fun e w' => (∃ v', e = .returned (.tuple #[.agg #[.int .i64 r2, .int .i64 c2, v'], .int .i64 (e2 : Int)]) ∧ NumF W.heap.size w' v' K2) ∧ Below W.heap.size W w') := fun v W hs => by have := pLower8_any rx cx X v W hs hX; rw [hP2] at this; exact this
  have Q1 : Hid (∀ v u W, NumSl W v X → NumSl W u Y → Calls Try.prog 27 #[.agg #[.int .i64 rx, .int .i64 cx, v], .agg #[.int .i64 ry, .int .i64 cy, u]] W fun e w' => e = .returned (.bool sm) ∧ Below W.heap.size W w') := fun v u W hs ht => by have := cSame_any rx cx X v ry cy Y u W hs ht lX lY; rw [hsm] at this; exact this
  have Q2 : Hid (∀ v u W, NumSl W v X → NumSl W u Y → Calls Try.prog 18 #[.agg #[.int .i64 rx, .int .i64 cx, v], .agg #[.int .i64 ry, .int .i64 cy, u]] W fun e w' => e = .returned (.bool sm) ∧ Below W.heap.size W w') := fun v u W hs ht => by have := pSame8_any rx cx X v ry cy Y u W hs ht (by omega) (by omega); rw [hsm] at this; exact this
  have Q3 : Hid (∀ v u W, NumSl W v X → NumSl W u X → Calls Try.prog 27 #[.agg #[.int .i64 rx, .int .i64 cx, v], .agg #[.int .i64 rx, .int .i64 cx, u]] W fun e w' => e = .returned (.bool true) ∧ Below W.heap.size W w') := fun v u W hs ht => by have := cSame_any rx cx X v rx cx X u W hs ht lX lX; rw [sameCm_refl] at this; exact this
  have S1 : Hid (∀ u v W, NumSl W u K1 → NumSl W v K1 → Calls Try.prog 18 #[.agg #[.int .i64 r1, .int .i64 c1, u], .agg #[.int .i64 r1, .int .i64 c1, v]] W fun e w' => e = .returned (.bool true) ∧ Below W.heap.size W w') := fun u v W hu hv => pSame8_refl r1 c1 K1 l1 u v W hu hv
  have S2 : Hid (∀ u v W, NumSl W u K2 → NumSl W v K2 → Calls Try.prog 18 #[.agg #[.int .i64 r2, .int .i64 c2, u], .agg #[.int .i64 r2, .int .i64 c2, v]] W fun e w' => e = .returned (.bool true) ∧ Below W.heap.size W w') := fun u v W hu hv => pSame8_refl r2 c2 K2 l2 u v W hu hv
  obtain ⟨a0, n0, c0, rfl⟩ := hv.form
  obtain ⟨b0, m0, d0, rfl⟩ := hu.form
  unfold cV at F1 F2 ⊢
  obtain ⟨u0, hw0, hb0, hz0, tx⟩ := atM_new w rx cx (.slice a0 n0 c0)
  obtain ⟨u1, hw1, hb1, hz1, ty⟩ := atM_new u0 ry cy (.slice b0 m0 d0)
  rw [hz0] at ty
  replace tx := tx.on hb1
  clear hn hL hm hM hXe hYe hP1 hP2 hsm lX hX lY hY l1 l2 hv hu
  go_enter Try.func4, Try.ntmps4
  go_wp2_with fail
  with_reducible refine (shown8_any _).mono ?_
  rintro e w1 ⟨rfl, hb⟩
  have hk := (hb0.trans (hb1.mono hb0.size)).trans (hb.mono (hb0.trans (hb1.mono hb0.size)).size)
  replace tx := tx.on hb
  replace ty := ty.on hb
  clear hb hb0 hb1
  have k0 := tx.c0
  have k1 := tx.c1
  have k2 := tx.c2
  go_wp2_with fail
  with_reducible refine (F1.out _).mono ?_
  rintro e w20 ⟨⟨v20, rfl, z20⟩, hb⟩
  obtain ⟨a20, n20, c20, rfl⟩ := z20.form
  replace hk := hk.trans (hb.mono hk.size)
  replace tx := tx.on hb
  replace ty := ty.on hb
  clear hb k0 k1 k2
  have k0 := tx.c0
  have k1 := tx.c1
  have k2 := tx.c2
  have f0 := HasC.frozen tx 0
  have f1 := HasC.frozen tx 1
  have f2 := HasC.frozen tx 2
  have tn := AtM.put (r2 := rx) (c2 := cx) (u := .slice a20 n20 c20) tx
  have hn := ((hk.setCell (p := ⟨w.heap.size, 0, none⟩) (by simp) (.int .i64 rx)).setCell (p := ⟨w.heap.size, 1, none⟩) (by simp) (.int .i64 cx)).setCell (p := ⟨w.heap.size, 2, none⟩) (by simp) (.slice a20 n20 c20)
  have tny := HasC.far (HasC.far (HasC.far ty ⟨w.heap.size, 0, none⟩ (.int .i64 rx) (by simp)) ⟨w.heap.size, 1, none⟩ (.int .i64 cx) (by simp)) ⟨w.heap.size, 2, none⟩ (.slice a20 n20 c20) (by simp)
  obtain ⟨w21, hw21⟩ : ∃ W', ((w20.setCell ⟨w.heap.size, 0, none⟩ (.int .i64 rx)).setCell ⟨w.heap.size, 1, none⟩ (.int .i64 cx)).setCell ⟨w.heap.size, 2, none⟩ (.slice a20 n20 c20) = W' := ⟨_, rfl⟩
  rw [hw21] at tn hn tny
  have sx := z20.below hn
  have hx := z20
  replace tx : AtM w21 w.heap.size rx cx (.slice a20 n20 c20) := tn
  replace hk := hn
  replace ty : AtM w21 (w.heap.size + 1) ry cy (.slice b0 m0 d0) := tny
  clear hn tn tny z20
  have K0 := k0
  have K1' := k1
  have K2' := k2
  have Z0 := f0
  have Z1 := f1
  have Z2 := f2
  clear k0 k1 k2 f0 f1 f2
  have k0 := ty.c0
  have k1 := ty.c1
  have k2 := ty.c2
  go_wp2_with fail
  with_reducible refine (F2.out _).mono ?_
  rintro e w22 ⟨⟨v22, rfl, z22⟩, hb⟩
  obtain ⟨a22, n22, c22, rfl⟩ := z22.form
  replace hk := hk.trans (hb.mono hk.size)
  replace sx := sx.below hb
  replace tx := tx.on hb
  replace ty := ty.on hb
  clear hb k0 k1 k2
  have k0 := ty.c0
  have k1 := ty.c1
  have k2 := ty.c2
  have f0 := HasC.frozen ty 0
  have f1 := HasC.frozen ty 1
  have f2 := HasC.frozen ty 2
  have tn := AtM.put (r2 := ry) (c2 := cy) (u := .slice a22 n22 c22) ty
  have hn := ((hk.setCell (p := ⟨(w.heap.size + 1), 0, none⟩) (by simp) (.int .i64 ry)).setCell (p := ⟨(w.heap.size + 1), 1, none⟩) (by simp) (.int .i64 cy)).setCell (p := ⟨(w.heap.size + 1), 2, none⟩) (by simp) (.slice a22 n22 c22)
  have tnx := HasC.far (HasC.far (HasC.far tx ⟨(w.heap.size + 1), 0, none⟩ (.int .i64 ry) (by simp)) ⟨(w.heap.size + 1), 1, none⟩ (.int .i64 cy) (by simp)) ⟨(w.heap.size + 1), 2, none⟩ (.slice a22 n22 c22) (by simp)
  obtain ⟨w23, hw23⟩ : ∃ W', ((w22.setCell ⟨(w.heap.size + 1), 0, none⟩ (.int .i64 ry)).setCell ⟨(w.heap.size + 1), 1, none⟩ (.int .i64 cy)).setCell ⟨(w.heap.size + 1), 2, none⟩ (.slice a22 n22 c22) = W' := ⟨_, rfl⟩
  rw [hw23] at tn hn tnx
  have sy := z22.below hn
  replace sx := hx.below hn
  have hy := z22
  replace ty : AtM w23 (w.heap.size + 1) ry cy (.slice a22 n22 c22) := tn
  replace hk := hn
  replace tx : AtM w23 w.heap.size rx cx (.slice a20 n20 c20) := tnx
  clear hn tn tnx z22
  clear hx hy
  have kx0 := tx.c0
  have kx1 := tx.c1
  have kx2 := tx.c2
  have ky0 := ty.c0
  have ky1 := ty.c1
  have ky2 := ty.c2
  go_wp2_with fail
  with_reducible refine (M1.out _ _ _ sx sy).mono ?_
  rintro e w24 ⟨⟨v24, rfl, z24⟩, hb⟩
  obtain ⟨a24, n24, c24, rfl⟩ := z24.form
  replace hk := hk.trans (hb.mono hk.size)
  obtain ⟨w25, hw25, hb25, hz25, t1⟩ := atM_new w24 r1 c1 (.slice a24 n24 c24)
  replace hk := hk.trans (hb25.mono hk.size)
  replace sx := (sx.below hb).below hb25
  replace tx := (tx.on hb).on hb25
  replace sy := (sy.below hb).below hb25
  replace ty := (ty.on hb).on hb25
  have s1 := z24.sl.below hb25
  clear hb hb25 z24 kx0 kx1 kx2 ky0 ky1 ky2
  clear k0 k1 k2 f0 f1 f2
  clear K0 K1' K2' Z0 Z1 Z2
  have kx0 := tx.c0
  have kx1 := tx.c1
  have kx2 := tx.c2
  have ky0 := ty.c0
  have ky1 := ty.c1
  have ky2 := ty.c2
  go_wp2_with fail
  with_reducible refine (M2.out _ _ _ sx sy).mono ?_
  rintro e w26 ⟨⟨v26, rfl, z26⟩, hb⟩
  obtain ⟨a26, n26, c26, rfl⟩ := z26.form
  replace hk := hk.trans (hb.mono hk.size)
  obtain ⟨w27, hw27, hb27, hz27, t2⟩ := atM_new w26 r1 c1 (.slice a26 n26 c26)
  replace hk := hk.trans (hb27.mono hk.size)
  replace sx := (sx.below hb).below hb27
  replace tx := (tx.on hb).on hb27
  replace sy := (sy.below hb).below hb27
  replace ty := (ty.on hb).on hb27
  replace s1 := (s1.below hb).below hb27
  replace t1 := (t1.on hb).on hb27
  have s2 := z26.sl.below hb27
  clear hb hb27 z26 kx0 kx1 kx2 ky0 ky1 ky2
  have kx0 := tx.c0
  have kx1 := tx.c1
  have kx2 := tx.c2
  go_wp2_with fail
  with_reducible refine (L1.out _ _ sx).mono ?_
  rintro e w28 ⟨⟨v28, rfl, z28⟩, hb⟩
  obtain ⟨a28, n28, c28, rfl⟩ := z28.form
  replace hk := hk.trans (hb.mono hk.size)
  obtain ⟨w29, hw29, hb29, hz29, t3⟩ := atM_new w28 r2 c2 (.slice a28 n28 c28)
  replace hk := hk.trans (hb29.mono hk.size)
  replace sx := (sx.below hb).below hb29
  replace tx := (tx.on hb).on hb29
  replace sy := (sy.below hb).below hb29
  replace ty := (ty.on hb).on hb29
  replace s1 := (s1.below hb).below hb29
  replace t1 := (t1.on hb).on hb29
  replace s2 := (s2.below hb).below hb29
  replace t2 := (t2.on hb).on hb29
  have s3 := z28.sl.below hb29
  clear hb hb29 z28 kx0 kx1 kx2
  have kx0 := tx.c0
  have kx1 := tx.c1
  have kx2 := tx.c2
  go_wp2_with fail
  with_reducible refine (L2.out _ _ sx).mono ?_
  rintro e w30 ⟨⟨v30, rfl, z30⟩, hb⟩
  obtain ⟨a30, n30, c30, rfl⟩ := z30.form
  replace hk := hk.trans (hb.mono hk.size)
  obtain ⟨w31, hw31, hb31, hz31, t4⟩ := atM_new w30 r2 c2 (.slice a30 n30 c30)
  replace hk := hk.trans (hb31.mono hk.size)
  replace sx := (sx.below hb).below hb31
  replace tx := (tx.on hb).on hb31
  replace sy := (sy.below hb).below hb31
  replace ty := (ty.on hb).on hb31
  replace s1 := (s1.below hb).below hb31
  replace t1 := (t1.on hb).on hb31
  replace s2 := (s2.below hb).below hb31
  replace t2 := (t2.on hb).on hb31
  replace s3 := (s3.below hb).below hb31
  replace t3 := (t3.on hb).on hb31
  have s4 := z30.sl.below hb31
  clear hb hb31 z30 kx0 kx1 kx2
  obtain ⟨D, hD0, hDon, hDk⟩ : ∃ D : World → Prop, D w31 ∧ (∀ W W', D W → Below W.heap.size W W' → D W') ∧ ∀ W, D W → AtM W w.heap.size rx cx (.slice a20 n20 c20) ∧ NumSl W (.slice a20 n20 c20) X ∧ AtM W (w.heap.size + 1) ry cy (.slice a22 n22 c22) ∧ NumSl W (.slice a22 n22 c22) Y ∧ AtM W w24.heap.size r1 c1 (.slice a24 n24 c24) ∧ NumSl W (.slice a24 n24 c24) K1 ∧ AtM W w26.heap.size r1 c1 (.slice a26 n26 c26) ∧ NumSl W (.slice a26 n26 c26) K1 ∧ AtM W w28.heap.size r2 c2 (.slice a28 n28 c28) ∧ NumSl W (.slice a28 n28 c28) K2 ∧ AtM W w30.heap.size r2 c2 (.slice a30 n30 c30) ∧ NumSl W (.slice a30 n30 c30) K2 ∧ Below w.heap.size w W :=
    ⟨fun W => AtM W w.heap.size rx cx (.slice a20 n20 c20) ∧ NumSl W (.slice a20 n20 c20) X ∧ AtM W (w.heap.size + 1) ry cy (.slice a22 n22 c22) ∧ NumSl W (.slice a22 n22 c22) Y ∧ AtM W w24.heap.size r1 c1 (.slice a24 n24 c24) ∧ NumSl W (.slice a24 n24 c24) K1 ∧ AtM W w26.heap.size r1 c1 (.slice a26 n26 c26) ∧ NumSl W (.slice a26 n26 c26) K1 ∧ AtM W w28.heap.size r2 c2 (.slice a28 n28 c28) ∧ NumSl W (.slice a28 n28 c28) K2 ∧ AtM W w30.heap.size r2 c2 (.slice a30 n30 c30) ∧ NumSl W (.slice a30 n30 c30) K2 ∧ Below w.heap.size w W, ⟨tx, sx, ty, sy, t1, s1, t2, s2, t3, s3, t4, s4, hk⟩, fun W W' h hb => ⟨h.1.on hb, h.2.1.below hb, h.2.2.1.on hb, h.2.2.2.1.below hb, h.2.2.2.2.1.on hb, h.2.2.2.2.2.1.below hb, h.2.2.2.2.2.2.1.on hb, h.2.2.2.2.2.2.2.1.below hb, h.2.2.2.2.2.2.2.2.1.on hb, h.2.2.2.2.2.2.2.2.2.1.below hb, h.2.2.2.2.2.2.2.2.2.2.1.on hb, h.2.2.2.2.2.2.2.2.2.2.2.1.below hb, h.2.2.2.2.2.2.2.2.2.2.2.2.trans (hb.mono h.2.2.2.2.2.2.2.2.2.2.2.2.size)⟩, fun _ h => h⟩
  have Ex0 : ∀ i : InC D, i.w.cell? ⟨w.heap.size, 0, none⟩ = some (.int .i64 rx) := fun i => (hDk _ i.h).1.c0
  have Ex1 : ∀ i : InC D, i.w.cell? ⟨w.heap.size, 1, none⟩ = some (.int .i64 cx) := fun i => (hDk _ i.h).1.c1
  have Ex2 : ∀ i : InC D, i.w.cell? ⟨w.heap.size, 2, none⟩ = some (.slice a20 n20 c20) := fun i => (hDk _ i.h).1.c2
  have HNx := Lib.hid (fun W (hd : D W) => (hDk W hd).2.1)
  have Ey0 : ∀ i : InC D, i.w.cell? ⟨(w.heap.size + 1), 0, none⟩ = some (.int .i64 ry) := fun i => (hDk _ i.h).2.2.1.c0
  have Ey1 : ∀ i : InC D, i.w.cell? ⟨(w.heap.size + 1), 1, none⟩ = some (.int .i64 cy) := fun i => (hDk _ i.h).2.2.1.c1
  have Ey2 : ∀ i : InC D, i.w.cell? ⟨(w.heap.size + 1), 2, none⟩ = some (.slice a22 n22 c22) := fun i => (hDk _ i.h).2.2.1.c2
  have HNy := Lib.hid (fun W (hd : D W) => (hDk W hd).2.2.2.1)
  have E10 : ∀ i : InC D, i.w.cell? ⟨w24.heap.size, 0, none⟩ = some (.int .i64 r1) := fun i => (hDk _ i.h).2.2.2.2.1.c0
  have E11 : ∀ i : InC D, i.w.cell? ⟨w24.heap.size, 1, none⟩ = some (.int .i64 c1) := fun i => (hDk _ i.h).2.2.2.2.1.c1
  have E12 : ∀ i : InC D, i.w.cell? ⟨w24.heap.size, 2, none⟩ = some (.slice a24 n24 c24) := fun i => (hDk _ i.h).2.2.2.2.1.c2
  have HN1 := Lib.hid (fun W (hd : D W) => (hDk W hd).2.2.2.2.2.1)
  have E20 : ∀ i : InC D, i.w.cell? ⟨w26.heap.size, 0, none⟩ = some (.int .i64 r1) := fun i => (hDk _ i.h).2.2.2.2.2.2.1.c0
  have E21 : ∀ i : InC D, i.w.cell? ⟨w26.heap.size, 1, none⟩ = some (.int .i64 c1) := fun i => (hDk _ i.h).2.2.2.2.2.2.1.c1
  have E22 : ∀ i : InC D, i.w.cell? ⟨w26.heap.size, 2, none⟩ = some (.slice a26 n26 c26) := fun i => (hDk _ i.h).2.2.2.2.2.2.1.c2
  have HN2 := Lib.hid (fun W (hd : D W) => (hDk W hd).2.2.2.2.2.2.2.1)
  have E30 : ∀ i : InC D, i.w.cell? ⟨w28.heap.size, 0, none⟩ = some (.int .i64 r2) := fun i => (hDk _ i.h).2.2.2.2.2.2.2.2.1.c0
  have E31 : ∀ i : InC D, i.w.cell? ⟨w28.heap.size, 1, none⟩ = some (.int .i64 c2) := fun i => (hDk _ i.h).2.2.2.2.2.2.2.2.1.c1
  have E32 : ∀ i : InC D, i.w.cell? ⟨w28.heap.size, 2, none⟩ = some (.slice a28 n28 c28) := fun i => (hDk _ i.h).2.2.2.2.2.2.2.2.1.c2
  have HN3 := Lib.hid (fun W (hd : D W) => (hDk W hd).2.2.2.2.2.2.2.2.2.1)
  have E40 : ∀ i : InC D, i.w.cell? ⟨w30.heap.size, 0, none⟩ = some (.int .i64 r2) := fun i => (hDk _ i.h).2.2.2.2.2.2.2.2.2.2.1.c0
  have E41 : ∀ i : InC D, i.w.cell? ⟨w30.heap.size, 1, none⟩ = some (.int .i64 c2) := fun i => (hDk _ i.h).2.2.2.2.2.2.2.2.2.2.1.c1
  have E42 : ∀ i : InC D, i.w.cell? ⟨w30.heap.size, 2, none⟩ = some (.slice a30 n30 c30) := fun i => (hDk _ i.h).2.2.2.2.2.2.2.2.2.2.1.c2
  have HN4 := Lib.hid (fun W (hd : D W) => (hDk W hd).2.2.2.2.2.2.2.2.2.2.2.1)
  have HDK := Lib.hid (fun i : InC D => (hDk _ i.h).2.2.2.2.2.2.2.2.2.2.2.2)
  have HDON := Lib.hid hDon
  have HD0 := Lib.hid (hDon _ _ hD0 ((Below.refl _ _).drew))
  clear hD0 hDon hDk hk tx sx ty sy t1 s1 t2 s2 t3 s3 t4 s4
  go_wp2_with fail
  refine region_class D (by kernel_rfl) (by kernel_rfl) HD0.out ?_
  intro hne
  repeat (go_big_quiet_step (first
    | (go_at_call 18; (with_reducible refine (S1.out _ _ _ ?_ ?_).mono ?_); exact HN1.out _ (InC.h _); exact HN2.out _ (InC.h _); rintro e w' ⟨rfl, hb⟩; exact ⟨rfl, ⟨_, HDON.out _ _ (InC.h _) hb⟩, rfl⟩)
    | (go_at_call 18; (with_reducible refine (S2.out _ _ _ ?_ ?_).mono ?_); exact HN3.out _ (InC.h _); exact HN4.out _ (InC.h _); rintro e w' ⟨rfl, hb⟩; exact ⟨rfl, ⟨_, HDON.out _ _ (InC.h _) hb⟩, rfl⟩)
    | (go_at_call 18; (with_reducible refine (Q2.out _ _ _ ?_ ?_).mono ?_); exact HNx.out _ (InC.h _); exact HNy.out _ (InC.h _); rintro e w' ⟨rfl, hb⟩; exact ⟨rfl, ⟨_, HDON.out _ _ (InC.h _) hb⟩, rfl⟩)
    | (go_at_call 27; (with_reducible refine (Q1.out _ _ _ ?_ ?_).mono ?_); exact HNx.out _ (InC.h _); exact HNy.out _ (InC.h _); rintro e w' ⟨rfl, hb⟩; exact ⟨rfl, ⟨_, HDON.out _ _ (InC.h _) hb⟩, rfl⟩)
    | (go_at_call 27; (with_reducible refine (Q3.out _ _ _ ?_ ?_).mono ?_); exact HNx.out _ (InC.h _); exact HNx.out _ (InC.h _); rintro e w' ⟨rfl, hb⟩; exact ⟨rfl, ⟨_, HDON.out _ _ (InC.h _) hb⟩, rfl⟩)))
  refine wpQuiet_nil ?_
  intro i
  go_wp2_with fail
  go_ret
  exact ⟨by simp, HDK.out i⟩
end Go.Proofs.Ythhlofcmhnkcmaa
