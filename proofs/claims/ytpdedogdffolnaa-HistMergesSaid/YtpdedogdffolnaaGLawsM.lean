/- The statements' walks, stage 9: HistMerges. -/
import Derived.Test.YtpdedogdffolnaaGLawsD
namespace Go.Proofs.Ytpdedogdffolnaa
open Go.RowKit

theorem kSel9 (f : Int) (L : List Bn) (h : GOk f L) (p : Nat) (hp : p ≤ topN) {sa sb : Nat} {so : Bool} (hS : selG f L p = (sa, sb, so)) (u : Value) (W : World) (hv : BinSl W u L) :
    Calls Try.prog 26 #[hgV f u, gV p] W fun e w' => (∃ qa qb : Nat, e = .returned (.tuple #[gV qa, gV qb, .bool so]) ∧ (so = true → qa = sa ∧ qb = sb)) ∧ Below W.heap.size W w' :=
  (gSel_any f L u p W h hv hp).mono fun e w' ⟨⟨⟨qa, qb, qo⟩, h1, h2, h3, _⟩, hb⟩ => by
    rw [hS] at h2 h3
    obtain rfl : qo = so := h2
    exact ⟨⟨qa, qb, h1, fun ht => by have := h3 ht; cases this; exact ⟨rfl, rfl⟩⟩, hb⟩
set_option maxHeartbeats 16000000 in
set_option maxRecDepth 100000 in
theorem lawMerges9_any (fx : Int) (L : List Bn) (vx : Value) (fy : Int) (M : List Bn) (vy : Value) (v p : Nat) (w : World) (hfx : smallI fx) (hv : BinSl w vx L) (hL : binsOk L) (hfy : smallI fy) (hu : BinSl w vy M) (hM : binsOk M) (hvt : v ≤ topN) (hp : p ≤ topN) :
    Calls Try.prog 4 #[hgV fx vx, hgV fy vy, gV v, gV p] w fun e w' => e = .returned (.bool true) ∧ Below w.heap.size w w' := by
  have F1 := Lib.hid (fun W => few9x_any fx L vx w W hv hL.1)
  have F2 := Lib.hid (fun W => few9x_any fy M vy w W hu hM.1)
  obtain ⟨gX, lX⟩ := gok_take hfx hL
  obtain ⟨gY, lY⟩ := gok_take hfy hM
  obtain ⟨X, hXe⟩ : ∃ X, L.take 300 = X := ⟨_, rfl⟩
  obtain ⟨Y, hYe⟩ : ∃ Y, M.take 300 = Y := ⟨_, rfl⟩
  rw [hXe] at F1 gX lX
  rw [hYe] at F2 gY lY
  have tX : ∀ y ∈ X, y.2 ≤ topN := fun y hy => (gX.2.2 y hy).2
  have tY : ∀ y ∈ Y, y.2 ≤ topN := fun y hy => (gY.2.2 y hy).2
  have l1 := mergeGH_len fx X fy Y lX lY
  have l2 := lowerGH_len fx X lX
  obtain ⟨⟨⟨r1, K1⟩, e1⟩, hP1⟩ : ∃ P, mergeGH fx X fy Y = P := ⟨_, rfl⟩
  obtain ⟨⟨⟨r2, K2⟩, e2⟩, hP2⟩ : ∃ P, lowerGH fx X = P := ⟨_, rfl⟩
  rw [hP1] at l1
  rw [hP2] at l2
  obtain ⟨tt, htt⟩ : ∃ b, rankG fx X topN = b := ⟨_, rfl⟩
  obtain ⟨rk, hrk⟩ : ∃ b, rankG fx X v = b := ⟨_, rfl⟩
  obtain ⟨sm, hsm⟩ : ∃ b, sameG fx X fy Y = b := ⟨_, rfl⟩
  obtain ⟨⟨sa, sb, so⟩, hso⟩ : ∃ S, selG fx X p = S := ⟨_, rfl⟩
  have M1 : Hid (∀ u t W, BinSl W u X → BinSl W t Y → Calls Try.prog 22 #[.agg #[.int .i64 fx, u], .agg #[.int .i64 fy, t]] W fun e w' => (∃ v', e = .returned (.tuple #[.agg #[.int .i64 r1, v'], .int .i64 (e1 : Int)]) ∧ BinSl w' v' K1) ∧ Below W.heap.size W w') := fun u t W hs ht => by have := gMerge_any fx X u fy Y t W gX gY hs ht; rw [hP1] at this; exact this
  have M2 : Hid (∀ u t W, BinSl W u X → BinSl W t Y → Calls Try.prog 23 #[.agg #[.int .i64 fx, u], .agg #[.int .i64 fy, t]] W fun e w' => (∃ v', e = .returned (.tuple #[.agg #[.int .i64 r1, v'], .int .i64 (e1 : Int)]) ∧ BinSl w' v' K1) ∧ Below W.heap.size W w') := fun u t W hs ht => by have := pMerge9_any fx X u fy Y t W hs ht (by omega) (by omega) tY; rw [hP1] at this; exact this
  have L1 : Hid (∀ u W, BinSl W u X → Calls Try.prog 24 #[.agg #[.int .i64 fx, u]] W fun e w' => (∃ v', e = .returned (.tuple #[.agg #[.int .i64 r2, v'], .int .i64 (e2 : Int)]) ∧ BinSl w' v' K2) ∧ Below W.heap.size W w') := fun u W hs => by have := gLower_any fx X u W gX hs; rw [hP2] at this; exact this
  have L2 : Hid (∀ u W, BinSl W u X → Calls Try.prog 25 #[.agg #[.int .i64 fx, u]] W fun e w' => (∃ v', e = .returned (.tuple #[.agg #[.int .i64 r2, v'], .int .i64 (e2 : Int)]) ∧ BinSl w' v' K2) ∧ Below W.heap.size W w') := fun u W hs => by have := pLower9_any fx X u W hs (by omega) tX; rw [hP2] at this; exact this
  have Z1 := Lib.hid (fun u W hs => kSel9 fx X gX p hp hso u W hs)
  have Z2 : Hid (∀ u W, BinSl W u X → Calls Try.prog 27 #[.agg #[.int .i64 fx, u], gV p] W fun e w' => e = .returned (.tuple #[gV sa, gV sb, .bool so]) ∧ Below W.heap.size W w') := fun u W hs => by have := pSel9_any fx X u p W hs (by omega) tX; rw [hso] at this; exact this
  have T1 : Hid (∀ u W, BinSl W u X → Calls Try.prog 28 #[.agg #[.int .i64 fx, u]] W fun e w' => e = .returned (gV tt) ∧ Below W.heap.size W w') := fun u W hs => by have := gTotal_any fx X u W gX hs; rw [htt] at this; exact this
  have T2 : Hid (∀ u W, BinSl W u X → Calls Try.prog 29 #[.agg #[.int .i64 fx, u]] W fun e w' => e = .returned (gV tt) ∧ Below W.heap.size W w') := fun u W hs => by have := pTotal9_any fx X u W hs (by omega) tX; rw [htt] at this; exact this
  have R1 : Hid (∀ u W, BinSl W u X → Calls Try.prog 30 #[.agg #[.int .i64 fx, u], gV v] W fun e w' => e = .returned (gV rk) ∧ Below W.heap.size W w') := fun u W hs => by have := gRank_any fx X u v W gX hs hvt; rw [hrk] at this; exact this
  have R2 : Hid (∀ u W, BinSl W u X → Calls Try.prog 31 #[.agg #[.int .i64 fx, u], gV v] W fun e w' => e = .returned (gV rk) ∧ Below W.heap.size W w') := fun u W hs => by have := pRank9_any fx X u v W hs (by omega) tX hvt; rw [hrk] at this; exact this
  have Q1 : Hid (∀ u t W, BinSl W u X → BinSl W t Y → Calls Try.prog 32 #[.agg #[.int .i64 fx, u], .agg #[.int .i64 fy, t]] W fun e w' => e = .returned (.bool sm) ∧ Below W.heap.size W w') := fun u t W hs ht => by have := gSame_any fx X u fy Y t W gX gY hs ht; rw [hsm] at this; exact this
  have Q2 : Hid (∀ u t W, BinSl W u X → BinSl W t Y → Calls Try.prog 21 #[.agg #[.int .i64 fx, u], .agg #[.int .i64 fy, t]] W fun e w' => e = .returned (.bool sm) ∧ Below W.heap.size W w') := fun u t W hs ht => by have := pSame9_any fx X u fy Y t W hs ht (by omega) (by omega); rw [hsm] at this; exact this
  have Q3 : Hid (∀ u t W, BinSl W u X → BinSl W t X → Calls Try.prog 32 #[.agg #[.int .i64 fx, u], .agg #[.int .i64 fx, t]] W fun e w' => e = .returned (.bool true) ∧ Below W.heap.size W w') := fun u t W hs ht => by have := gSame_any fx X u fx X t W gX gX hs ht; rw [sameG_refl] at this; exact this
  have S1 : Hid (∀ u t W, BinSl W u K1 → BinSl W t K1 → Calls Try.prog 21 #[.agg #[.int .i64 r1, u], .agg #[.int .i64 r1, t]] W fun e w' => e = .returned (.bool true) ∧ Below W.heap.size W w') := fun u t W hu ht => by have := pSame9_refl r1 K1 l1 u t W hu ht; exact this
  have S2 : Hid (∀ u t W, BinSl W u K2 → BinSl W t K2 → Calls Try.prog 21 #[.agg #[.int .i64 r2, u], .agg #[.int .i64 r2, t]] W fun e w' => e = .returned (.bool true) ∧ Below W.heap.size W w') := fun u t W hu ht => by have := pSame9_refl r2 K2 l2 u t W hu ht; exact this
  obtain ⟨a0, n0, c0, rfl⟩ := hv.form
  obtain ⟨b0, m0, d0, rfl⟩ := hu.form
  unfold hgV at F1 F2 Z1 ⊢
  obtain ⟨u0, hw0, hb0, hz0, tx⟩ := atG_new w fx (.slice a0 n0 c0)
  obtain ⟨u1, hw1, hb1, hz1, ty⟩ := atG_new u0 fy (.slice b0 m0 d0)
  rw [hz0] at ty
  replace tx := tx.on hb1
  clear hfx hv hL hfy hu hM hvt hp gX lX gY lY hXe hYe tX tY l1 l2 hP1 hP2 htt hrk hsm hso
  go_enter Try.func4, Try.ntmps4
  go_wp2_with fail
  with_reducible refine (shown9_any _).mono ?_
  rintro e w1 ⟨rfl, hb⟩
  have hk := (hb0.trans (hb1.mono hb0.size)).trans (hb.mono (hb0.trans (hb1.mono hb0.size)).size)
  replace tx := tx.on hb
  replace ty := ty.on hb
  clear hb hb0 hb1
  have k0 := tx.c0
  have k1 := tx.c1
  go_wp2_with fail
  with_reducible refine (F1.out _).mono ?_
  rintro e w20 ⟨⟨v20, rfl, z20⟩, hb⟩
  obtain ⟨a20, n20, c20, rfl⟩ := z20.form
  replace hk := hk.trans (hb.mono hk.size)
  replace tx := tx.on hb
  replace ty := ty.on hb
  clear hb k0 k1
  have k0 := tx.c0
  have k1 := tx.c1
  have f0 := HasC.frozen tx 0
  have f1 := HasC.frozen tx 1
  have tn := AtG.put (g := fx) (u := .slice a20 n20 c20) tx
  have hn := (hk.setCell (p := ⟨w.heap.size, 0, none⟩) (by simp) (.int .i64 fx)).setCell (p := ⟨w.heap.size, 1, none⟩) (by simp) (.slice a20 n20 c20)
  have tny := HasC.far (HasC.far ty ⟨w.heap.size, 0, none⟩ (.int .i64 fx) (by simp)) ⟨w.heap.size, 1, none⟩ (.slice a20 n20 c20) (by simp)
  obtain ⟨w21, hw21⟩ : ∃ W', (w20.setCell ⟨w.heap.size, 0, none⟩ (.int .i64 fx)).setCell ⟨w.heap.size, 1, none⟩ (.slice a20 n20 c20) = W' := ⟨_, rfl⟩
  rw [hw21] at tn hn tny
  have sx := z20.below hn
  have hx := z20
  replace tx : AtG w21 (w.heap.size) fx (.slice a20 n20 c20) := tn
  replace hk := hn
  replace ty : AtG w21 (w.heap.size + 1) fy (.slice b0 m0 d0) := tny
  clear hn tn tny z20
  have K0 := k0
  have K1' := k1
  have Z0 := f0
  have Z1' := f1
  clear k0 k1 f0 f1
  have k0 := ty.c0
  have k1 := ty.c1
  go_wp2_with fail
  with_reducible refine (F2.out _).mono ?_
  rintro e w22 ⟨⟨v22, rfl, z22⟩, hb⟩
  obtain ⟨a22, n22, c22, rfl⟩ := z22.form
  replace hk := hk.trans (hb.mono hk.size)
  replace tx := tx.on hb
  replace ty := ty.on hb
  clear hb k0 k1
  have k0 := ty.c0
  have k1 := ty.c1
  have f0 := HasC.frozen ty 0
  have f1 := HasC.frozen ty 1
  have tn := AtG.put (g := fy) (u := .slice a22 n22 c22) ty
  have hn := (hk.setCell (p := ⟨w.heap.size + 1, 0, none⟩) (by simp) (.int .i64 fy)).setCell (p := ⟨w.heap.size + 1, 1, none⟩) (by simp) (.slice a22 n22 c22)
  have tnx := HasC.far (HasC.far tx ⟨w.heap.size + 1, 0, none⟩ (.int .i64 fy) (by simp)) ⟨w.heap.size + 1, 1, none⟩ (.slice a22 n22 c22) (by simp)
  obtain ⟨w23, hw23⟩ : ∃ W', (w22.setCell ⟨w.heap.size + 1, 0, none⟩ (.int .i64 fy)).setCell ⟨w.heap.size + 1, 1, none⟩ (.slice a22 n22 c22) = W' := ⟨_, rfl⟩
  rw [hw23] at tn hn tnx
  have sy := z22.below hn
  replace sx := hx.below hn
  have hy := z22
  replace ty : AtG w23 (w.heap.size + 1) fy (.slice a22 n22 c22) := tn
  replace hk := hn
  replace tx : AtG w23 (w.heap.size) fx (.slice a20 n20 c20) := tnx
  clear hn tn tnx z22
  clear hx hy
  have kx0 := tx.c0
  have kx1 := tx.c1
  have ky0 := ty.c0
  have ky1 := ty.c1
  go_wp2_with fail
  with_reducible refine (M1.out _ _ _ sx sy).mono ?_
  rintro e w24 ⟨⟨v24, rfl, z24⟩, hb⟩
  obtain ⟨a24, n24, c24, rfl⟩ := z24.form
  replace hk := hk.trans (hb.mono hk.size)
  obtain ⟨w25, hw25, hb25, hz25, tp⟩ := atG_new w24 r1 (.slice a24 n24 c24)
  replace hk := hk.trans (hb25.mono hk.size)
  replace sx := (sx.below hb).below hb25
  replace tx := (tx.on hb).on hb25
  replace sy := (sy.below hb).below hb25
  replace ty := (ty.on hb).on hb25
  have sp := z24.below hb25
  clear hb hb25 z24 kx0 kx1 ky0 ky1
  clear k0 k1 f0 f1
  clear K0 K1' Z0 Z1'
  have kx0 := tx.c0
  have kx1 := tx.c1
  have ky0 := ty.c0
  have ky1 := ty.c1
  go_wp2_with fail
  with_reducible refine (M2.out _ _ _ sx sy).mono ?_
  rintro e w26 ⟨⟨v26, rfl, z26⟩, hb⟩
  obtain ⟨a26, n26, c26, rfl⟩ := z26.form
  replace hk := hk.trans (hb.mono hk.size)
  obtain ⟨w27, hw27, hb27, hz27, tq⟩ := atG_new w26 r1 (.slice a26 n26 c26)
  replace hk := hk.trans (hb27.mono hk.size)
  replace sx := (sx.below hb).below hb27
  replace tx := (tx.on hb).on hb27
  replace sy := (sy.below hb).below hb27
  replace ty := (ty.on hb).on hb27
  replace sp := (sp.below hb).below hb27
  replace tp := (tp.on hb).on hb27
  have sq := z26.below hb27
  clear hb hb27 z26 kx0 kx1 ky0 ky1
  have kx0 := tx.c0
  have kx1 := tx.c1
  go_wp2_with fail
  with_reducible refine (L1.out _ _ sx).mono ?_
  rintro e w28 ⟨⟨v28, rfl, z28⟩, hb⟩
  obtain ⟨a28, n28, c28, rfl⟩ := z28.form
  replace hk := hk.trans (hb.mono hk.size)
  obtain ⟨w29, hw29, hb29, hz29, tc⟩ := atG_new w28 r2 (.slice a28 n28 c28)
  replace hk := hk.trans (hb29.mono hk.size)
  replace sx := (sx.below hb).below hb29
  replace tx := (tx.on hb).on hb29
  replace sy := (sy.below hb).below hb29
  replace ty := (ty.on hb).on hb29
  replace sp := (sp.below hb).below hb29
  replace tp := (tp.on hb).on hb29
  replace sq := (sq.below hb).below hb29
  replace tq := (tq.on hb).on hb29
  have sc := z28.below hb29
  clear hb hb29 z28 kx0 kx1
  have kx0 := tx.c0
  have kx1 := tx.c1
  go_wp2_with fail
  with_reducible refine (L2.out _ _ sx).mono ?_
  rintro e w30 ⟨⟨v30, rfl, z30⟩, hb⟩
  obtain ⟨a30, n30, c30, rfl⟩ := z30.form
  replace hk := hk.trans (hb.mono hk.size)
  obtain ⟨w31, hw31, hb31, hz31, td⟩ := atG_new w30 r2 (.slice a30 n30 c30)
  replace hk := hk.trans (hb31.mono hk.size)
  replace sx := (sx.below hb).below hb31
  replace tx := (tx.on hb).on hb31
  replace sy := (sy.below hb).below hb31
  replace ty := (ty.on hb).on hb31
  replace sp := (sp.below hb).below hb31
  replace tp := (tp.on hb).on hb31
  replace sq := (sq.below hb).below hb31
  replace tq := (tq.on hb).on hb31
  replace sc := (sc.below hb).below hb31
  replace tc := (tc.on hb).on hb31
  have sd := z30.below hb31
  clear hb hb31 z30 kx0 kx1
  have kx0 := tx.c0
  have kx1 := tx.c1
  go_wp2_with fail
  with_reducible refine (Z1.out _ _ sx).mono ?_
  rintro e w32 ⟨⟨qa, qb, rfl, hqq⟩, hb⟩
  replace hk := hk.trans (hb.mono hk.size)
  replace sx := sx.below hb
  replace tx := tx.on hb
  replace sy := sy.below hb
  replace ty := ty.on hb
  replace sp := sp.below hb
  replace tp := tp.on hb
  replace sq := sq.below hb
  replace tq := tq.on hb
  replace sc := sc.below hb
  replace tc := tc.on hb
  replace sd := sd.below hb
  replace td := td.on hb
  clear hb kx0 kx1
  have kx0 := tx.c0
  have kx1 := tx.c1
  go_wp2_with fail
  with_reducible refine (Z2.out _ _ sx).mono ?_
  rintro e w33 ⟨rfl, hb⟩
  replace hk := hk.trans (hb.mono hk.size)
  replace sx := sx.below hb
  replace tx := tx.on hb
  replace sy := sy.below hb
  replace ty := ty.on hb
  replace sp := sp.below hb
  replace tp := tp.on hb
  replace sq := sq.below hb
  replace tq := tq.on hb
  replace sc := sc.below hb
  replace tc := tc.on hb
  replace sd := sd.below hb
  replace td := td.on hb
  clear hb kx0 kx1
  cases so with
  | false =>
    clear hqq
    obtain ⟨D, hD0, hDon, hDk⟩ : ∃ D : World → Prop, D w33 ∧ (∀ W W', D W → Below W.heap.size W W' → D W') ∧ ∀ W, D W → AtG W (w.heap.size) fx (.slice a20 n20 c20) ∧ BinSl W (.slice a20 n20 c20) X ∧ AtG W (w.heap.size + 1) fy (.slice a22 n22 c22) ∧ BinSl W (.slice a22 n22 c22) Y ∧ AtG W (w24.heap.size) r1 (.slice a24 n24 c24) ∧ BinSl W (.slice a24 n24 c24) K1 ∧ AtG W (w26.heap.size) r1 (.slice a26 n26 c26) ∧ BinSl W (.slice a26 n26 c26) K1 ∧ AtG W (w28.heap.size) r2 (.slice a28 n28 c28) ∧ BinSl W (.slice a28 n28 c28) K2 ∧ AtG W (w30.heap.size) r2 (.slice a30 n30 c30) ∧ BinSl W (.slice a30 n30 c30) K2 ∧ Below w.heap.size w W :=
      ⟨fun W => AtG W (w.heap.size) fx (.slice a20 n20 c20) ∧ BinSl W (.slice a20 n20 c20) X ∧ AtG W (w.heap.size + 1) fy (.slice a22 n22 c22) ∧ BinSl W (.slice a22 n22 c22) Y ∧ AtG W (w24.heap.size) r1 (.slice a24 n24 c24) ∧ BinSl W (.slice a24 n24 c24) K1 ∧ AtG W (w26.heap.size) r1 (.slice a26 n26 c26) ∧ BinSl W (.slice a26 n26 c26) K1 ∧ AtG W (w28.heap.size) r2 (.slice a28 n28 c28) ∧ BinSl W (.slice a28 n28 c28) K2 ∧ AtG W (w30.heap.size) r2 (.slice a30 n30 c30) ∧ BinSl W (.slice a30 n30 c30) K2 ∧ Below w.heap.size w W, ⟨tx, sx, ty, sy, tp, sp, tq, sq, tc, sc, td, sd, hk⟩, fun W W' h hb => ⟨h.1.on hb, h.2.1.below hb, h.2.2.1.on hb, h.2.2.2.1.below hb, h.2.2.2.2.1.on hb, h.2.2.2.2.2.1.below hb, h.2.2.2.2.2.2.1.on hb, h.2.2.2.2.2.2.2.1.below hb, h.2.2.2.2.2.2.2.2.1.on hb, h.2.2.2.2.2.2.2.2.2.1.below hb, h.2.2.2.2.2.2.2.2.2.2.1.on hb, h.2.2.2.2.2.2.2.2.2.2.2.1.below hb, h.2.2.2.2.2.2.2.2.2.2.2.2.trans (hb.mono h.2.2.2.2.2.2.2.2.2.2.2.2.size)⟩, fun _ h => h⟩
    have Ex0 : ∀ i : InC D, i.w.cell? ⟨w.heap.size, 0, none⟩ = some (.int .i64 fx) := fun i => (hDk _ i.h).1.c0
    have Ex1 : ∀ i : InC D, i.w.cell? ⟨w.heap.size, 1, none⟩ = some (.slice a20 n20 c20) := fun i => (hDk _ i.h).1.c1
    have HNx := Lib.hid (fun W (hd : D W) => (hDk W hd).2.1)
    have Ey0 : ∀ i : InC D, i.w.cell? ⟨w.heap.size + 1, 0, none⟩ = some (.int .i64 fy) := fun i => (hDk _ i.h).2.2.1.c0
    have Ey1 : ∀ i : InC D, i.w.cell? ⟨w.heap.size + 1, 1, none⟩ = some (.slice a22 n22 c22) := fun i => (hDk _ i.h).2.2.1.c1
    have HNy := Lib.hid (fun W (hd : D W) => (hDk W hd).2.2.2.1)
    have Ep0 : ∀ i : InC D, i.w.cell? ⟨w24.heap.size, 0, none⟩ = some (.int .i64 r1) := fun i => (hDk _ i.h).2.2.2.2.1.c0
    have Ep1 : ∀ i : InC D, i.w.cell? ⟨w24.heap.size, 1, none⟩ = some (.slice a24 n24 c24) := fun i => (hDk _ i.h).2.2.2.2.1.c1
    have HNp := Lib.hid (fun W (hd : D W) => (hDk W hd).2.2.2.2.2.1)
    have Eq0 : ∀ i : InC D, i.w.cell? ⟨w26.heap.size, 0, none⟩ = some (.int .i64 r1) := fun i => (hDk _ i.h).2.2.2.2.2.2.1.c0
    have Eq1 : ∀ i : InC D, i.w.cell? ⟨w26.heap.size, 1, none⟩ = some (.slice a26 n26 c26) := fun i => (hDk _ i.h).2.2.2.2.2.2.1.c1
    have HNq := Lib.hid (fun W (hd : D W) => (hDk W hd).2.2.2.2.2.2.2.1)
    have Ec0 : ∀ i : InC D, i.w.cell? ⟨w28.heap.size, 0, none⟩ = some (.int .i64 r2) := fun i => (hDk _ i.h).2.2.2.2.2.2.2.2.1.c0
    have Ec1 : ∀ i : InC D, i.w.cell? ⟨w28.heap.size, 1, none⟩ = some (.slice a28 n28 c28) := fun i => (hDk _ i.h).2.2.2.2.2.2.2.2.1.c1
    have HNc := Lib.hid (fun W (hd : D W) => (hDk W hd).2.2.2.2.2.2.2.2.2.1)
    have Ed0 : ∀ i : InC D, i.w.cell? ⟨w30.heap.size, 0, none⟩ = some (.int .i64 r2) := fun i => (hDk _ i.h).2.2.2.2.2.2.2.2.2.2.1.c0
    have Ed1 : ∀ i : InC D, i.w.cell? ⟨w30.heap.size, 1, none⟩ = some (.slice a30 n30 c30) := fun i => (hDk _ i.h).2.2.2.2.2.2.2.2.2.2.1.c1
    have HNd := Lib.hid (fun W (hd : D W) => (hDk W hd).2.2.2.2.2.2.2.2.2.2.2.1)
    have HDK := Lib.hid (fun i : InC D => (hDk _ i.h).2.2.2.2.2.2.2.2.2.2.2.2)
    have HDON := Lib.hid hDon
    have HD0 := Lib.hid (hDon _ _ hD0 ((Below.refl _ _).drew))
    clear hD0 hDon hDk hk tx sx ty sy tp sp tq sq tc sc td sd
    go_wp2_with fail
    refine region_class D (by kernel_rfl) (by kernel_rfl) HD0.out ?_
    intro hne
    simp only [List.append]
    repeat (go_big_quiet_step (first
    | (go_at_call 21; (with_reducible refine (S1.out _ _ _ ?_ ?_).mono ?_); exact HNp.out _ (InC.h _); exact HNq.out _ (InC.h _); rintro e w' ⟨rfl, hb⟩; exact ⟨rfl, ⟨_, HDON.out _ _ (InC.h _) hb⟩, rfl⟩)
    | (go_at_call 21; (with_reducible refine (S2.out _ _ _ ?_ ?_).mono ?_); exact HNc.out _ (InC.h _); exact HNd.out _ (InC.h _); rintro e w' ⟨rfl, hb⟩; exact ⟨rfl, ⟨_, HDON.out _ _ (InC.h _) hb⟩, rfl⟩)
    | (go_at_call 21; (with_reducible refine (Q2.out _ _ _ ?_ ?_).mono ?_); exact HNx.out _ (InC.h _); exact HNy.out _ (InC.h _); rintro e w' ⟨rfl, hb⟩; exact ⟨rfl, ⟨_, HDON.out _ _ (InC.h _) hb⟩, rfl⟩)
    | (go_at_call 32; (with_reducible refine (Q1.out _ _ _ ?_ ?_).mono ?_); exact HNx.out _ (InC.h _); exact HNy.out _ (InC.h _); rintro e w' ⟨rfl, hb⟩; exact ⟨rfl, ⟨_, HDON.out _ _ (InC.h _) hb⟩, rfl⟩)
    | (go_at_call 32; (with_reducible refine (Q3.out _ _ _ ?_ ?_).mono ?_); exact HNx.out _ (InC.h _); exact HNx.out _ (InC.h _); rintro e w' ⟨rfl, hb⟩; exact ⟨rfl, ⟨_, HDON.out _ _ (InC.h _) hb⟩, rfl⟩)
    | (go_at_call 28; (with_reducible refine (T1.out _ _ ?_).mono ?_); exact HNx.out _ (InC.h _); rintro e w' ⟨rfl, hb⟩; exact ⟨rfl, ⟨_, HDON.out _ _ (InC.h _) hb⟩, rfl⟩)
    | (go_at_call 29; (with_reducible refine (T2.out _ _ ?_).mono ?_); exact HNx.out _ (InC.h _); rintro e w' ⟨rfl, hb⟩; exact ⟨rfl, ⟨_, HDON.out _ _ (InC.h _) hb⟩, rfl⟩)
    | (go_at_call 30; (with_reducible refine (R1.out _ _ ?_).mono ?_); exact HNx.out _ (InC.h _); rintro e w' ⟨rfl, hb⟩; exact ⟨rfl, ⟨_, HDON.out _ _ (InC.h _) hb⟩, rfl⟩)
    | (go_at_call 31; (with_reducible refine (R2.out _ _ ?_).mono ?_); exact HNx.out _ (InC.h _); rintro e w' ⟨rfl, hb⟩; exact ⟨rfl, ⟨_, HDON.out _ _ (InC.h _) hb⟩, rfl⟩)))
    refine wpQuiet_nil ?_
    intro i
    go_wp2_with fail
    go_ret
    exact ⟨by simp, HDK.out i⟩
  | true =>
    obtain ⟨rfl, rfl⟩ := hqq rfl
    clear hqq
    obtain ⟨D, hD0, hDon, hDk⟩ : ∃ D : World → Prop, D w33 ∧ (∀ W W', D W → Below W.heap.size W W' → D W') ∧ ∀ W, D W → AtG W (w.heap.size) fx (.slice a20 n20 c20) ∧ BinSl W (.slice a20 n20 c20) X ∧ AtG W (w.heap.size + 1) fy (.slice a22 n22 c22) ∧ BinSl W (.slice a22 n22 c22) Y ∧ AtG W (w24.heap.size) r1 (.slice a24 n24 c24) ∧ BinSl W (.slice a24 n24 c24) K1 ∧ AtG W (w26.heap.size) r1 (.slice a26 n26 c26) ∧ BinSl W (.slice a26 n26 c26) K1 ∧ AtG W (w28.heap.size) r2 (.slice a28 n28 c28) ∧ BinSl W (.slice a28 n28 c28) K2 ∧ AtG W (w30.heap.size) r2 (.slice a30 n30 c30) ∧ BinSl W (.slice a30 n30 c30) K2 ∧ Below w.heap.size w W :=
      ⟨fun W => AtG W (w.heap.size) fx (.slice a20 n20 c20) ∧ BinSl W (.slice a20 n20 c20) X ∧ AtG W (w.heap.size + 1) fy (.slice a22 n22 c22) ∧ BinSl W (.slice a22 n22 c22) Y ∧ AtG W (w24.heap.size) r1 (.slice a24 n24 c24) ∧ BinSl W (.slice a24 n24 c24) K1 ∧ AtG W (w26.heap.size) r1 (.slice a26 n26 c26) ∧ BinSl W (.slice a26 n26 c26) K1 ∧ AtG W (w28.heap.size) r2 (.slice a28 n28 c28) ∧ BinSl W (.slice a28 n28 c28) K2 ∧ AtG W (w30.heap.size) r2 (.slice a30 n30 c30) ∧ BinSl W (.slice a30 n30 c30) K2 ∧ Below w.heap.size w W, ⟨tx, sx, ty, sy, tp, sp, tq, sq, tc, sc, td, sd, hk⟩, fun W W' h hb => ⟨h.1.on hb, h.2.1.below hb, h.2.2.1.on hb, h.2.2.2.1.below hb, h.2.2.2.2.1.on hb, h.2.2.2.2.2.1.below hb, h.2.2.2.2.2.2.1.on hb, h.2.2.2.2.2.2.2.1.below hb, h.2.2.2.2.2.2.2.2.1.on hb, h.2.2.2.2.2.2.2.2.2.1.below hb, h.2.2.2.2.2.2.2.2.2.2.1.on hb, h.2.2.2.2.2.2.2.2.2.2.2.1.below hb, h.2.2.2.2.2.2.2.2.2.2.2.2.trans (hb.mono h.2.2.2.2.2.2.2.2.2.2.2.2.size)⟩, fun _ h => h⟩
    have Ex0 : ∀ i : InC D, i.w.cell? ⟨w.heap.size, 0, none⟩ = some (.int .i64 fx) := fun i => (hDk _ i.h).1.c0
    have Ex1 : ∀ i : InC D, i.w.cell? ⟨w.heap.size, 1, none⟩ = some (.slice a20 n20 c20) := fun i => (hDk _ i.h).1.c1
    have HNx := Lib.hid (fun W (hd : D W) => (hDk W hd).2.1)
    have Ey0 : ∀ i : InC D, i.w.cell? ⟨w.heap.size + 1, 0, none⟩ = some (.int .i64 fy) := fun i => (hDk _ i.h).2.2.1.c0
    have Ey1 : ∀ i : InC D, i.w.cell? ⟨w.heap.size + 1, 1, none⟩ = some (.slice a22 n22 c22) := fun i => (hDk _ i.h).2.2.1.c1
    have HNy := Lib.hid (fun W (hd : D W) => (hDk W hd).2.2.2.1)
    have Ep0 : ∀ i : InC D, i.w.cell? ⟨w24.heap.size, 0, none⟩ = some (.int .i64 r1) := fun i => (hDk _ i.h).2.2.2.2.1.c0
    have Ep1 : ∀ i : InC D, i.w.cell? ⟨w24.heap.size, 1, none⟩ = some (.slice a24 n24 c24) := fun i => (hDk _ i.h).2.2.2.2.1.c1
    have HNp := Lib.hid (fun W (hd : D W) => (hDk W hd).2.2.2.2.2.1)
    have Eq0 : ∀ i : InC D, i.w.cell? ⟨w26.heap.size, 0, none⟩ = some (.int .i64 r1) := fun i => (hDk _ i.h).2.2.2.2.2.2.1.c0
    have Eq1 : ∀ i : InC D, i.w.cell? ⟨w26.heap.size, 1, none⟩ = some (.slice a26 n26 c26) := fun i => (hDk _ i.h).2.2.2.2.2.2.1.c1
    have HNq := Lib.hid (fun W (hd : D W) => (hDk W hd).2.2.2.2.2.2.2.1)
    have Ec0 : ∀ i : InC D, i.w.cell? ⟨w28.heap.size, 0, none⟩ = some (.int .i64 r2) := fun i => (hDk _ i.h).2.2.2.2.2.2.2.2.1.c0
    have Ec1 : ∀ i : InC D, i.w.cell? ⟨w28.heap.size, 1, none⟩ = some (.slice a28 n28 c28) := fun i => (hDk _ i.h).2.2.2.2.2.2.2.2.1.c1
    have HNc := Lib.hid (fun W (hd : D W) => (hDk W hd).2.2.2.2.2.2.2.2.2.1)
    have Ed0 : ∀ i : InC D, i.w.cell? ⟨w30.heap.size, 0, none⟩ = some (.int .i64 r2) := fun i => (hDk _ i.h).2.2.2.2.2.2.2.2.2.2.1.c0
    have Ed1 : ∀ i : InC D, i.w.cell? ⟨w30.heap.size, 1, none⟩ = some (.slice a30 n30 c30) := fun i => (hDk _ i.h).2.2.2.2.2.2.2.2.2.2.1.c1
    have HNd := Lib.hid (fun W (hd : D W) => (hDk W hd).2.2.2.2.2.2.2.2.2.2.2.1)
    have HDK := Lib.hid (fun i : InC D => (hDk _ i.h).2.2.2.2.2.2.2.2.2.2.2.2)
    have HDON := Lib.hid hDon
    have HD0 := Lib.hid (hDon _ _ hD0 ((Below.refl _ _).drew))
    clear hD0 hDon hDk hk tx sx ty sy tp sp tq sq tc sc td sd
    go_wp2_with fail
    refine region_class D (by kernel_rfl) (by kernel_rfl) HD0.out ?_
    intro hne
    simp only [List.append]
    repeat (go_big_quiet_step (first
    | (go_at_call 21; (with_reducible refine (S1.out _ _ _ ?_ ?_).mono ?_); exact HNp.out _ (InC.h _); exact HNq.out _ (InC.h _); rintro e w' ⟨rfl, hb⟩; exact ⟨rfl, ⟨_, HDON.out _ _ (InC.h _) hb⟩, rfl⟩)
    | (go_at_call 21; (with_reducible refine (S2.out _ _ _ ?_ ?_).mono ?_); exact HNc.out _ (InC.h _); exact HNd.out _ (InC.h _); rintro e w' ⟨rfl, hb⟩; exact ⟨rfl, ⟨_, HDON.out _ _ (InC.h _) hb⟩, rfl⟩)
    | (go_at_call 21; (with_reducible refine (Q2.out _ _ _ ?_ ?_).mono ?_); exact HNx.out _ (InC.h _); exact HNy.out _ (InC.h _); rintro e w' ⟨rfl, hb⟩; exact ⟨rfl, ⟨_, HDON.out _ _ (InC.h _) hb⟩, rfl⟩)
    | (go_at_call 32; (with_reducible refine (Q1.out _ _ _ ?_ ?_).mono ?_); exact HNx.out _ (InC.h _); exact HNy.out _ (InC.h _); rintro e w' ⟨rfl, hb⟩; exact ⟨rfl, ⟨_, HDON.out _ _ (InC.h _) hb⟩, rfl⟩)
    | (go_at_call 32; (with_reducible refine (Q3.out _ _ _ ?_ ?_).mono ?_); exact HNx.out _ (InC.h _); exact HNx.out _ (InC.h _); rintro e w' ⟨rfl, hb⟩; exact ⟨rfl, ⟨_, HDON.out _ _ (InC.h _) hb⟩, rfl⟩)
    | (go_at_call 28; (with_reducible refine (T1.out _ _ ?_).mono ?_); exact HNx.out _ (InC.h _); rintro e w' ⟨rfl, hb⟩; exact ⟨rfl, ⟨_, HDON.out _ _ (InC.h _) hb⟩, rfl⟩)
    | (go_at_call 29; (with_reducible refine (T2.out _ _ ?_).mono ?_); exact HNx.out _ (InC.h _); rintro e w' ⟨rfl, hb⟩; exact ⟨rfl, ⟨_, HDON.out _ _ (InC.h _) hb⟩, rfl⟩)
    | (go_at_call 30; (with_reducible refine (R1.out _ _ ?_).mono ?_); exact HNx.out _ (InC.h _); rintro e w' ⟨rfl, hb⟩; exact ⟨rfl, ⟨_, HDON.out _ _ (InC.h _) hb⟩, rfl⟩)
    | (go_at_call 31; (with_reducible refine (R2.out _ _ ?_).mono ?_); exact HNx.out _ (InC.h _); rintro e w' ⟨rfl, hb⟩; exact ⟨rfl, ⟨_, HDON.out _ _ (InC.h _) hb⟩, rfl⟩)))
    refine wpQuiet_nil ?_
    intro i
    go_wp2_with fail
    go_ret
    exact ⟨by simp, HDK.out i⟩
end Go.Proofs.Ytpdedogdffolnaa
