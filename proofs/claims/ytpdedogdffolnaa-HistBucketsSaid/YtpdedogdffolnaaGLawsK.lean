/- The statements' walks, stage 9: HistBuckets. -/
import Derived.Test.YtpdedogdffolnaaGLawsD
namespace Go.Proofs.Ytpdedogdffolnaa
open Go.RowKit

set_option maxHeartbeats 16000000 in
set_option maxRecDepth 100000 in
theorem lawBuckets9_any (f : Int) (v : Nat) (at' : Int) (fx : Int) (L : List Bn) (vx : Value) (n : Nat) (w : World) (hf : smallI f) (hvt : v ≤ topN) (ha : smallI at') (hfx : smallI fx) (hv : BinSl w vx L) (hL : binsOk L) (hnn : n ≤ topN) :
    Calls Try.prog 3 #[.int .i64 f, gV v, .int .i64 at', hgV fx vx, gV n] w fun e w' => e = .returned (.bool true) ∧ Below w.heap.size w w' := by
  have F1 := Lib.hid (fun W => few9x_any fx L vx w W hv hL.1)
  obtain ⟨gX, lX⟩ := gok_take hfx hL
  obtain ⟨X, hXe⟩ : ∃ X, L.take 300 = X := ⟨_, rfl⟩
  rw [hXe] at F1 gX lX
  have l1 := addG_len fx X v n lX
  obtain ⟨⟨⟨r1, K1⟩, e1⟩, hP1⟩ : ∃ P, addG fx X v n = P := ⟨_, rfl⟩
  rw [hP1] at l1
  obtain ⟨rt, hrt⟩ : ∃ b, rightG fx X = b := ⟨_, rfl⟩
  obtain ⟨bk, hbk⟩ : ∃ b, bucketI f v = b := ⟨_, rfl⟩
  obtain ⟨⟨ba, bb, bo⟩, hbo⟩ : ∃ b, boundsI f at' = b := ⟨_, rfl⟩
  have A1 : Hid (∀ u W, BinSl W u X → Calls Try.prog 15 #[.agg #[.int .i64 fx, u], gV v, gV n] W fun e w' => (∃ v', e = .returned (.tuple #[.agg #[.int .i64 r1, v'], .int .i64 (e1 : Int)]) ∧ BinSl w' v' K1) ∧ Below W.heap.size W w') := fun u W hs => by have := gAdd_any fx X u v n W gX hs hvt hnn; rw [hP1] at this; exact this
  have A2 : Hid (∀ u W, BinSl W u X → Calls Try.prog 16 #[.agg #[.int .i64 fx, u], gV v, gV n] W fun e w' => (∃ v', e = .returned (.tuple #[.agg #[.int .i64 r1, v'], .int .i64 (e1 : Int)]) ∧ BinSl w' v' K1) ∧ Below W.heap.size W w') := fun u W hs => by have := pAdd9_any fx X u v n W hs (by omega) hvt hnn; rw [hP1] at this; exact this
  have R1 : Hid (∀ u W, BinSl W u X → Calls Try.prog 19 #[.agg #[.int .i64 fx, u]] W fun e w' => e = .returned (.bool rt) ∧ Below W.heap.size W w') := fun u W hs => by have := gRight_any fx X u W gX hs; rw [hrt] at this; exact this
  have R2 : Hid (∀ u W, BinSl W u X → Calls Try.prog 20 #[.agg #[.int .i64 fx, u]] W fun e w' => e = .returned (.bool rt) ∧ Below W.heap.size W w') := fun u W hs => by have := pRight9_any fx X u W hs (by omega); rw [hrt] at this; exact this
  have B1 : Hid (∀ W, Calls Try.prog 13 #[.int .i64 f, .int .i64 at'] W fun e w' => e = .returned (.tuple #[gV ba, gV bb, .bool bo]) ∧ Below W.heap.size W w') := fun W => by have := gBounds_any f at' W hf ha; rw [hbo] at this; exact this
  have B2 : Hid (∀ W, Calls Try.prog 14 #[.int .i64 f, .int .i64 at'] W fun e w' => e = .returned (.tuple #[gV ba, gV bb, .bool bo]) ∧ Below W.heap.size W w') := fun W => by have := pBounds_bel f at' W; rw [hbo] at this; exact this
  have C1 : Hid (∀ W, Calls Try.prog 17 #[.int .i64 f, gV v] W fun e w' => e = .returned (.int .i64 (bk : Int)) ∧ Below W.heap.size W w') := fun W => by have := gBucket_any f v W hf hvt; rw [hbk] at this; exact this
  have C2 : Hid (∀ W, Calls Try.prog 18 #[.int .i64 f, gV v] W fun e w' => e = .returned (.int .i64 (bk : Int)) ∧ Below W.heap.size W w') := fun W => by have := pBucket_bel f v W hvt; rw [hbk] at this; exact this
  have S1 : Hid (∀ u t W, BinSl W u K1 → BinSl W t K1 → Calls Try.prog 21 #[.agg #[.int .i64 r1, u], .agg #[.int .i64 r1, t]] W fun e w' => e = .returned (.bool true) ∧ Below W.heap.size W w') := fun u t W hu ht => by have := pSame9_refl r1 K1 l1 u t W hu ht; exact this
  obtain ⟨a0, n0, c0, rfl⟩ := hv.form
  unfold hgV at F1 ⊢
  obtain ⟨w0, hw0, hb0, hz0, tx⟩ := atG_new w fx (.slice a0 n0 c0)
  clear hf hvt ha hfx hv hL hnn gX lX hXe l1 hP1 hrt hbk hbo
  go_enter Try.func3, Try.ntmps3
  go_wp2_with fail
  with_reducible refine (shown9_any _).mono ?_
  rintro e w1 ⟨rfl, hb⟩
  have hk := hb0.trans (hb.mono hb0.size)
  replace tx := tx.on hb
  clear hb hb0
  have k0 := tx.c0
  have k1 := tx.c1
  go_wp2_with fail
  with_reducible refine (F1.out _).mono ?_
  rintro e w20 ⟨⟨v20, rfl, z20⟩, hb⟩
  obtain ⟨a20, n20, c20, rfl⟩ := z20.form
  replace hk := hk.trans (hb.mono hk.size)
  replace tx := tx.on hb
  clear hb k0 k1
  have k0 := tx.c0
  have k1 := tx.c1
  have f0 := HasC.frozen tx 0
  have f1 := HasC.frozen tx 1
  have tn := AtG.put (g := fx) (u := .slice a20 n20 c20) tx
  have hn := (hk.setCell (p := ⟨w.heap.size, 0, none⟩) (by simp) (.int .i64 fx)).setCell (p := ⟨w.heap.size, 1, none⟩) (by simp) (.slice a20 n20 c20)
  obtain ⟨w21, hw21⟩ : ∃ W', (w20.setCell ⟨w.heap.size, 0, none⟩ (.int .i64 fx)).setCell ⟨w.heap.size, 1, none⟩ (.slice a20 n20 c20) = W' := ⟨_, rfl⟩
  rw [hw21] at tn hn
  have sx := z20.below hn
  have hx := z20
  replace tx : AtG w21 (w.heap.size) fx (.slice a20 n20 c20) := tn
  replace hk := hn
  clear hn tn z20
  clear hx
  go_wp2_with fail
  with_reducible refine (B1.out _).mono ?_
  rintro e w22 ⟨rfl, hb⟩
  replace hk := hk.trans (hb.mono hk.size)
  replace sx := sx.below hb
  replace tx := tx.on hb
  clear hb 
  clear k0 k1 f0 f1
  go_wp2_with fail
  with_reducible refine (B2.out _).mono ?_
  rintro e w23 ⟨rfl, hb⟩
  replace hk := hk.trans (hb.mono hk.size)
  replace sx := sx.below hb
  replace tx := tx.on hb
  clear hb 
  have kx0 := tx.c0
  have kx1 := tx.c1
  go_wp2_with fail
  with_reducible refine (A1.out _ _ sx).mono ?_
  rintro e w24 ⟨⟨v24, rfl, z24⟩, hb⟩
  obtain ⟨a24, n24, c24, rfl⟩ := z24.form
  replace hk := hk.trans (hb.mono hk.size)
  obtain ⟨w25, hw25, hb25, hz25, tp⟩ := atG_new w24 r1 (.slice a24 n24 c24)
  replace hk := hk.trans (hb25.mono hk.size)
  replace sx := (sx.below hb).below hb25
  replace tx := (tx.on hb).on hb25
  have sp := z24.below hb25
  clear hb hb25 z24 kx0 kx1
  have kx0 := tx.c0
  have kx1 := tx.c1
  go_wp2_with fail
  with_reducible refine (A2.out _ _ sx).mono ?_
  rintro e w26 ⟨⟨v26, rfl, z26⟩, hb⟩
  obtain ⟨a26, n26, c26, rfl⟩ := z26.form
  replace hk := hk.trans (hb.mono hk.size)
  obtain ⟨w27, hw27, hb27, hz27, tq⟩ := atG_new w26 r1 (.slice a26 n26 c26)
  replace hk := hk.trans (hb27.mono hk.size)
  replace sx := (sx.below hb).below hb27
  replace tx := (tx.on hb).on hb27
  replace sp := (sp.below hb).below hb27
  replace tp := (tp.on hb).on hb27
  have sq := z26.below hb27
  clear hb hb27 z26 kx0 kx1
  obtain ⟨D, hD0, hDon, hDk⟩ : ∃ D : World → Prop, D w27 ∧ (∀ W W', D W → Below W.heap.size W W' → D W') ∧ ∀ W, D W → AtG W (w.heap.size) fx (.slice a20 n20 c20) ∧ BinSl W (.slice a20 n20 c20) X ∧ AtG W (w24.heap.size) r1 (.slice a24 n24 c24) ∧ BinSl W (.slice a24 n24 c24) K1 ∧ AtG W (w26.heap.size) r1 (.slice a26 n26 c26) ∧ BinSl W (.slice a26 n26 c26) K1 ∧ Below w.heap.size w W :=
    ⟨fun W => AtG W (w.heap.size) fx (.slice a20 n20 c20) ∧ BinSl W (.slice a20 n20 c20) X ∧ AtG W (w24.heap.size) r1 (.slice a24 n24 c24) ∧ BinSl W (.slice a24 n24 c24) K1 ∧ AtG W (w26.heap.size) r1 (.slice a26 n26 c26) ∧ BinSl W (.slice a26 n26 c26) K1 ∧ Below w.heap.size w W, ⟨tx, sx, tp, sp, tq, sq, hk⟩, fun W W' h hb => ⟨h.1.on hb, h.2.1.below hb, h.2.2.1.on hb, h.2.2.2.1.below hb, h.2.2.2.2.1.on hb, h.2.2.2.2.2.1.below hb, h.2.2.2.2.2.2.trans (hb.mono h.2.2.2.2.2.2.size)⟩, fun _ h => h⟩
  have Ex0 : ∀ i : InC D, i.w.cell? ⟨w.heap.size, 0, none⟩ = some (.int .i64 fx) := fun i => (hDk _ i.h).1.c0
  have Ex1 : ∀ i : InC D, i.w.cell? ⟨w.heap.size, 1, none⟩ = some (.slice a20 n20 c20) := fun i => (hDk _ i.h).1.c1
  have HNx := Lib.hid (fun W (hd : D W) => (hDk W hd).2.1)
  have Ep0 : ∀ i : InC D, i.w.cell? ⟨w24.heap.size, 0, none⟩ = some (.int .i64 r1) := fun i => (hDk _ i.h).2.2.1.c0
  have Ep1 : ∀ i : InC D, i.w.cell? ⟨w24.heap.size, 1, none⟩ = some (.slice a24 n24 c24) := fun i => (hDk _ i.h).2.2.1.c1
  have HNp := Lib.hid (fun W (hd : D W) => (hDk W hd).2.2.2.1)
  have Eq0 : ∀ i : InC D, i.w.cell? ⟨w26.heap.size, 0, none⟩ = some (.int .i64 r1) := fun i => (hDk _ i.h).2.2.2.2.1.c0
  have Eq1 : ∀ i : InC D, i.w.cell? ⟨w26.heap.size, 1, none⟩ = some (.slice a26 n26 c26) := fun i => (hDk _ i.h).2.2.2.2.1.c1
  have HNq := Lib.hid (fun W (hd : D W) => (hDk W hd).2.2.2.2.2.1)
  have HDK := Lib.hid (fun i : InC D => (hDk _ i.h).2.2.2.2.2.2)
  have HDON := Lib.hid hDon
  have HD0 := Lib.hid (hDon _ _ hD0 ((Below.refl _ _).drew))
  clear hD0 hDon hDk hk tx sx tp sp tq sq
  go_wp2_with fail
  refine region_class D (by kernel_rfl) (by kernel_rfl) HD0.out ?_
  intro hne
  repeat (go_big_quiet_step (first
    | (go_at_call 17; (with_reducible refine (C1.out _).mono ?_); rintro e w' ⟨rfl, hb⟩; exact ⟨rfl, ⟨_, HDON.out _ _ (InC.h _) hb⟩, rfl⟩)
    | (go_at_call 18; (with_reducible refine (C2.out _).mono ?_); rintro e w' ⟨rfl, hb⟩; exact ⟨rfl, ⟨_, HDON.out _ _ (InC.h _) hb⟩, rfl⟩)
    | (go_at_call 19; (with_reducible refine (R1.out _ _ ?_).mono ?_); exact HNx.out _ (InC.h _); rintro e w' ⟨rfl, hb⟩; exact ⟨rfl, ⟨_, HDON.out _ _ (InC.h _) hb⟩, rfl⟩)
    | (go_at_call 20; (with_reducible refine (R2.out _ _ ?_).mono ?_); exact HNx.out _ (InC.h _); rintro e w' ⟨rfl, hb⟩; exact ⟨rfl, ⟨_, HDON.out _ _ (InC.h _) hb⟩, rfl⟩)
    | (go_at_call 21; (with_reducible refine (S1.out _ _ _ ?_ ?_).mono ?_); exact HNp.out _ (InC.h _); exact HNq.out _ (InC.h _); rintro e w' ⟨rfl, hb⟩; exact ⟨rfl, ⟨_, HDON.out _ _ (InC.h _) hb⟩, rfl⟩)))
  refine wpQuiet_nil ?_
  intro i
  go_wp2_with fail
  go_ret
  exact ⟨by simp, HDK.out i⟩
end Go.Proofs.Ytpdedogdffolnaa
