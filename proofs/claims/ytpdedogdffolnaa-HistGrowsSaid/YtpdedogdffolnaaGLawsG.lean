/- The statements' walks, stage 9: HistGrows. -/
import Derived.Test.YtpdedogdffolnaaGItm
namespace Go.Proofs.Ytpdedogdffolnaa
open Go.RowKit

theorem cntG_mono {k : Nat} {p q : Int → Bool} (h : ∀ a, p a = true → q a = true) (l : List (Nat × Nat)) : cntG k p l ≤ cntG k q l := by
  induction l with
  | nil => exact Nat.le_refl _
  | cons x t ih =>
    simp only [cntG]
    have := h (bktP k x.1 : Int)
    cases hp : p (bktP k x.1 : Int)
    · cases q (bktP k x.1 : Int) <;> simp <;> omega
    · rw [this hp]
      simp
      omega
set_option maxHeartbeats 16000000 in
set_option maxRecDepth 100000 in
theorem lawGrows9_any (f : Int) (L : List (Nat × Nat)) (v : Value) (y x : Nat) (w : World) (hv : ItmSl w v L) (hn : L.length ≤ maxLen) (hl : ∀ x ∈ L, x.1 ≤ topN ∧ x.2 ≤ topN) (hy : y ≤ topN) (hx : x ≤ topN) :
    Calls Try.prog 10 #[.int .i64 f, v, gV y, gV x] w fun e w' => e = .returned (.bool true) ∧ Below w.heap.size w w' := by
  by_cases hlo : f < 0
  · clear hv hn hl hy hx
    go_enter Try.func10, Try.ntmps10
    go_wp2_with fail
    with_reducible refine (shown9_any _).mono ?_
    rintro e w1 ⟨rfl, hk⟩
    go_wp2_with fail
    go_ret
    exact ⟨rfl, hk⟩
  by_cases hhi : 3 < f
  · clear hv hn hl hy hx
    go_enter Try.func10, Try.ntmps10
    go_wp2_with fail
    with_reducible refine (shown9_any _).mono ?_
    rintro e w1 ⟨rfl, hk⟩
    go_wp2_with fail
    go_ret
    exact ⟨rfl, hk⟩
  unfold maxLen at hn
  obtain ⟨n, hnn⟩ : ∃ n, n = L.length := ⟨_, rfl⟩
  obtain ⟨m, q1, q2, q3, q4⟩ := min_ofG 100 100 rfl n
  have q5 : min (n : Int) 100 = (m : Int) := by have := q4.out; omega
  obtain ⟨src, hr, hs⟩ := itm_take hv m (by omega)
  have hI : ItOk (L.take m) := ⟨by rw [List.length_take]; omega, itm_mem hl⟩
  obtain ⟨ao, cp, rfl, _⟩ := hv.shape
  obtain ⟨l, hl0⟩ : ∃ l, l = L.take m := ⟨_, rfl⟩
  rw [← hnn] at hr ⊢
  rw [← hl0] at hs hI
  have HS := Lib.hid hs
  obtain ⟨a0, n0, c0, rfl⟩ : ∃ a n c, src = .slice a n c := by obtain ⟨a, c, h, _⟩ := hs.shape; exact ⟨_, _, _, h⟩
  obtain ⟨mn, hmn1, hmn2⟩ : ∃ mn : Nat, (if (x : Int) < (y : Int) then (x : Int) else (y : Int)) = (mn : Int) ∧ mn ≤ y ∧ mn ≤ x := ⟨min y x, by split <;> omega, by omega, by omega⟩
  obtain ⟨mx, hmx1, hmx2⟩ : ∃ mx : Nat, (if (y : Int) < (x : Int) then (x : Int) else (y : Int)) = (mx : Int) ∧ y ≤ mx ∧ mx ≤ topN := ⟨max y x, by split <;> omega, by omega, by omega⟩
  have hm1 : min (y : Int) (x : Int) = (mn : Int) := by rw [← hmn1]; split <;> omega
  have hm2 : max (y : Int) (x : Int) = (mx : Int) := by rw [← hmx1]; split <;> omega
  have hm3 : (if x < y then (x : Int) else (y : Int)) = (mn : Int) := by rw [← hmn1]; split <;> split <;> omega
  have hm4 : (if y < x then (x : Int) else (y : Int)) = (mx : Int) := by rw [← hmx1]; split <;> split <;> omega
  obtain ⟨k, rfl⟩ : ∃ k : Nat, f = (k : Int) := ⟨f.toNat, by omega⟩
  have hk3 : k ≤ 3 := by omega
  have hll : l.length ≤ 100 := by rw [hl0, List.length_take]; omega
  have hI2 : ItOk (l ++ l) := ItOk.app hI hI (by omega)
  have O1 := Lib.hid (fun W hs => kOf9 hk3 l (.slice a0 n0 c0) W hs hI)
  have M1 := Lib.hid (fun u t W hs ht => kMerge9 hk3 hI hI u t W hs ht)
  have RN := Lib.hid (fun u W hs => kRank9 hk3 hI mn (by omega) u W hs)
  have RX := Lib.hid (fun u W hs => kRank9 hk3 hI mx (by omega) u W hs)
  have RV := Lib.hid (fun u W hs => kRank9 hk3 hI y hy u W hs)
  have RY := Lib.hid (fun u W hs => kRank9 hk3 hI2 y hy u W hs)
  have RT := Lib.hid (fun u W hs => kRank9 hk3 hI topN (Nat.le_refl _) u W hs)
  have T1 := Lib.hid (fun u W hs => kTotal9 hk3 hI u W hs)
  have hb1 : bktP k mn ≤ bktP k mx := bkt_mono (by omega)
  have c1 := cntG_mono (k := k) (p := fun a => decide (a ≤ (bktP k mn : Int))) (q := fun a => decide (a ≤ (bktP k mx : Int))) (fun a h => decide_eq_true (by have := of_decide_eq_true h; omega)) l
  have c2 := cntG_mono (k := k) (p := fun a => decide (a ≤ (bktP k mx : Int))) (q := fun _ => true) (fun a h => rfl) l
  have c3 : min (cntG k (fun a => decide (a ≤ (bktP k y : Int))) (l ++ l)) topN = plusS (min (cntG k (fun a => decide (a ≤ (bktP k y : Int))) l) topN) (min (cntG k (fun a => decide (a ≤ (bktP k y : Int))) l) topN) := by
    rw [cntG_app]
    unfold plusS
    omega
  rw [c3] at RY
  rw [cnt_allG hI] at RT
  obtain ⟨va, hva⟩ : ∃ V, min (cntG k (fun a => decide (a ≤ (bktP k mn : Int))) l) topN = V := ⟨_, rfl⟩
  obtain ⟨vb, hvb⟩ : ∃ V, min (cntG k (fun a => decide (a ≤ (bktP k mx : Int))) l) topN = V := ⟨_, rfl⟩
  obtain ⟨vt, hvt⟩ : ∃ V, min (cntG k (fun _ => true) l) topN = V := ⟨_, rfl⟩
  obtain ⟨vy, hvy⟩ : ∃ V, min (cntG k (fun a => decide (a ≤ (bktP k y : Int))) l) topN = V := ⟨_, rfl⟩
  have j1 : va ≤ vb := by omega
  have j2 : vb ≤ vt := by omega
  have j3 : (va : Int) ≤ (vb : Int) := by omega
  have j4 : (vb : Int) ≤ (vt : Int) := by omega
  have P1 := Lib.hid (fun W => pPlus9_bel vy vy W (by rw [← hvy]; exact Nat.min_le_right _ _))
  rw [hva] at RN
  rw [hvb] at RX
  rw [hvy] at RV RY
  rw [hvt] at RT T1
  obtain ⟨v2, hv2⟩ : ∃ V, plusS vy vy = V := ⟨_, rfl⟩
  rw [hv2] at RY P1
  obtain ⟨K1, hK1⟩ : ∃ K, ofG k l = K := ⟨_, rfl⟩
  rw [hK1] at O1 M1 RN RX RV RT T1
  obtain ⟨K2, hK2⟩ : ∃ K, ofG k (l ++ l) = K := ⟨_, rfl⟩
  rw [hK2] at M1 RY
  unfold hgV at O1 M1 RN RX RV RY RT T1
  unfold gV at *
  simp only [show ((topN : Nat) : Int) = 18446744073709551615 from rfl] at RT
  clear hs hv hl hl0 hnn hI hI2 hk3 hK1 hK2 hb1 c1 c2 c3 hva hvb hvt hvy hv2 hy hx hmn2 hmx2 hll
  go_enter Try.func10, Try.ntmps10
  go_wp2_with fail
  with_reducible refine (shown9_any _).mono ?_
  rintro e w1 ⟨rfl, hk⟩
  have si := HS.out.below hk
  go_wp2_with fail
  with_reducible refine (O1.out _ si).mono ?_
  rintro e w2 ⟨⟨v2, rfl, z2⟩, hb⟩
  obtain ⟨a2, n2, c2, rfl⟩ := z2.form
  replace hk := hk.trans (hb.mono hk.size)
  obtain ⟨w3, hw3, hb3, hz3, tx⟩ := atG_new w2 k (.slice a2 n2 c2)
  replace hk := hk.trans (hb3.mono hk.size)
  replace si := (si.below hb).below hb3
  have sx := z2.below hb3
  clear hb hb3 z2 
  clear si
  have kx0 := tx.c0
  have kx1 := tx.c1
  go_wp2_with fail
  with_reducible refine (M1.out _ _ _ sx sx).mono ?_
  rintro e w4 ⟨⟨v4, rfl, z4⟩, hb⟩
  obtain ⟨a4, n4, c4, rfl⟩ := z4.form
  replace hk := hk.trans (hb.mono hk.size)
  obtain ⟨w5, hw5, hb5, hz5, ty⟩ := atG_new w4 k (.slice a4 n4 c4)
  replace hk := hk.trans (hb5.mono hk.size)
  replace sx := (sx.below hb).below hb5
  replace tx := (tx.on hb).on hb5
  have sy := z4.below hb5
  clear hb hb5 z4 kx0 kx1
  have kx0 := tx.c0
  have kx1 := tx.c1
  go_wp2_with fail
  with_reducible refine (RN.out _ _ sx).mono ?_
  rintro e w6 ⟨rfl, hb⟩
  replace hk := hk.trans (hb.mono hk.size)
  replace sx := sx.below hb
  replace tx := tx.on hb
  replace sy := sy.below hb
  replace ty := ty.on hb
  clear hb kx0 kx1
  have kx0 := tx.c0
  have kx1 := tx.c1
  go_wp2_with fail
  with_reducible refine (RX.out _ _ sx).mono ?_
  rintro e w7 ⟨rfl, hb⟩
  replace hk := hk.trans (hb.mono hk.size)
  replace sx := sx.below hb
  replace tx := tx.on hb
  replace sy := sy.below hb
  replace ty := ty.on hb
  clear hb kx0 kx1
  obtain ⟨D, hD0, hDon, hDk⟩ : ∃ D : World → Prop, D w7 ∧ (∀ W W', D W → Below W.heap.size W W' → D W') ∧ ∀ W, D W → AtG W (w2.heap.size) k (.slice a2 n2 c2) ∧ BinSl W (.slice a2 n2 c2) K1 ∧ AtG W (w4.heap.size) k (.slice a4 n4 c4) ∧ BinSl W (.slice a4 n4 c4) K2 ∧ Below w.heap.size w W :=
    ⟨fun W => AtG W (w2.heap.size) k (.slice a2 n2 c2) ∧ BinSl W (.slice a2 n2 c2) K1 ∧ AtG W (w4.heap.size) k (.slice a4 n4 c4) ∧ BinSl W (.slice a4 n4 c4) K2 ∧ Below w.heap.size w W, ⟨tx, sx, ty, sy, hk⟩, fun W W' h hb => ⟨h.1.on hb, h.2.1.below hb, h.2.2.1.on hb, h.2.2.2.1.below hb, h.2.2.2.2.trans (hb.mono h.2.2.2.2.size)⟩, fun _ h => h⟩
  have Ex0 : ∀ i : InC D, i.w.cell? ⟨w2.heap.size, 0, none⟩ = some (.int .i64 k) := fun i => (hDk _ i.h).1.c0
  have Ex1 : ∀ i : InC D, i.w.cell? ⟨w2.heap.size, 1, none⟩ = some (.slice a2 n2 c2) := fun i => (hDk _ i.h).1.c1
  have HNx := Lib.hid (fun W (hd : D W) => (hDk W hd).2.1)
  have Ey0 : ∀ i : InC D, i.w.cell? ⟨w4.heap.size, 0, none⟩ = some (.int .i64 k) := fun i => (hDk _ i.h).2.2.1.c0
  have Ey1 : ∀ i : InC D, i.w.cell? ⟨w4.heap.size, 1, none⟩ = some (.slice a4 n4 c4) := fun i => (hDk _ i.h).2.2.1.c1
  have HNy := Lib.hid (fun W (hd : D W) => (hDk W hd).2.2.2.1)
  have HDK := Lib.hid (fun i : InC D => (hDk _ i.h).2.2.2.2)
  have HDON := Lib.hid hDon
  have HD0 := Lib.hid (hDon _ _ hD0 ((Below.refl _ _).drew))
  clear hD0 hDon hDk hk tx sx ty sy
  go_wp2_with fail
  refine region_class D (by kernel_rfl) (by kernel_rfl) HD0.out ?_
  intro hne
  repeat (go_big_quiet_step (first
    | (go_at_call 28; (with_reducible refine (T1.out _ _ ?_).mono ?_); exact HNx.out _ (InC.h _); rintro e w' ⟨rfl, hb⟩; exact ⟨rfl, ⟨_, HDON.out _ _ (InC.h _) hb⟩, rfl⟩)
    | (go_at_call 30; (with_reducible refine (RY.out _ _ ?_).mono ?_); exact HNy.out _ (InC.h _); rintro e w' ⟨rfl, hb⟩; exact ⟨rfl, ⟨_, HDON.out _ _ (InC.h _) hb⟩, rfl⟩)
    | (go_at_call 30; (with_reducible refine (RV.out _ _ ?_).mono ?_); exact HNx.out _ (InC.h _); rintro e w' ⟨rfl, hb⟩; exact ⟨rfl, ⟨_, HDON.out _ _ (InC.h _) hb⟩, rfl⟩)
    | (go_at_call 30; (with_reducible refine (RT.out _ _ ?_).mono ?_); exact HNx.out _ (InC.h _); rintro e w' ⟨rfl, hb⟩; exact ⟨rfl, ⟨_, HDON.out _ _ (InC.h _) hb⟩, rfl⟩)
    | (go_at_call 34; (with_reducible refine (P1.out _).mono ?_); rintro e w' ⟨rfl, hb⟩; exact ⟨rfl, ⟨_, HDON.out _ _ (InC.h _) hb⟩, rfl⟩)))
  refine wpQuiet_nil ?_
  intro i
  go_wp2_with fail
  go_ret
  exact ⟨rfl, HDK.out i⟩
end Go.Proofs.Ytpdedogdffolnaa
