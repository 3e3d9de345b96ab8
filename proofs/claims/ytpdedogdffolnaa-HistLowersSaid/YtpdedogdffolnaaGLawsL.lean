/- The statements' walks, stage 9: HistLowers. -/
import Derived.Test.YtpdedogdffolnaaGItm
namespace Go.Proofs.Ytpdedogdffolnaa
open Go.RowKit

theorem cnt_true (k j : Nat) (l : List (Nat × Nat)) : cntG k (fun _ => true) l = cntG j (fun _ => true) l := by
  induction l with
  | nil => rfl
  | cons x t ih => simp only [cntG, ih]
set_option maxHeartbeats 16000000 in
set_option maxRecDepth 100000 in
theorem lawLowers9_any (f : Int) (L : List (Nat × Nat)) (v : Value) (w : World) (hv : ItmSl w v L) (hn : L.length ≤ maxLen) (hl : ∀ x ∈ L, x.1 ≤ topN ∧ x.2 ≤ topN) :
    Calls Try.prog 7 #[.int .i64 f, v] w fun e w' => e = .returned (.bool true) ∧ Below w.heap.size w w' := by
  by_cases hlo : f < 1
  · clear hv hn hl
    go_enter Try.func7, Try.ntmps7
    go_wp2_with fail
    with_reducible refine (shown9_any _).mono ?_
    rintro e w1 ⟨rfl, hk⟩
    go_wp2_with fail
    go_ret
    exact ⟨rfl, hk⟩
  by_cases hhi : 3 < f
  · clear hv hn hl
    go_enter Try.func7, Try.ntmps7
    go_wp2_with fail
    with_reducible refine (shown9_any _).mono ?_
    rintro e w1 ⟨rfl, hk⟩
    go_wp2_with fail
    go_ret
    exact ⟨rfl, hk⟩
  unfold maxLen at hn
  obtain ⟨n, hnn⟩ : ∃ n, n = L.length := ⟨_, rfl⟩
  obtain ⟨m, q1, q2, q3, q4⟩ := min_ofG 100 100 rfl n
  have q5 : min (n : Int) 100 = (m : Int) := by have := q4.out; omega
  obtain ⟨src, hr, hs⟩ := itm_take hv m (by omega)
  have hI : ItOk (L.take m) := ⟨by rw [List.length_take]; omega, itm_mem hl⟩
  obtain ⟨ao, cp, rfl, _⟩ := hv.shape
  obtain ⟨l, hl0⟩ : ∃ l, l = L.take m := ⟨_, rfl⟩
  rw [← hnn] at hr ⊢
  rw [← hl0] at hs hI
  have HS := Lib.hid hs
  obtain ⟨a0, n0, c0, rfl⟩ : ∃ a n c, src = .slice a n c := by obtain ⟨a, c, h, _⟩ := hs.shape; exact ⟨_, _, _, h⟩
  obtain ⟨k, hkf⟩ : ∃ k : Nat, ((k + 1 : Nat) : Int) = f := ⟨(f - 1).toNat, by omega⟩
  have hk3 : k + 1 ≤ 3 := by omega
  have hw : IntKind.i64.wrap (f - 1) = (k : Int) := by rw [wrapK9 _ (by omega) (by omega)]; omega
  have hwi : f - 1 = (k : Int) := by omega
  have O1 := Lib.hid (fun W hs => kOf9 hk3 l (.slice a0 n0 c0) W hs hI)
  have O2 := Lib.hid (fun W hs => kOf9 (show k ≤ 3 by omega) l (.slice a0 n0 c0) W hs hI)
  have L1 := Lib.hid (fun u W hs => kLower9 hk3 hI u W hs)
  have S1 := Lib.hid (fun u t W hs ht => kSame9 (show k ≤ 3 by omega) hI hI rfl u t W hs ht)
  have T1 := Lib.hid (fun u W hs => kTotal9 (show k ≤ 3 by omega) hI u W hs)
  have T2 := Lib.hid (fun u W hs => kTotal9 hk3 hI u W hs)
  rw [cnt_true (k + 1) k] at T2
  rw [hkf] at O1 L1 T2
  obtain ⟨S, hS⟩ : ∃ S, min (cntG k (fun _ => true) l) topN = S := ⟨_, rfl⟩
  rw [hS] at T1 T2
  obtain ⟨K1, hK1⟩ : ∃ K, ofG (k + 1) l = K := ⟨_, rfl⟩
  rw [hK1] at O1 L1 T2
  obtain ⟨K2, hK2⟩ : ∃ K, ofG k l = K := ⟨_, rfl⟩
  rw [hK2] at O2 L1 S1 T1
  unfold hgV at O1 O2 L1 S1 T1 T2
  clear hs hv hl hl0 hnn hI hkf hk3 hS hK1 hK2
  go_enter Try.func7, Try.ntmps7
  go_wp2_with fail
  with_reducible refine (shown9_any _).mono ?_
  rintro e w1 ⟨rfl, hk⟩
  have si := HS.out.below hk
  go_wp2_with fail
  with_reducible refine (O1.out _ si).mono ?_
  rintro e w2 ⟨⟨v2, rfl, z2⟩, hb⟩
  obtain ⟨a2, n2, c2, rfl⟩ := z2.form
  replace hk := hk.trans (hb.mono hk.size)
  obtain ⟨w3, hw3, hb3, hz3, tx⟩ := atG_new w2 f (.slice a2 n2 c2)
  replace hk := hk.trans (hb3.mono hk.size)
  replace si := (si.below hb).below hb3
  have sx := z2.below hb3
  clear hb hb3 z2 
  go_wp2_with fail
  with_reducible refine (O2.out _ si).mono ?_
  rintro e w4 ⟨⟨v4, rfl, z4⟩, hb⟩
  obtain ⟨a4, n4, c4, rfl⟩ := z4.form
  replace hk := hk.trans (hb.mono hk.size)
  obtain ⟨w5, hw5, hb5, hz5, ty⟩ := atG_new w4 k (.slice a4 n4 c4)
  replace hk := hk.trans (hb5.mono hk.size)
  replace sx := (sx.below hb).below hb5
  replace tx := (tx.on hb).on hb5
  replace si := (si.below hb).below hb5
  have sy := z4.below hb5
  clear hb hb5 z4 
  clear si
  have kx0 := tx.c0
  have kx1 := tx.c1
  go_wp2_with fail
  with_reducible refine (L1.out _ _ sx).mono ?_
  rintro e w6 ⟨⟨v6, rfl, z6⟩, hb⟩
  obtain ⟨a6, n6, c6, rfl⟩ := z6.form
  replace hk := hk.trans (hb.mono hk.size)
  obtain ⟨w7, hw7, hb7, hz7, tz⟩ := atG_new w6 k (.slice a6 n6 c6)
  replace hk := hk.trans (hb7.mono hk.size)
  replace sx := (sx.below hb).below hb7
  replace tx := (tx.on hb).on hb7
  replace sy := (sy.below hb).below hb7
  replace ty := (ty.on hb).on hb7
  have sz := z6.below hb7
  clear hb hb7 z6 kx0 kx1
  obtain ⟨D, hD0, hDon, hDk⟩ : ∃ D : World → Prop, D w7 ∧ (∀ W W', D W → Below W.heap.size W W' → D W') ∧ ∀ W, D W → AtG W (w2.heap.size) f (.slice a2 n2 c2) ∧ BinSl W (.slice a2 n2 c2) K1 ∧ AtG W (w4.heap.size) k (.slice a4 n4 c4) ∧ BinSl W (.slice a4 n4 c4) K2 ∧ AtG W (w6.heap.size) k (.slice a6 n6 c6) ∧ BinSl W (.slice a6 n6 c6) K2 ∧ Below w.heap.size w W :=
    ⟨fun W => AtG W (w2.heap.size) f (.slice a2 n2 c2) ∧ BinSl W (.slice a2 n2 c2) K1 ∧ AtG W (w4.heap.size) k (.slice a4 n4 c4) ∧ BinSl W (.slice a4 n4 c4) K2 ∧ AtG W (w6.heap.size) k (.slice a6 n6 c6) ∧ BinSl W (.slice a6 n6 c6) K2 ∧ Below w.heap.size w W, ⟨tx, sx, ty, sy, tz, sz, hk⟩, fun W W' h hb => ⟨h.1.on hb, h.2.1.below hb, h.2.2.1.on hb, h.2.2.2.1.below hb, h.2.2.2.2.1.on hb, h.2.2.2.2.2.1.below hb, h.2.2.2.2.2.2.trans (hb.mono h.2.2.2.2.2.2.size)⟩, fun _ h => h⟩
  have Ex0 : ∀ i : InC D, i.w.cell? ⟨w2.heap.size, 0, none⟩ = some (.int .i64 f) := fun i => (hDk _ i.h).1.c0
  have Ex1 : ∀ i : InC D, i.w.cell? ⟨w2.heap.size, 1, none⟩ = some (.slice a2 n2 c2) := fun i => (hDk _ i.h).1.c1
  have HNx := Lib.hid (fun W (hd : D W) => (hDk W hd).2.1)
  have Ey0 : ∀ i : InC D, i.w.cell? ⟨w4.heap.size, 0, none⟩ = some (.int .i64 k) := fun i => (hDk _ i.h).2.2.1.c0
  have Ey1 : ∀ i : InC D, i.w.cell? ⟨w4.heap.size, 1, none⟩ = some (.slice a4 n4 c4) := fun i => (hDk _ i.h).2.2.1.c1
  have HNy := Lib.hid (fun W (hd : D W) => (hDk W hd).2.2.2.1)
  have Ez0 : ∀ i : InC D, i.w.cell? ⟨w6.heap.size, 0, none⟩ = some (.int .i64 k) := fun i => (hDk _ i.h).2.2.2.2.1.c0
  have Ez1 : ∀ i : InC D, i.w.cell? ⟨w6.heap.size, 1, none⟩ = some (.slice a6 n6 c6) := fun i => (hDk _ i.h).2.2.2.2.1.c1
  have HNz := Lib.hid (fun W (hd : D W) => (hDk W hd).2.2.2.2.2.1)
  have HDK := Lib.hid (fun i : InC D => (hDk _ i.h).2.2.2.2.2.2)
  have HDON := Lib.hid hDon
  have HD0 := Lib.hid (hDon _ _ hD0 ((Below.refl _ _).drew))
  clear hD0 hDon hDk hk tx sx ty sy tz sz
  go_wp2_with fail
  refine region_class D (by kernel_rfl) (by kernel_rfl) HD0.out ?_
  intro hne
  repeat (go_big_quiet_step (first
    | (go_at_call 32; (with_reducible refine (S1.out _ _ _ ?_ ?_).mono ?_); exact HNy.out _ (InC.h _); exact HNz.out _ (InC.h _); rintro e w' ⟨rfl, hb⟩; exact ⟨rfl, ⟨_, HDON.out _ _ (InC.h _) hb⟩, rfl⟩)
    | (go_at_call 28; (with_reducible refine (T1.out _ _ ?_).mono ?_); exact HNy.out _ (InC.h _); rintro e w' ⟨rfl, hb⟩; exact ⟨rfl, ⟨_, HDON.out _ _ (InC.h _) hb⟩, rfl⟩)
    | (go_at_call 28; (with_reducible refine (T2.out _ _ ?_).mono ?_); exact HNx.out _ (InC.h _); rintro e w' ⟨rfl, hb⟩; exact ⟨rfl, ⟨_, HDON.out _ _ (InC.h _) hb⟩, rfl⟩)))
  refine wpQuiet_nil ?_
  intro i
  go_wp2_with fail
  go_ret
  exact ⟨rfl, HDK.out i⟩
end Go.Proofs.Ytpdedogdffolnaa
