/- The statements' walks, stage 8: counters of items. -/
import Derived.Test.YthhlofcmhnkcmaaCShown
namespace Go.Proofs.Ythhlofcmhnkcmaa
open Go.RowKit

set_option maxHeartbeats 4000000 in
set_option maxRecDepth 100000 in
theorem kOf8 {a b : Nat} (hab : OkN a b) (l : List (Nat × Nat)) (v : Value) (w : World) (hv : ItmSl w v l) (hn : l.length ≤ 1000) (hl : ∀ x ∈ l, x.1 ≤ topN ∧ x.2 ≤ topN) :
    Calls Try.prog 28 #[.int .i64 (a : Int), .int .i64 (b : Int), v] w fun e w' => (∃ v', e = .returned (.tuple #[cV a b v', .int .i64 0]) ∧ NumF w.heap.size w' v' (ofI a b l)) ∧ Below w.heap.size w w' := by
  have N1 := Lib.hid (fun W => kNew8 hab W)
  have A1 := Lib.hid (fun k (hk : k < l.length) v W hv => kAdd8 hab (l.take k) l[k].1 l[k].2 (hl _ (List.getElem_mem hk)).1 (hl _ (List.getElem_mem hk)).2 v W hv)
  obtain ⟨ao, cp, rfl, hcell⟩ := hv.shape
  have HCL := Lib.hid hcell
  obtain ⟨m, hm⟩ : ∃ m, m = l.length := ⟨_, rfl⟩
  have HM := Lib.hid hm
  rw [← hm] at hn ⊢
  unfold cV at N1 A1 ⊢
  obtain ⟨w1, hw1, hb1, hz1, at1⟩ := atM_new w 0 0 (.slice none 0 0)
  have HB1 := Lib.hid hb1
  have HT1 := Lib.hid at1
  clear hv hcell hm hl hb1 at1
  go_enter Try.func28, Try.ntmps28
  go_wp2_with fail
  with_reducible refine (N1.out _).mono ?_
  rintro e w2 ⟨⟨v2, rfl, z2⟩, hb⟩
  obtain ⟨a2, n2, c2, rfl⟩ := z2.form
  obtain ⟨w3, hw3, hb3, hz3, at3⟩ := atM_new w2 a b (.slice a2 n2 c2)
  have hk2 := HB1.out.trans (hb.mono HB1.out.size)
  have hk3 := hk2.trans (hb3.mono hk2.size)
  have z3 := (z2.below hb3).mono (show w.heap.size + 1 ≤ _ by omega)
  have r3 := (HT1.out.on hb).on hb3
  have hlt3 : w.heap.size < w2.heap.size := by have := hb.size; omega
  clear hb hb3 z2 hk2
  go_wp2_with fail
  go_loopw [9, 10] (fun e i wr => ∃ (k : Nat) (a' : Option Addr) (n' c' : Nat), k ≤ m ∧ e = .int .i64 0 ∧ i = .int .i64 (k : Int) ∧ AtM wr w2.heap.size a b (.slice a' n' c') ∧ NumF (w.heap.size + 1) wr (.slice a' n' c') (ofI a b (l.take k)) ∧ AtM wr w.heap.size 0 0 (.slice none 0 0) ∧ Below w.heap.size w wr) (fun _ i _ => m - (intOf i).toNat)
  case atStart => exact ⟨0, a2, n2, c2, Nat.zero_le _, rfl, rfl, at3, by rw [List.take_zero]; exact z3, r3, hk3⟩
  case round =>
    obtain ⟨k, a', n', c', hk, rfl, rfl, at4, z4, r4, hk4⟩ := hrel
    clear at3 z3 r3 hk3
    have x0 := at4.c0
    have x1 := at4.c1
    have x2 := at4.c2
    by_cases hlt : k < m
    · have hklt : (k : Int) < (m : Int) := by omega
      have hkl : k < l.length := by have := HM.out; omega
      obtain ⟨g, o, rfl, hgc⟩ := HCL.out k hkl
      obtain ⟨y0, y1⟩ := hgc wr hk4
      have C1 := Lib.hid (A1.out k hkl _ _ (z4.sl.below ((Below.refl _ _).drew)))
      have htk : l.take (k + 1) = l.take k ++ [(l[k].1, l[k].2)] := by rw [List.take_succ_eq_append_getElem hkl]
      rw [← htk] at C1
      have HT4 := Lib.hid at4
      have HR4 := Lib.hid r4
      have HK4 := Lib.hid hk4
      have hlt4 := HasC.lt at4
      obtain ⟨q0, hq0⟩ : ∃ q, q = l[k].1 := ⟨_, rfl⟩
      obtain ⟨q1, hq1⟩ : ∃ q, q = l[k].2 := ⟨_, rfl⟩
      rw [← hq0] at y0 C1
      rw [← hq1] at y1 C1
      clear at4 z4 r4 hk4 hgc htk hkl hq0 hq1
      go_wp2_with fail
      go_region_with ((go_at_call 14; (refine (C1.out).mono ?_); rintro e w8 ⟨⟨v8, rfl, z8⟩, hb8⟩; obtain ⟨a8, n8, c8, rfl⟩ := z8.form; have HK8 : Hid (Below wr.heap.size wr w8) := ((Below.refl wr.heap.size wr).drew).trans (hb8.mono (show wr.heap.size ≤ wr.drew.heap.size from Nat.le_refl _)); have HT8 := Lib.hid (HT4.out.on HK8.out); have HZ8 : Hid (NumF wr.heap.size w8 (.slice a8 n8 c8) (ofI a b (l.take (k + 1)))) := z8; have p0 := HT8.out.c0; have p1 := HT8.out.c1; have p2 := HT8.out.c2; have f0 := HasC.frozen HT8.out 0; have f1 := HasC.frozen HT8.out 1; have f2 := HasC.frozen HT8.out 2; clear hb8 z8))
      all_goals
        have hz8 := HK8.out.size
        have ht := HT8.out.put (r2 := (a : Int)) (c2 := (b : Int)) (u := .slice a8 n8 c8)
        have hr := ((HasC.far (HR4.out.on HK8.out) ⟨w2.heap.size, 0, none⟩ (.int .i64 (a : Int)) (by simp; omega)).far ⟨w2.heap.size, 1, none⟩ (.int .i64 (b : Int)) (by simp; omega)).far ⟨w2.heap.size, 2, none⟩ (.slice a8 n8 c8) (by simp; omega)
        have hb9 := (((HK4.out.trans (HK8.out.mono HK4.out.size)).setCell (p := ⟨w2.heap.size, 0, none⟩) (by simp; omega) (.int .i64 (a : Int))).setCell (p := ⟨w2.heap.size, 1, none⟩) (by simp; omega) (.int .i64 (b : Int))).setCell (p := ⟨w2.heap.size, 2, none⟩) (by simp; omega) (.slice a8 n8 c8)
        have hz9 : NumF (w.heap.size + 1) (((w8.setCell ⟨w2.heap.size, 0, none⟩ (.int .i64 (a : Int))).setCell ⟨w2.heap.size, 1, none⟩ (.int .i64 (b : Int))).setCell ⟨w2.heap.size, 2, none⟩ (.slice a8 n8 c8)) (.slice a8 n8 c8) (ofI a b (l.take (k + 1))) := by
          refine (HZ8.out.keep (by simp) fun j h1 h2 => ?_).mono (by omega)
          rw [Below.heap_setCell _ _ _ j (by simp; omega), Below.heap_setCell _ _ _ j (by simp; omega), Below.heap_setCell _ _ _ j (by simp; omega)]
        have HT9 := Lib.hid ht
        have HR9 := Lib.hid hr
        have HB9 := Lib.hid hb9
        have HZ9 := Lib.hid hz9
        clear ht hr hb9 hz9 p0 p1 p2 f0 f1 f2 x0 x1 x2 y0 y1
        go_wp2_with fail
        go_roundw
        case rel => exact ⟨k + 1, a8, n8, c8, by omega, rfl, by go_num, HT9.out, HZ9.out, HR9.out, HB9.out⟩
        case measure => simp [intOf]; omega
    · obtain rfl : k = m := by omega
      have hnk : ¬ (k : Int) < (k : Int) := by omega
      have htl : l.take k = l := List.take_of_length_le (by have := HM.out; omega)
      rw [htl] at z4
      have HZ4 := Lib.hid z4
      have HR4 := Lib.hid r4
      have HK4 := Lib.hid hk4
      have d0 := r4.c0
      have d1 := r4.c1
      have d2 := r4.c2
      have f0 := HasC.frozen r4 0
      have f1 := HasC.frozen r4 1
      have f2 := HasC.frozen r4 2
      clear at4 z4 r4 hk4 htl
      go_wp2_with fail
      refine bodyPost_ret (results_cms rfl _ _ w.heap.size _ _ _ rfl (HR4.out.put)) rfl ?_
      refine ⟨⟨_, rfl, ?_⟩, ((HK4.out.setCell (p := ⟨w.heap.size, 0, none⟩) (Nat.le_refl _) _).setCell (p := ⟨w.heap.size, 1, none⟩) (Nat.le_refl _) _).setCell (p := ⟨w.heap.size, 2, none⟩) (Nat.le_refl _) _⟩
      refine (HZ4.out.keep (by simp) fun j h1 h2 => ?_).mono (by omega)
      rw [Below.heap_setCell _ _ _ j (by simp; omega), Below.heap_setCell _ _ _ j (by simp; omega), Below.heap_setCell _ _ _ j (by simp; omega)]
end Go.Proofs.Ythhlofcmhnkcmaa
