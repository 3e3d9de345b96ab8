/- The statements' walks, stage 8: counters of items, of rows and columns that may not be. -/
import Derived.Test.YthhlofcmhnkcmaaCOf
namespace Go.Proofs.Ythhlofcmhnkcmaa
open Go.RowKit

set_option maxHeartbeats 4000000 in
set_option maxRecDepth 100000 in
theorem kOf_bad {r c : Int} (hab : okC r c = false) (l : List (Nat × Nat)) (v : Value) (w : World) (hv : ItmSl w v l) (hn : l.length ≤ 1000) :
    Calls Try.prog 28 #[.int .i64 r, .int .i64 c, v] w fun e w' => (∃ v', e = .returned (.tuple #[cV 0 0 v', .int .i64 80]) ∧ NumF w.heap.size w' v' []) ∧ Below w.heap.size w w' := by
  have N1 := Lib.hid (fun W => kNew_bad hab W)
  obtain ⟨ao, cp, rfl, _⟩ := hv.shape
  obtain ⟨m, hm⟩ : ∃ m, m = l.length := ⟨_, rfl⟩
  rw [← hm] at hn ⊢
  unfold cV at N1 ⊢
  obtain ⟨w1, hw1, hb1, hz1, at1⟩ := atM_new w 0 0 (.slice none 0 0)
  have HB1 := Lib.hid hb1
  have HT1 := Lib.hid at1
  clear hv hm hb1 at1 hab
  go_enter Try.func28, Try.ntmps28
  go_wp2_with fail
  with_reducible refine (N1.out _).mono ?_
  rintro e w2 ⟨⟨v2, rfl, z2⟩, hb⟩
  obtain ⟨a2, n2, c2, rfl⟩ := z2.form
  obtain ⟨w3, hw3, hb3, hz3, at3⟩ := atM_new w2 0 0 (.slice a2 n2 c2)
  have hk2 := HB1.out.trans (hb.mono HB1.out.size)
  have hk3 := hk2.trans (hb3.mono hk2.size)
  have z3 := (z2.below hb3).mono (show w.heap.size + 1 ≤ _ by omega)
  have r3 := (HT1.out.on hb).on hb3
  have hlt3 : w.heap.size < w2.heap.size := by have := hb.size; omega
  clear hb hb3 z2 hk2
  go_wp2_with fail
  go_loopw [9, 10] (fun e i wr => e = .int .i64 80 ∧ i = .int .i64 0 ∧ AtM wr w2.heap.size 0 0 (.slice a2 n2 c2) ∧ NumF (w.heap.size + 1) wr (.slice a2 n2 c2) [] ∧ AtM wr w.heap.size 0 0 (.slice none 0 0) ∧ Below w.heap.size w wr) (fun _ _ _ => 0)
  case atStart => exact ⟨rfl, rfl, at3, z3, r3, hk3⟩
  case round =>
    obtain ⟨rfl, rfl, at4, z4, r4, hk4⟩ := hrel
    clear at3 z3 r3 hk3
    have x0 := at4.c0
    have x1 := at4.c1
    have x2 := at4.c2
    have HZ4 := Lib.hid z4
    have HR4 := Lib.hid r4
    have HK4 := Lib.hid hk4
    have d0 := r4.c0
    have d1 := r4.c1
    have d2 := r4.c2
    have f0 := HasC.frozen r4 0
    have f1 := HasC.frozen r4 1
    have f2 := HasC.frozen r4 2
    clear at4 z4 r4 hk4
    by_cases h0 : (0 : Int) < (m : Int)
    all_goals
      go_wp2_with fail
      refine bodyPost_ret (results_cms rfl _ _ w.heap.size _ _ _ rfl (HR4.out.put)) rfl ?_
      refine ⟨⟨_, rfl, ?_⟩, ((HK4.out.setCell (p := ⟨w.heap.size, 0, none⟩) (Nat.le_refl _) _).setCell (p := ⟨w.heap.size, 1, none⟩) (Nat.le_refl _) _).setCell (p := ⟨w.heap.size, 2, none⟩) (Nat.le_refl _) _⟩
      refine (HZ4.out.keep (by simp) fun j h1 h2 => ?_).mono (by omega)
      rw [Below.heap_setCell _ _ _ j (by simp; omega), Below.heap_setCell _ _ _ j (by simp; omega), Below.heap_setCell _ _ _ j (by simp; omega)]
end Go.Proofs.Ythhlofcmhnkcmaa
