/- The statements' walks, stage 8: what is shown, the first of the counters, counters of items. -/
import Derived.Test.YthhlofcmhnkcmaaCCSa
import Derived.Test.YthhlofcmhnkcmaaCFrame
import Derived.TacticsInMore
import Derived.LoopNIn
import Derived.LoopIn
namespace Go.Proofs.Ythhlofcmhnkcmaa
open Go.RowKit

theorem min_of (b : Nat) (i : Int) (hb : i = b) (n : Nat) : ∃ m : Nat, (if i < (n : Int) then i else (n : Int)) = (m : Int) ∧ m ≤ n ∧ m ≤ b ∧ Hid (m = min b n) := ⟨min b n, by split <;> omega, by omega, by omega, rfl⟩
theorem take_min (L : List Nat) (b : Nat) : L.take (min b L.length) = L.take b := by
  rcases Nat.le_total b L.length with h | h
  · rw [Nat.min_eq_left h]
  · rw [Nat.min_eq_right h, List.take_of_length_le (Nat.le_refl _), List.take_of_length_le h]
def FewC (w : World) (r c : Int) (v : Value) (W : World) : Prop := HasC W w.heap.size 24 #[.int .i64 r, .int .i64 c, v] ∧ HasC W (w.heap.size + 1) 24 #[.int .i64 0, .int .i64 0, .slice none 0 0] ∧ Below w.heap.size w W
theorem FewC.new (w : World) (r c : Int) (v : Value) : FewC w r c v ((w.alloc (Obj.cells #[.int .i64 r, .int .i64 c, v] 24)).alloc (Obj.cells #[.int .i64 0, .int .i64 0, .slice none 0 0] 24)).drew :=
  ⟨((HasC.new w _ _).alloc _).drew, (HasC.at_ _ _ _ (by simp)).drew, (((Below.refl w.heap.size w).alloc (Nat.le_refl _) _).alloc (by simp) _).drew⟩
set_option maxHeartbeats 4000000 in
set_option maxRecDepth 100000 in
theorem few8x_any (r c : Int) (L : List Nat) (v : Value) (w0 w : World) (h : NumSl w0 v L) (_hn : L.length ≤ maxLen) :
    Calls Try.prog 11 #[cV r c v] w fun e w' => (∃ v', e = .returned (cV r c v') ∧ NumSl w0 v' (L.take 200)) ∧ Below w.heap.size w w' := by
  obtain ⟨ao, cp, rfl, _⟩ := h.shape
  obtain ⟨n, hnn⟩ : ∃ n, n = L.length := ⟨_, rfl⟩
  rw [← hnn] at _hn ⊢
  unfold maxLen at _hn
  obtain ⟨m, q1, q2, q3, q4⟩ := min_of 200 200 rfl n
  have q5 : min (n : Int) 200 = (m : Int) := by have := q4.out; omega
  obtain ⟨src, hr, hs⟩ := num_take h m (by omega)
  rw [← hnn] at hr
  have h4 : L.take m = L.take 200 := by rw [q4.out, hnn, take_min]
  have H4 := Lib.hid h4
  have HT := Lib.hid hs
  obtain ⟨ao3, c3, rfl, _⟩ := hs.shape
  rw [List.length_take, Nat.min_eq_left (by omega)] at hr HT
  have HF := Lib.hid (FewC.new w r c (.slice ao n cp))
  clear h hs h4 hnn
  unfold cV
  go_enter Try.func11, Try.ntmps11
  go_wp2_with fail
  refine region_tail 12 (FewC w r c (.slice ao n cp)) (by kernel_rfl) (by kernel_rfl) HF.out ?_
  intro hne
  have e0 : ∀ i : InC (FewC w r c (.slice ao n cp)), i.w.cell? ⟨w.heap.size, 0, none⟩ = some (.int .i64 r) := fun i => i.h.1.cell 0
  have e1 : ∀ i : InC (FewC w r c (.slice ao n cp)), i.w.cell? ⟨w.heap.size, 1, none⟩ = some (.int .i64 c) := fun i => i.h.1.cell 1
  have e2 : ∀ i : InC (FewC w r c (.slice ao n cp)), i.w.cell? ⟨w.heap.size, 2, none⟩ = some (.slice ao n cp) := fun i => i.h.1.cell 2
  simp only [List.take_succ_cons, List.take_zero, List.drop_succ_cons, List.drop_zero]
  repeat (go_big_quiet_step (fail))
  refine wpQuiet_nil ?_
  clear e0 e1 e2 hne
  rintro ⟨w3, hC3⟩
  dsimp only
  have d0 : w3.cell? ⟨w.heap.size + 1, 0, none⟩ = some (.int .i64 0) := hC3.2.1.cell 0
  have d1 : w3.cell? ⟨w.heap.size + 1, 1, none⟩ = some (.int .i64 0) := hC3.2.1.cell 1
  have d2 : w3.cell? ⟨w.heap.size + 1, 2, none⟩ = some (.slice none 0 0) := hC3.2.1.cell 2
  have z0 := hC3.2.1.frozen 0
  have z1 := hC3.2.1.frozen 1
  have z2 := hC3.2.1.frozen 2
  go_wp2_with fail
  have hr6 := (((hC3.2.1.set 0 (.int .i64 r)).set 1 (.int .i64 c)).set 2 (.slice ao3 m c3)).eq (cs' := #[.int .i64 r, .int .i64 c, .slice ao3 m c3]) rfl
  refine bodyPost_ret (result_cms rfl _ _ (w.heap.size + 1) _ _ _ rfl hr6) rfl ?_
  exact ⟨⟨_, rfl, by rw [← H4.out]; exact HT.out⟩, ((hC3.2.2.setCell (p := ⟨w.heap.size + 1, 0, none⟩) (by simp) _).setCell (p := ⟨w.heap.size + 1, 1, none⟩) (by simp) _).setCell (p := ⟨w.heap.size + 1, 2, none⟩) (by simp) _⟩
/-- A cell that holds counters. -/
def AtM (W : World) (b : Nat) (r c : Int) (v : Value) : Prop := HasC W b 24 #[.int .i64 r, .int .i64 c, v]
theorem AtM.on {W W' : World} {b : Nat} {r c : Int} {v : Value} (h : AtM W b r c v) (hb : Below W.heap.size W W') : AtM W' b r c v := HasC.below h hb (HasC.lt h)
theorem AtM.c0 {W : World} {b : Nat} {r c : Int} {v : Value} (h : AtM W b r c v) : W.cell? ⟨b, 0, none⟩ = some (.int .i64 r) := HasC.cell h 0
theorem AtM.c1 {W : World} {b : Nat} {r c : Int} {v : Value} (h : AtM W b r c v) : W.cell? ⟨b, 1, none⟩ = some (.int .i64 c) := HasC.cell h 1
theorem AtM.c2 {W : World} {b : Nat} {r c : Int} {v : Value} (h : AtM W b r c v) : W.cell? ⟨b, 2, none⟩ = some v := HasC.cell h 2
theorem AtM.put {W : World} {b : Nat} {r c r2 c2 : Int} {v u : Value} (h : AtM W b r c v) : AtM (((W.setCell ⟨b, 0, none⟩ (.int .i64 r2)).setCell ⟨b, 1, none⟩ (.int .i64 c2)).setCell ⟨b, 2, none⟩ u) b r2 c2 u := HasC.eq (((HasC.set h 0 (.int .i64 r2)).set 1 (.int .i64 c2)).set 2 u) rfl
theorem atM_new (W : World) (r c : Int) (v : Value) : ∃ W', W.alloc (Obj.cells #[.int .i64 r, .int .i64 c, v] 24) = W' ∧ Below W.heap.size W W' ∧ W'.heap.size = W.heap.size + 1 ∧ AtM W' W.heap.size r c v :=
  ⟨_, rfl, (Below.refl W.heap.size W).alloc (Nat.le_refl _) _, World.size_alloc _ _, HasC.new W _ _⟩
theorem NumSl.form {w : World} {v : Value} {L : List Nat} (h : NumSl w v L) : ∃ a n c, v = .slice a n c := by
  obtain ⟨a, c, h, _⟩ := h.shape
  exact ⟨_, _, _, h⟩
/-- Right rows and columns. -/
def OkN (a b : Nat) : Prop := 1 ≤ a ∧ a ≤ 4 ∧ (b = 4 ∨ b = 8 ∨ b = 16 ∨ b = 32)
theorem OkN.len {a b : Nat} (h : OkN a b) (l : List (Nat × Nat)) : (ofI a b l).length ≤ 200 := by
  rw [ofI_size]
  have := Nat.mul_le_mul h.2.1 (show b ≤ 32 by have := h.2.2; omega)
  omega
theorem kNew8 {a b : Nat} (h : OkN a b) (W : World) :
    Calls Try.prog 12 #[.int .i64 (a : Int), .int .i64 (b : Int)] W fun e w' => (∃ v, e = .returned (.tuple #[cV a b v, .int .i64 0]) ∧ NumF W.heap.size w' v (ofI a b [])) ∧ Below W.heap.size W w' :=
  (cNew_any a b W).mono fun e w' ⟨⟨v, he, hf⟩, hb⟩ => by
    rw [newCm_ok h.1 h.2.1 h.2.2] at he hf
    exact ⟨⟨v, he, hf⟩, hb⟩
theorem kNew_bad {r c : Int} (h : okC r c = false) (W : World) :
    Calls Try.prog 12 #[.int .i64 r, .int .i64 c] W fun e w' => (∃ v, e = .returned (.tuple #[cV 0 0 v, .int .i64 80]) ∧ NumF W.heap.size w' v []) ∧ Below W.heap.size W w' :=
  (cNew_any r c W).mono fun e w' ⟨⟨v, he, hf⟩, hb⟩ => by
    have e1 : newCm r c = badC := by unfold newCm; rw [h]; rfl
    rw [e1] at he hf
    exact ⟨⟨v, he, hf⟩, hb⟩
theorem kAdd8 {a b : Nat} (h : OkN a b) (l : List (Nat × Nat)) (x n : Nat) (hx : x ≤ topN) (hn : n ≤ topN) (v : Value) (W : World) (hv : NumSl W v (ofI a b l)) :
    Calls Try.prog 14 #[cV a b v, nV x, nV n] W fun e w' => (∃ v', e = .returned (.tuple #[cV a b v', .int .i64 0]) ∧ NumF W.heap.size w' v' (ofI a b (l ++ [(x, n)]))) ∧ Below W.heap.size W w' :=
  (cAdd_any a b _ v x n W hv (h.len l) (ofI_le a b l) hx hn).mono fun e w' ⟨⟨v', he, hf⟩, hb⟩ => by
    rw [addCm_of h.1 h.2.1 h.2.2] at he hf
    exact ⟨⟨v', he, hf⟩, hb⟩
theorem kMerge8 {a b : Nat} (h : OkN a b) (l m : List (Nat × Nat)) (v u : Value) (W : World) (hv : NumSl W v (ofI a b l)) (hu : NumSl W u (ofI a b m)) :
    Calls Try.prog 23 #[cV a b v, cV a b u] W fun e w' => (∃ v', e = .returned (.tuple #[cV a b v', .int .i64 0]) ∧ NumF W.heap.size w' v' (ofI a b (l ++ m))) ∧ Below W.heap.size W w' :=
  (cMerge_any a b _ v a b _ u W hv hu (h.len l) (h.len m) (ofI_le a b l) (ofI_le a b m)).mono fun e w' ⟨⟨v', he, hf⟩, hb⟩ => by
    rw [mergeCm_of h.1 h.2.1 h.2.2] at he hf
    exact ⟨⟨v', he, hf⟩, hb⟩
theorem kLower8 {a b : Nat} (h1 : 1 ≤ a) (h2 : a ≤ 4) (h3 : b = 4 ∨ b = 8 ∨ b = 16) (l : List (Nat × Nat)) (v : Value) (W : World) (hv : NumSl W v (ofI a (2 * b) l)) :
    Calls Try.prog 25 #[cV a ((2 * b : Nat) : Int) v] W fun e w' => (∃ v', e = .returned (.tuple #[cV a b v', .int .i64 0]) ∧ NumF W.heap.size w' v' (ofI a b l)) ∧ Below W.heap.size W w' :=
  (cLower_any a _ _ v W hv (OkN.len ⟨h1, h2, by omega⟩ l) (ofI_le _ _ l)).mono fun e w' ⟨⟨v', he, hf⟩, hb⟩ => by
    rw [lowerCm_of h1 h2 h3] at he hf
    exact ⟨⟨v', he, hf⟩, hb⟩
theorem kCount8 {a b : Nat} (h : OkN a b) (l : List (Nat × Nat)) (x : Nat) (hx : x ≤ topN) (v : Value) (W : World) (hv : NumSl W v (ofI a b l)) :
    Calls Try.prog 21 #[cV a b v, nV x] W fun e w' => e = .returned (nV (countL b (ofI a b l) x a)) ∧ Below W.heap.size W w' :=
  (cCount_any a b _ v x W hv (h.len l) (ofI_le a b l) hx).mono fun e w' ⟨he, hb⟩ => by
    rw [countCm_of h.1 h.2.1 h.2.2] at he
    exact ⟨he, hb⟩
theorem kSame8 {a b : Nat} (h : OkN a b) (l m : List (Nat × Nat)) (hlm : ofI a b l = ofI a b m) (v u : Value) (W : World) (hv : NumSl W v (ofI a b l)) (hu : NumSl W u (ofI a b m)) :
    Calls Try.prog 27 #[cV a b v, cV a b u] W fun e w' => e = .returned (.bool true) ∧ Below W.heap.size W w' :=
  (cSame_any a b _ v a b _ u W hv hu (h.len l) (h.len m)).mono fun e w' ⟨he, hb⟩ => by
    have e1 : sameCm a b (ofI a b l) a b (ofI a b m) = true := by unfold sameCm; rw [hlm]; simp
    rw [e1] at he
    exact ⟨he, hb⟩
theorem kRight8 {a b : Nat} (h : OkN a b) (l : List (Nat × Nat)) (v : Value) (W : World) (hv : NumSl W v (ofI a b l)) :
    Calls Try.prog 16 #[cV a b v] W fun e w' => e = .returned (.bool true) ∧ Below W.heap.size W w' :=
  (cRight_any a b _ v W hv (h.len l)).mono fun e w' ⟨he, hb⟩ => by
    rw [rightC_of h.1 h.2.1 h.2.2] at he
    exact ⟨he, hb⟩
end Go.Proofs.Ythhlofcmhnkcmaa
