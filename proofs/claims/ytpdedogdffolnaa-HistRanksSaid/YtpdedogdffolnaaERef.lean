
/- The page's own answers for layer 6: Right, Has, Count, Numbers. -/
import Derived.Test.YtpdedogdffolnaaEBase
namespace Go.Proofs.Ytpdedogdffolnaa
open Go.RowKit

theorem rise_drop {L : List Nat} {k : Nat} (hk : k + 1 < L.length) : riseB (L.drop k) = (decide (L[k] < L[k + 1]) && riseB (L.drop (k + 1))) := by
  rw [List.drop_eq_getElem_cons (by omega), List.drop_eq_getElem_cons hk]
  rfl
theorem rise_end {L : List Nat} {k : Nat} (hk : L.length ≤ k + 1) : riseB (L.drop k) = true := by
  have : (L.drop k).length ≤ 1 := by rw [List.length_drop]; omega
  cases h : L.drop k with
  | nil => rfl
  | cons a t =>
    cases t with
    | nil => rfl
    | cons b t => rw [h] at this; simp at this
/-- A sketch in a box of its own. -/
theorem box_new (w : World) (v : Value) (T : Nat) : ∃ w1, w.alloc (Obj.cells #[v] T) = w1 ∧ Below w.heap.size w w1 ∧ ∀ W, Below w1.heap.size w1 W → W.cell? ⟨w.heap.size, 0, none⟩ = some v :=
  ⟨_, rfl, (Below.refl w.heap.size w).alloc (Nat.le_refl _) _, fun W hb => (hb.cell (p := ⟨w.heap.size, 0, none⟩) (by simp)).trans (World.cell?_alloc_at _ _ _ _ rfl)⟩
theorem nums_drop (A B : List Nat) (k : Nat) (ha : k < A.length) (hb : k < B.length) : (A.drop k = B.drop k) ↔ (A[k] = B[k] ∧ A.drop (k + 1) = B.drop (k + 1)) := by
  rw [List.drop_eq_getElem_cons ha, List.drop_eq_getElem_cons hb]
  exact List.cons_eq_cons
theorem has_drop {L : List Nat} {k : Nat} (n : Nat) (hk : k < L.length) : decide (n ∈ L.drop k) = (decide (L[k] = n) || decide (n ∈ L.drop (k + 1))) := by
  rw [List.drop_eq_getElem_cons hk, ← Bool.decide_or]
  exact decide_eq_decide.2 ⟨fun h => by rcases List.mem_cons.1 h with h | h; exact .inl h.symm; exact .inr h, fun h => by rcases h with h | h; exact List.mem_cons.2 (.inl h.symm); exact List.mem_cons.2 (.inr h)⟩
end Go.Proofs.Ytpdedogdffolnaa
