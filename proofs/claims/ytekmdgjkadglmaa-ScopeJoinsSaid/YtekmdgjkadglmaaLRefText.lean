
/- The page's own answers for layer 4: Text. -/
import Derived.Test.YtekmdgjkadglmaaLRefRight
namespace Go.Proofs.Ytekmdgjkadglmaa
open Go.RowKit

/-- A value's bytes in a text. -/
def escC (c : UInt8) : List UInt8 := if c = 44 ∨ c = 92 then [92, c] else [c]
def escL (l : List UInt8) : List UInt8 := l.flatMap escC
/-- A label's bytes; a set's. -/
def labL (x : Lab) : List UInt8 := x.1.data.toList ++ 61 :: escL x.2.data.toList
def joinL : List Lab → List UInt8
  | [] => []
  | [x] => labL x
  | x :: y :: L => labL x ++ 44 :: joinL (y :: L)
def textB (L : List Lab) : ByteArray := ⟨(joinL L).toArray⟩
def TextV (L : List Lab) : Value := if rightB L = true then .tuple #[.string (textB L), .int .i64 0] else .tuple #[.string { data := #[] }, .int .i64 40]
theorem esc_len : ∀ l : List UInt8, (escL l).length ≤ 2 * l.length := by
  intro l
  induction l with
  | nil => simp [escL]
  | cons c l ih =>
    have h1 : (escC c).length ≤ 2 := by unfold escC; split <;> simp
    have : escL (c :: l) = escC c ++ escL l := by simp [escL]
    rw [this, List.length_append, List.length_cons]
    omega
theorem esc_snoc (l : List UInt8) (c : UInt8) : escL (l ++ [c]) = escL l ++ escC c := by simp [escL]
theorem join_snoc (L : List Lab) (x : Lab) (h : L ≠ []) : joinL (L ++ [x]) = joinL L ++ 44 :: labL x := by
  induction L with
  | nil => exact absurd rfl h
  | cons y L ih =>
    cases L with
    | nil => rfl
    | cons z L =>
      show labL y ++ 44 :: joinL ((z :: L) ++ [x]) = labL y ++ 44 :: joinL (z :: L) ++ 44 :: labL x
      rw [ih (by simp)]
      simp
theorem lab_len (x : Lab) (h : x.1.size ≤ 3000 ∧ x.2.size ≤ 3000) : (labL x).length ≤ 9001 := by
  have := esc_len x.2.data.toList
  unfold labL
  rw [List.length_append, List.length_cons]
  simp at this ⊢
  omega
theorem join_len : ∀ L : List Lab, smallLb L → (joinL L).length ≤ 9002 * L.length := by
  intro L
  induction L with
  | nil => intro _; simp [joinL]
  | cons x L ih =>
    intro h
    have h1 := lab_len x (h x (List.mem_cons_self ..))
    have h2 := ih fun y hy => h y (List.mem_cons_of_mem _ hy)
    cases L with
    | nil => show (labL x).length ≤ _; simp; omega
    | cons z L =>
      show (labL x ++ 44 :: joinL (z :: L)).length ≤ _
      rw [List.length_append, List.length_cons, List.length_cons (a := x)]
      omega
theorem right_len {L : List Lab} (h : rightB L = true) : 1 ≤ L.length ∧ L.length ≤ 6 := by
  unfold rightB at h
  simp only [Bool.and_eq_true, decide_eq_true_eq] at h
  exact h.2
end Go.Proofs.Ytekmdgjkadglmaa
