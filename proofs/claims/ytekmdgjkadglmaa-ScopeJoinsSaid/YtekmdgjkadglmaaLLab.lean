
/- Lists of labels in memory. -/
import Derived.Test.YtekmdgjkadglmaaLRefName
namespace Go.Proofs.Ytekmdgjkadglmaa
open Go.RowKit

/-- A label: its name, its value. -/
abbrev Lab := ByteArray × ByteArray
/-- A list of labels, as it lies in memory. -/
def LblSl (w : World) (v : Value) (L : List Lab) : Prop :=
  (∃ a c, v = .slice a 0 c ∧ L = []) ∨ ∃ g o c, v = .slice (some ⟨g, o, none⟩) L.length c ∧ g < w.heap.size ∧
    ∀ j (hj : j < L.length), w.cell? ⟨g, o + j * 2, none⟩ = some (.string L[j].1) ∧ w.cell? ⟨g, o + j * 2 + 1, none⟩ = some (.string L[j].2)
theorem LblSl.below {w w' : World} {v : Value} {L : List Lab} (h : LblSl w v L) (hb : Below w.heap.size w w') : LblSl w' v L := by
  rcases h with h | ⟨g, o, c, hv, hg, hc⟩
  · exact .inl h
  · refine .inr ⟨g, o, c, hv, Nat.lt_of_lt_of_le hg hb.size, fun j hj => ?_⟩
    obtain ⟨h1, h2⟩ := hc j hj
    exact ⟨(hb.cell (p := ⟨g, o + j * 2, none⟩) hg).trans h1, (hb.cell (p := ⟨g, o + j * 2 + 1, none⟩) hg).trans h2⟩
/-- The value's shape, and each label. -/
theorem LblSl.shape {w : World} {v : Value} {L : List Lab} (h : LblSl w v L) : ∃ ao c, v = .slice ao L.length c ∧ ∀ j (hj : j < L.length),
    ∃ g o, ao = some ⟨g, o, none⟩ ∧ ∀ W : World, Below w.heap.size w W → W.cell? ⟨g, o + j * 2, none⟩ = some (.string L[j].1) ∧ W.cell? ⟨g, o + j * 2 + 1, none⟩ = some (.string L[j].2) := by
  rcases h with ⟨a, c, rfl, rfl⟩ | ⟨g, o, c, rfl, hg, hc⟩
  · exact ⟨a, c, rfl, fun j hj => absurd hj (by simp)⟩
  · refine ⟨_, _, rfl, fun j hj => ⟨g, o, rfl, fun W hb => ?_⟩⟩
    obtain ⟨h1, h2⟩ := hc j hj
    exact ⟨(hb.cell (p := ⟨g, o + j * 2, none⟩) hg).trans h1, (hb.cell (p := ⟨g, o + j * 2 + 1, none⟩) hg).trans h2⟩
theorem ba_ne {a b : ByteArray} (h : a ≠ b) : (a.toList == b.toList) = false := by
  have : ¬ a.toList = b.toList := fun e => h (baL (by simpa [ByteArray.toList_eq] using e))
  simpa using this
theorem ba_eq {a b : ByteArray} (h : a = b) : (a.toList == b.toList) = true := by subst h; simp

/-- The value of the first label of a name. -/
def getLb : List Lab → ByteArray → Option ByteArray
  | [], _ => none
  | x :: L, nm => if x.1 = nm then some x.2 else getLb L nm
def GetV (L : List Lab) (nm : ByteArray) : Value := match getLb L nm with
  | some v => .tuple #[.string v, .bool true]
  | none => .tuple #[.string { data := #[] }, .bool false]
theorem getLb_drop (L : List Lab) (nm : ByteArray) (k : Nat) (hk : k < L.length) : getLb (L.drop k) nm = if L[k].1 = nm then some L[k].2 else getLb (L.drop (k + 1)) nm := by
  rw [List.drop_eq_getElem_cons hk]
  rfl

/-- Two labels held against each other; two lists. -/
def cmpLab (x y : Lab) : Int := if Lib.compareBytes x.1.data.toList y.1.data.toList = 0 then Lib.compareBytes x.2.data.toList y.2.data.toList else Lib.compareBytes x.1.data.toList y.1.data.toList
def lessLb : List Lab → List Lab → Bool
  | [], [] => false
  | [], _ :: _ => true
  | _ :: _, [] => false
  | x :: a, y :: b => if cmpLab x y = 0 then lessLb a b else decide (cmpLab x y < 0)
theorem lessLb_drop (A B : List Lab) (k : Nat) (ha : k < A.length) (hb : k < B.length) :
    lessLb (A.drop k) (B.drop k) = if cmpLab A[k] B[k] = 0 then lessLb (A.drop (k + 1)) (B.drop (k + 1)) else decide (cmpLab A[k] B[k] < 0) := by
  rw [List.drop_eq_getElem_cons ha, List.drop_eq_getElem_cons hb]
  rfl
theorem lessLb_end (A B : List Lab) (k : Nat) (ha : k ≤ A.length) (hb : k ≤ B.length) (h : k = A.length ∨ k = B.length) : lessLb (A.drop k) (B.drop k) = decide (A.length < B.length) := by
  obtain ⟨x, hx⟩ : ∃ x, A.drop k = x := ⟨_, rfl⟩
  obtain ⟨y, hy⟩ : ∃ y, B.drop k = y := ⟨_, rfl⟩
  have e1 := congrArg List.length hx
  have e2 := congrArg List.length hy
  rw [List.length_drop] at e1 e2
  rw [hx, hy]
  cases x with
  | nil =>
    cases y with
    | nil => simp at e1 e2; simp [lessLb]; omega
    | cons c y => simp at e1 e2; simp [lessLb]; omega
  | cons c x =>
    cases y with
    | nil => simp at e1 e2; simp [lessLb]; omega
    | cons d y => simp at e1 e2; omega
/-- A world that has grown out of another. -/
def BelW (w V : World) : Prop := Below w.heap.size w V
theorem BelW.on {w V V' : World} (h : BelW w V) (hb : Below V.heap.size V V') : BelW w V' := Below.trans h (hb.mono h.size)
def smallLb (L : List Lab) : Prop := ∀ x ∈ L, x.1.size ≤ 3000 ∧ x.2.size ≤ 3000

theorem same_drop (A B : List Lab) (k : Nat) (ha : k < A.length) (hb : k < B.length) : (A.drop k = B.drop k) ↔ (A[k] = B[k] ∧ A.drop (k + 1) = B.drop (k + 1)) := by
  rw [List.drop_eq_getElem_cons ha, List.drop_eq_getElem_cons hb, List.cons.injEq]
end Go.Proofs.Ytekmdgjkadglmaa
