
/- The page's own answers for layer 4: put (labels, and one more, by its name). -/
import Derived.Test.YtekmdgjkadglmaaLApp
namespace Go.Proofs.Ytekmdgjkadglmaa
open Go.RowKit

/-- Labels, and one more, ahead of the first that is not less. -/
def insL : List Lab → Lab → List Lab
  | [], x => [x]
  | a :: L, x => if Lib.compareBytes a.1.data.toList x.1.data.toList < 0 then a :: insL L x else x :: a :: L
theorem insL_len (L : List Lab) (x : Lab) : (insL L x).length = L.length + 1 := by
  induction L with
  | nil => rfl
  | cons a L ih =>
    unfold insL
    split
    · rw [List.length_cons, ih, List.length_cons]
    · rfl
theorem insL_drop (L : List Lab) (x : Lab) (k : Nat) (hk : k < L.length) : insL (L.drop k) x = if Lib.compareBytes L[k].1.data.toList x.1.data.toList < 0 then L[k] :: insL (L.drop (k + 1)) x else x :: L.drop k := by
  rw [List.drop_eq_getElem_cons hk]
  rfl

/-- A world in which the label to be put lies in its block. -/
def PutD (w : World) (x y : ByteArray) (V : World) : Prop := HasC V w.heap.size 37 #[.string x, .string y] ∧ Below w.heap.size w V
theorem PutD.on {w V V' : World} {x y : ByteArray} (h : PutD w x y V) (hb : Below V.heap.size V V') : PutD w x y V' := ⟨h.1.below hb h.1.lt, h.2.trans (hb.mono h.2.size)⟩

theorem put_owns {R L : List Lab} {x : Lab} {k n b : Nat} {v : Value} {W : World} (h : R = L.take k ++ x :: L.drop k) (hk : k ≤ n) (hn : n = L.length) (ho : W.ownsRow (b + 1) 37 2 v (0 + k + 1 + (n - k)) ([] ++ cellsL (L.take k) ++ cellsL [x] ++ cellsL (L.drop k))) :
    W.ownsRow b 37 2 v R.length (cellsL R) := by
  have e1 : cellsL R = [] ++ cellsL (L.take k) ++ cellsL [x] ++ cellsL (L.drop k) := by
    rw [h, show x :: L.drop k = [x] ++ L.drop k from rfl, cellsL_app, cellsL_app]
    simp
  have e2 : R.length = 0 + k + 1 + (n - k) := by
    rw [h, List.length_append, List.length_cons, List.length_take, List.length_drop]
    omega
  rw [e1, e2]
  exact ho.mono (by omega)

end Go.Proofs.Ytekmdgjkadglmaa
