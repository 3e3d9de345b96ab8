
/- The page's own answers for layer 4: Right. -/
import Derived.Test.YtekmdgjkadglmaaLLab
namespace Go.Proofs.Ytekmdgjkadglmaa
open Go.RowKit

def aheadB : Option ByteArray → ByteArray → Bool
  | none, _ => true
  | some y, x => decide (Lib.compareBytes y.data.toList x.data.toList < 0)
def rightF : Option ByteArray → List Lab → Bool
  | _, [] => true
  | p, x :: L => (nameB x.1.data.toList && (valueB x.2.data.toList && aheadB p x.1)) && rightF (some x.1) L
/-- Are labels a set? -/
def rightB (L : List Lab) : Bool := rightF none L && (decide (1 ≤ L.length) && decide (L.length ≤ 6))
def prevL (L : List Lab) : Nat → Option ByteArray
  | 0 => none
  | k + 1 => L[k]?.map (·.1)
theorem rightF_drop (L : List Lab) (k : Nat) (hk : k < L.length) :
    rightF (prevL L k) (L.drop k) = ((nameB L[k].1.data.toList && (valueB L[k].2.data.toList && aheadB (prevL L k) L[k].1)) && rightF (prevL L (k + 1)) (L.drop (k + 1))) := by
  rw [List.drop_eq_getElem_cons hk]
  have : prevL L (k + 1) = some L[k].1 := by simp [prevL, hk]
  rw [this]
  rfl

end Go.Proofs.Ytekmdgjkadglmaa
