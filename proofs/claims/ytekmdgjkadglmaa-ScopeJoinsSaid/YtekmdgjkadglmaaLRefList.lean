
/- The page's own answers for layer 4: List, Runes, isName, isValue. -/
import Derived.Test.YtekmdgjkadglmaaLRefSize
namespace Go.Proofs.Ytekmdgjkadglmaa
open Go.RowKit

theorem infoS : (Try.prog.info? 9).map (fun i => (i.zero, i.size, i.bytes)) = some (some (.string { data := #[] }), 1, 16) := by kernel_rfl
theorem partsL {i : Option TypeInfo} {z : Value} {n b : Nat} (h : i.map (fun i => (i.zero, i.size, i.bytes)) = some (some z, n, b)) : ∃ j, i = some j ∧ j.zero = some z ∧ j.size = n ∧ j.bytes = b := by
  cases i with
  | none => cases h
  | some j => exact ⟨j, rfl, by simp at h; exact h⟩
def sizeVL : Value → Nat
  | .string x => x.size
  | _ => 0
/-- What List and Runes answer. -/
def RunesOut (s : ByteArray) : Value := match cntL s.data.toList with
  | some n => .tuple #[.int .i64 (n : Int), .bool true]
  | none => .tuple #[.int .i64 0, .bool false]

end Go.Proofs.Ytekmdgjkadglmaa
