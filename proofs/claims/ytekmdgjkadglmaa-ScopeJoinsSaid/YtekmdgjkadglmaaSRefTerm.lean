
/- The page's own answers for layer 5: term, terms. -/
import Derived.Test.YtekmdgjkadglmaaSRefQuote
namespace Go.Proofs.Ytekmdgjkadglmaa
open Go.RowKit

/-- A term's name and pattern. -/
def termB (s : ByteArray) : ByteArray × ByteArray := match cutEq s.data.toList with
  | some (a, b) => (⟨a.toArray⟩, ⟨b.toArray⟩)
  | none => ({ data := #[] }, { data := #[] })
theorem ba_of {l : List UInt8} {s : ByteArray} (h : s.data.toList = l) : (⟨l.toArray⟩ : ByteArray) = s := baL (by rw [h])
/-- A scope's terms: what stands between its semicolons. -/
def splitF (cur : List UInt8) : List UInt8 → List ByteArray
  | [] => [⟨cur.toArray⟩]
  | c :: t => if c = 59 then ⟨cur.toArray⟩ :: splitF [] t else splitF (cur ++ [c]) t
def termsL (s : ByteArray) : List ByteArray := splitF [] s.data.toList
theorem split_drop (l : List UInt8) (cur : List UInt8) (k : Nat) (hk : k < l.length) : splitF cur (l.drop k) = if l[k] = 59 then ⟨cur.toArray⟩ :: splitF [] (l.drop (k + 1)) else splitF (cur ++ [l[k]]) (l.drop (k + 1)) := by
  rw [List.drop_eq_getElem_cons hk]
  rfl
/-- What stands between two places. -/
theorem seg_more (l : List UInt8) (a k : Nat) (hk : k < l.length) (ha : a ≤ k) : (l.take (k + 1)).drop a = (l.take k).drop a ++ [l[k]] := by
  rw [List.take_succ_eq_append_getElem hk, List.drop_append_of_le_length (by rw [List.length_take]; omega)]
theorem seg_none (l : List UInt8) (k : Nat) : (l.take k).drop k = [] := List.drop_eq_nil_of_le (by rw [List.length_take]; omega)
end Go.Proofs.Ytekmdgjkadglmaa
