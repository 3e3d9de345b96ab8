
/- The page's own answers for layer 4: isName, isValue. -/
import Derived.Test.YtekmdgjkadglmaaLRefList
namespace Go.Proofs.Ytekmdgjkadglmaa
open Go.RowKit

/-- A name's bytes; a name; a value's bytes; a value. -/
def nmB (c : UInt8) : Bool := decide (97 ≤ c.toNat) && decide (c.toNat ≤ 122)
def nameB (l : List UInt8) : Bool := l.all nmB && (decide (1 ≤ l.length) && decide (l.length ≤ 12))
def vlB (c : UInt8) : Bool := decide (32 ≤ c.toNat) && decide (c.toNat ≠ 127)
def fewB (l : List UInt8) : Bool := match cntL l with
  | some n => decide (n ≤ 24)
  | none => false
def valueB (l : List UInt8) : Bool := l.all vlB && fewB l
theorem all_take {f : UInt8 → Bool} {l : List UInt8} {k : Nat} (h : (l.take k).all f = true) (hk : k < l.length) (hc : f l[k] = true) : (l.take (k + 1)).all f = true := by
  rw [List.take_succ_eq_append_getElem hk, List.all_append, h]
  simp [hc]
theorem all_not {f : UInt8 → Bool} {l : List UInt8} {k : Nat} (hk : k < l.length) (hc : f l[k] = false) : l.all f = false := by
  rw [List.all_eq_false]
  exact ⟨l[k], List.getElem_mem hk, by simp [hc]⟩

end Go.Proofs.Ytekmdgjkadglmaa
