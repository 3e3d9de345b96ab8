
/- The page's own answers for layer 4: one (the label that a text begins with). -/
import Derived.Test.YtekmdgjkadglmaaLRefText
namespace Go.Proofs.Ytekmdgjkadglmaa
open Go.RowKit

/-- What stands ahead of the first '=', and what is behind it. -/
def cutEq : List UInt8 → Option (List UInt8 × List UInt8)
  | [] => none
  | c :: t => if c = 61 then some ([], t) else (cutEq t).map fun r => (c :: r.1, r.2)
/-- A value told, and what is behind it (from the ',' on); none: a '\' with nothing behind it. -/
def valL : List UInt8 → Option (List UInt8 × List UInt8)
  | [] => some ([], [])
  | [c] => if c = 44 then some ([], [c]) else if c = 92 then none else some ([c], [])
  | c :: d :: t => if c = 44 then some ([], c :: d :: t) else if c = 92 then (valL t).map fun r => (d :: r.1, r.2) else (valL (d :: t)).map fun r => (c :: r.1, r.2)
def oneL (l : List UInt8) : Option (List UInt8 × List UInt8 × List UInt8) := (cutEq l).bind fun p => (valL p.2).map fun r => (p.1, r.1, r.2)
theorem cutEq_drop (l : List UInt8) (k : Nat) (hk : k < l.length) : cutEq (l.drop k) = if l[k] = 61 then some ([], l.drop (k + 1)) else (cutEq (l.drop (k + 1))).map fun r => (l[k] :: r.1, r.2) := by
  rw [List.drop_eq_getElem_cons hk]
  rfl
theorem valL_comma (l : List UInt8) (k : Nat) (hk : k < l.length) (h : l[k] = 44) : valL (l.drop k) = some ([], l.drop k) := by
  rw [List.drop_eq_getElem_cons hk, h]
  cases l.drop (k + 1) with
  | nil => simp [valL]
  | cons d t => simp [valL]
theorem valL_end (l : List UInt8) (k : Nat) (hk : k + 1 = l.length) (h : l[k]'(by omega) = 92) : valL (l.drop k) = none := by
  rw [List.drop_eq_getElem_cons (by omega), h, List.drop_eq_nil_of_le (by omega)]
  simp [valL]
theorem valL_skip (l : List UInt8) (k : Nat) (hk : k + 1 < l.length) (h : l[k]'(by omega) = 92) : valL (l.drop k) = (valL (l.drop (k + 2))).map fun r => (l[k + 1] :: r.1, r.2) := by
  rw [List.drop_eq_getElem_cons (by omega), h, List.drop_eq_getElem_cons hk]
  simp [valL]
theorem valL_plain (l : List UInt8) (k : Nat) (hk : k < l.length) (h1 : l[k] ≠ 44) (h2 : l[k] ≠ 92) : valL (l.drop k) = (valL (l.drop (k + 1))).map fun r => (l[k] :: r.1, r.2) := by
  rw [List.drop_eq_getElem_cons hk]
  cases l.drop (k + 1) with
  | nil => simp [valL, h1, h2]
  | cons d t => simp [valL, h1, h2]
theorem byte_ne {c : UInt8} {n : Nat} (hn : n < 256) (h : ¬ c.toNat = n) : c ≠ UInt8.ofNat n := fun e => h (by rw [e, UInt8.toNat_ofNat']; omega)
theorem byte_is {c : UInt8} {n : Nat} (hn : n < 256) (h : c.toNat = n) : c = UInt8.ofNat n := UInt8.toNat_inj.1 (by rw [h, UInt8.toNat_ofNat']; omega)

/-- What one answers. -/
def OneP (s : ByteArray) (e : Ending) : Prop :=
  (∃ x y r : ByteArray, oneL s.data.toList = some (x.data.toList, y.data.toList, r.data.toList) ∧ e = .returned (.tuple #[.agg #[.string x, .string y], .string r, .bool true])) ∨
  (oneL s.data.toList = none ∧ ∃ x y : ByteArray, e = .returned (.tuple #[.agg #[.string x, .string y], .string s, .bool false]))

/-- Two blocks that hold a label each. -/
def OneD (w : World) (a b c d : ByteArray) (V : World) : Prop := HasC V w.heap.size 37 #[.string a, .string b] ∧ HasC V (w.heap.size + 1) 37 #[.string c, .string d] ∧ Below w.heap.size w V
theorem OneD.drew {w V : World} {a b c d : ByteArray} (h : OneD w a b c d V) : OneD w a b c d V.drew := ⟨h.1, h.2.1, h.2.2.trans ((Below.refl _ _).drew.mono (Nat.le_refl _))⟩
theorem OneD.set1 {w V : World} {a b c d a' b' : ByteArray} (h : OneD w a b c d V) : OneD w a' b' c d ((V.setCell ⟨w.heap.size, 0, none⟩ (.string a')).setCell ⟨w.heap.size, 1, none⟩ (.string b')) :=
  ⟨HasC.eq ((h.1.set 0 _).set 1 _) rfl, (h.2.1.far _ _ (by simp)).far _ _ (by simp), (h.2.2.setCell (p := ⟨w.heap.size, 0, none⟩) (Nat.le_refl _) _).setCell (p := ⟨w.heap.size, 1, none⟩) (Nat.le_refl _) _⟩
theorem OneD.set2 {w V : World} {a b c d d' : ByteArray} (h : OneD w a b c d V) : OneD w a b c d' (V.setCell ⟨w.heap.size + 1, 1, none⟩ (.string d')) :=
  ⟨h.1.far _ _ (by simp), HasC.eq (h.2.1.set 1 _) rfl, h.2.2.setCell (p := ⟨w.heap.size + 1, 1, none⟩) (Nat.le_succ _) _⟩

end Go.Proofs.Ytekmdgjkadglmaa
