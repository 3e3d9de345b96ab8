
/- What layer 4's texts share: bytes, cells; the page's own Least. -/
import Derived.Test.YtekmdgjkadglmaaRows
import Derived.Test.YtekmdgjkadglmaaLMath
import Derived.Test.YtekmdgjkadglmaaLaws
import Derived.Test.YtekmdgjkadglmaaQuiet
import Derived.Test.YtekmdgjkadglmaaFOrd
import Derived.WalkKit
import Derived.LaidEql
import Derived.RowKitTokens
import Derived.Laws.Externs
import Derived.Laws.IdiomStrings
import Derived.Laws.RangeAny
import Derived.Lib.Hide
import Derived.Lib.AppendStr
import Derived.OwnWalk
import Derived.Deep.AppendLies
namespace Go.Proofs.Ytekmdgjkadglmaa
open Go.RowKit Go.Lib

theorem extL (t : ByteArray) (i j : Nat) : (t.extract i j).data.toList = (t.data.toList.take j).drop i := by
  rw [ByteArray.data_extract, Array.toList_extract, List.extract_eq_drop_take', List.drop_take]
theorem baL {s t : ByteArray} (h : s.data.toList = t.data.toList) : s = t := ByteArray.ext (Array.ext' h)
theorem appL (a c : ByteArray) : (a ++ c).data.toList = a.data.toList ++ c.data.toList := by simp [ByteArray.data_append]
theorem lenL (a : ByteArray) : a.data.toList.length = a.size := by simp
theorem cmpL_at (a b : ByteArray) (k : Nat) (ha : k < a.size) (hb : k < b.size) :
    compareBytes (a.data.toList.drop k) (b.data.toList.drop k) = if a[k].toNat < b[k].toNat then -1 else if b[k].toNat < a[k].toNat then 1 else compareBytes (a.data.toList.drop (k + 1)) (b.data.toList.drop (k + 1)) := by
  rw [List.drop_eq_getElem_cons (show k < a.data.toList.length by simpa using ha), List.drop_eq_getElem_cons (show k < b.data.toList.length by simpa using hb)]
  simp only [compareBytes, UInt8.lt_iff_toNat_lt]
  rfl
theorem cmpL_end (a b : ByteArray) (k : Nat) (ha : k ≤ a.size) (hb : k ≤ b.size) (h : k = a.size ∨ k = b.size) :
    compareBytes (a.data.toList.drop k) (b.data.toList.drop k) = if a.size < b.size then -1 else if b.size < a.size then 1 else 0 := by
  have hla : a.data.toList.length = a.size := by simp
  have hlb : b.data.toList.length = b.size := by simp
  have e1 : (a.data.toList.drop k).length = a.size - k := by rw [List.length_drop, hla]
  have e2 : (b.data.toList.drop k).length = b.size - k := by rw [List.length_drop, hlb]
  generalize a.data.toList.drop k = x at *
  generalize b.data.toList.drop k = y at *
  cases x with
  | nil =>
    cases y with
    | nil =>
      simp at e1 e2
      rw [if_neg (by omega), if_neg (by omega)]
      rfl
    | cons c y =>
      simp at e1 e2
      rw [if_pos (by omega)]
      rfl
  | cons c x =>
    cases y with
    | nil =>
      simp at e1 e2
      rw [if_neg (by omega), if_pos (by omega)]
      rfl
    | cons d y =>
      simp at e1 e2
      omega

end Go.Proofs.Ytekmdgjkadglmaa
