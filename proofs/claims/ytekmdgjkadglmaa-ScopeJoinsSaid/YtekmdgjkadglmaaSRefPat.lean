
/- The page's own answers for layer 5: IsPattern, Quote. -/
import Derived.Test.YtekmdgjkadglmaaLFew
import Derived.Test.YtekmdgjkadglmaaLRefRunes
import Derived.Test.YtekmdgjkadglmaaSMath
namespace Go.Proofs.Ytekmdgjkadglmaa
open Go.RowKit

/-- A text's runes (none, where it is wrong). -/
def runes0 (s : ByteArray) : List ByteArray := (runesL s.data.toList).getD []
theorem runes0_len (s : ByteArray) : (runes0 s).length ≤ s.size := by
  unfold runes0
  have h := runes_cnt s.data.toList
  cases hr : runesL s.data.toList with
  | none => simp
  | some R =>
    rw [hr] at h
    have := cnt_le _ _ h.symm
    rw [lenL] at this
    exact this
theorem rows_shape {w : World} {B : Nat} {v : Value} {R : List ByteArray} (h : w.ownsRow B 9 1 v R.length (R.map .string)) :
    ∃ ao c, v = .slice ao R.length c ∧ ∀ j (hj : j < R.length), ∃ g, ao = some ⟨g, 0, none⟩ ∧ ∀ W : World, Below w.heap.size w W → W.cell? ⟨g, j, none⟩ = some (.string R[j]) := by
  rcases h.2 with ⟨hv, h0⟩ | ⟨g, cap, cur, hv, _, hg, _⟩
  · exact ⟨none, 0, by rw [hv, h0], fun j hj => by omega⟩
  · subst hv
    refine ⟨_, cap, rfl, fun j hj => ⟨g, rfl, fun W hb => ?_⟩⟩
    have h1 := h.cells (g := g) rfl j (.string R[j]) (by simp [hj])
    rw [add_block] at h1
    exact (hb.cell (p := ⟨g, j, none⟩) (Array.getElem?_eq_some_iff.1 hg).1).trans h1

theorem is_til {x : ByteArray} : (x.toList == [126]) = (x.toList == bTil.toList) := by rw [show bTil.toList = [126] by rw [ByteArray.toList_eq]; rfl]
theorem is_star {x : ByteArray} : (x.toList == [42]) = (x.toList == bStar.toList) := by rw [show bStar.toList = [42] by rw [ByteArray.toList_eq]; rfl]
theorem is_any {x : ByteArray} : (x.toList == [63]) = (x.toList == bAny.toList) := by rw [show bAny.toList = [63] by rw [ByteArray.toList_eq]; rfl]
def isPatB (p : ByteArray) : Bool := (tokL (runes0 p)).isSome && rightB [(⟨#[97]⟩, p)]
theorem tok_drop_til {R : List ByteArray} {k : Nat} (hk : k + 1 < R.length) (h : R[k]'(by omega) = bTil) : (tokL (R.drop k)).isSome = (tokL (R.drop (k + 2))).isSome := by
  rw [List.drop_eq_getElem_cons (by omega), h, List.drop_eq_getElem_cons hk, tokL_til]
  simp
theorem tok_drop_end {R : List ByteArray} {k : Nat} (hk : k + 1 = R.length) (h : R[k]'(by omega) = bTil) : (tokL (R.drop k)).isSome = false := by
  rw [List.drop_eq_getElem_cons (by omega), h, List.drop_eq_nil_of_le (by omega)]
  simp [tokL]
theorem tok_drop_one {R : List ByteArray} {k : Nat} (hk : k < R.length) (h : R[k] ≠ bTil) : (tokL (R.drop k)).isSome = (tokL (R.drop (k + 1))).isSome := by
  rw [List.drop_eq_getElem_cons hk, tokL_one h]
  simp
end Go.Proofs.Ytekmdgjkadglmaa
