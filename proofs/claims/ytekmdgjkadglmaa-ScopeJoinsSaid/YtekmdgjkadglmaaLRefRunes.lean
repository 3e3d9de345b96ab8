
/- The page's own answers for layer 4: List, with the runes themselves (stage 5 reads them). -/
import Derived.Test.YtekmdgjkadglmaaLRefList
namespace Go.Proofs.Ytekmdgjkadglmaa
open Go.RowKit

/-- A text's runes, each a text; none: it is wrong. -/
def runeF : Nat → List UInt8 → Option (List ByteArray)
  | 0, _ => some []
  | n + 1, l => if l = [] then some [] else if sizeL l = 0 then none else (runeF n (l.drop (sizeL l))).map ((⟨(l.take (sizeL l)).toArray⟩ : ByteArray) :: ·)
def runesL (l : List UInt8) : Option (List ByteArray) := runeF l.length l
theorem runeF_more : ∀ (n m : Nat) (l : List UInt8), l.length ≤ n → l.length ≤ m → runeF n l = runeF m l := by
  intro n
  induction n with
  | zero =>
    intro m l h _
    have : l = [] := List.length_eq_zero_iff.1 (by omega)
    subst this
    cases m <;> simp [runeF]
  | succ n ih =>
    intro m l h h'
    cases m with
    | zero =>
      have : l = [] := List.length_eq_zero_iff.1 (by omega)
      subst this
      simp [runeF]
    | succ m =>
      simp only [runeF]
      by_cases hl : l = []
      · rw [if_pos hl, if_pos hl]
      · rw [if_neg hl, if_neg hl]
        by_cases hs : sizeL l = 0
        · rw [if_pos hs, if_pos hs]
        · rw [if_neg hs, if_neg hs, ih m _ (by rw [List.length_drop]; omega) (by rw [List.length_drop]; omega)]
theorem runes_nil : runesL (ByteArray.data { data := #[] }).toList = some [] := rfl
theorem runes_wrong {l : List UInt8} (hl : l ≠ []) (h : sizeL l = 0) : runesL l = none := by
  unfold runesL
  cases l with
  | nil => exact absurd rfl hl
  | cons c l => simp only [List.length_cons, runeF]; rw [if_neg hl, if_pos h]
theorem runes_step {l : List UInt8} (h : sizeL l ≠ 0) : runesL l = (runesL (l.drop (sizeL l))).map ((⟨(l.take (sizeL l)).toArray⟩ : ByteArray) :: ·) := by
  have hle := sizeL_le l
  cases l with
  | nil => exact absurd rfl h
  | cons c l =>
    unfold runesL
    rw [List.length_cons]
    conv => lhs; unfold runeF
    rw [if_neg (by simp), if_neg h]
    congr 1
    exact runeF_more _ _ _ (by rw [List.length_drop, List.length_cons]; omega) (Nat.le_refl _)
theorem runes_cnt : ∀ l : List UInt8, (runesL l).map List.length = cntL l := by
  refine cnt_ind _ ?_ ?_ ?_
  · rfl
  · intro l hl hs
    rw [runes_wrong hl hs, cnt_wrong hl hs]
    rfl
  · intro l hs ih
    rw [runes_step hs, cnt_step hs, ← ih]
    cases runesL (l.drop (sizeL l)) <;> simp

end Go.Proofs.Ytekmdgjkadglmaa
