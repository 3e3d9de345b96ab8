
/- The page's own answers for layer 5: Quote. -/
import Derived.Test.YtekmdgjkadglmaaSRefPat
namespace Go.Proofs.Ytekmdgjkadglmaa
open Go.RowKit

def catL (R : List ByteArray) : List UInt8 := R.flatMap fun c => c.data.toList
theorem runes_cat : ∀ (l : List UInt8) (R : List ByteArray), runesL l = some R → catL R = l := by
  refine cnt_ind _ ?_ ?_ ?_
  · intro R h
    obtain rfl : [] = R := by simpa [runesL, runeF] using h
    rfl
  · intro l hl hs R h
    rw [runes_wrong hl hs] at h
    cases h
  · intro l hs ih R h
    rw [runes_step hs] at h
    cases hc : runesL (l.drop (sizeL l)) with
    | none => rw [hc] at h; cases h
    | some Q =>
      rw [hc] at h
      obtain rfl : (⟨(l.take (sizeL l)).toArray⟩ : ByteArray) :: Q = R := by simpa using h
      show (ByteArray.data ⟨(l.take (sizeL l)).toArray⟩).toList ++ catL Q = l
      rw [ih Q hc]
      exact List.take_append_drop _ _
theorem runes0_cat (s : ByteArray) : (catL (runes0 s)).length ≤ s.size := by
  unfold runes0
  cases h : runesL s.data.toList with
  | none => simp [catL]
  | some R =>
    have := runes_cat _ R h
    show (catL R).length ≤ _
    rw [this, lenL]
    exact Nat.le_refl _
theorem quote_len : ∀ R : List ByteArray, (catL (quoteL R)).length ≤ 2 * (catL R).length := by
  intro R
  induction R with
  | nil => simp [catL, quoteL]
  | cons c R ih =>
    have e1 : catL (c :: R) = c.data.toList ++ catL R := by simp [catL]
    have e2 : catL (quoteL (c :: R)) = catL (quoteC c) ++ catL (quoteL R) := by simp [catL, quoteL]
    have e3 : (catL (quoteC c)).length ≤ 2 * c.data.toList.length := by
      unfold quoteC
      split
      · rename_i h
        rcases h with rfl | rfl | rfl <;> decide
      · simp [catL]
        omega
    rw [e1, e2, List.length_append, List.length_append]
    omega
def quoteB (s : ByteArray) : ByteArray := ⟨(catL (quoteL (runes0 s))).toArray⟩
theorem quote_snoc (R : List ByteArray) (c : ByteArray) : catL (quoteL (R ++ [c])) = catL (quoteL R) ++ (if c = bStar ∨ c = bAny ∨ c = bTil then 126 :: c.data.toList else c.data.toList) := by
  have e : quoteL (R ++ [c]) = quoteL R ++ quoteC c := by simp [quoteL]
  rw [e]
  have e2 : catL (quoteL R ++ quoteC c) = catL (quoteL R) ++ catL (quoteC c) := by simp [catL]
  rw [e2]
  congr 1
  unfold quoteC
  split <;> simp [catL, bTil]
theorem catL_app (A B : List ByteArray) : catL (A ++ B) = catL A ++ catL B := by simp [catL]
theorem cat_take (R : List ByteArray) (k : Nat) : (catL (R.take k)).length ≤ (catL R).length := by
  have e : catL R = catL (R.take k) ++ catL (R.drop k) := by rw [← catL_app, List.take_append_drop]
  rw [e, List.length_append]
  omega

end Go.Proofs.Ytekmdgjkadglmaa
