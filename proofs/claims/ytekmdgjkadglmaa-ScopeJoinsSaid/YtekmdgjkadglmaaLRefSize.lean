
/- The page's own answers for layer 4: Size, List, Runes. -/
import Derived.Test.YtekmdgjkadglmaaLBase
namespace Go.Proofs.Ytekmdgjkadglmaa
open Go.RowKit

theorem below_iter (w : World) (s : ByteArray) (p : Nat) : Below w.heap.size w (w.iter s p) := (Below.refl _ _).alloc (Nat.le_refl _) _
/-- A first byte, by its number. -/
theorem getD_zero (s : ByteArray) (h : 0 < s.size) : s.data.toList.getD 0 0 = s[0] := by
  rw [List.getD_eq_getElem?_getD, List.getElem?_eq_getElem (by simpa using h)]
  rfl
theorem leads_x : leads [120] := .inr (by decide)

/-- What a rune's decoding comes to at the beginning of a text that is not empty, an x behind it. -/
theorem size_steps (s : ByteArray) (h0 : s.data.toList ≠ []) :
    ∃ r k : Nat, Utf8.decode (s ++ ⟨#[120]⟩) 0 = (r, k) ∧ 1 ≤ k ∧ k ≤ s.size ∧
      ((((s.data.toList.getD 0 0).toNat < 128 ∧ k = 1 ∧ r ≠ 65533 ∧ sizeL s.data.toList = 1)) ∨
       (128 ≤ (s.data.toList.getD 0 0).toNat ∧ k = 1 ∧ r = 65533 ∧ (s.size < 3 ∨ (s.extract 0 3).toList ≠ [239, 191, 189]) ∧ sizeL s.data.toList = 0) ∨
       (128 ≤ (s.data.toList.getD 0 0).toNat ∧ k ≠ 1 ∧ (r = 65533 → 3 ≤ s.size ∧ (s.extract 0 3).toList = [239, 191, 189]) ∧ sizeL s.data.toList = k)) := by
  obtain ⟨r, k, hD⟩ : ∃ r k, Utf8.decode (s ++ ⟨#[120]⟩) 0 = (r, k) := ⟨_, _, rfl⟩
  have e : decL s.data.toList = (r, k) := by
    rw [← hD, decode_drop, List.drop_zero, appL]
    exact (decL_app _ _ h0 leads_x).symm
  have hw := decodeN_width s.data.toList.length (s.data.toList.getD 0 0).toNat (s.data.toList.getD 1 0).toNat (s.data.toList.getD 2 0).toNat (s.data.toList.getD 3 0).toNat
  have he := decodeN_error s.data.toList.length (s.data.toList.getD 0 0).toNat (s.data.toList.getD 1 0).toNat (s.data.toList.getD 2 0).toNat (s.data.toList.getD 3 0).toNat
  have hlen : 1 ≤ s.data.toList.length := by
    cases hl : s.data.toList with
    | nil => exact absurd hl h0
    | cons => simp
  have hdef : Lib.decodeN s.data.toList.length (s.data.toList.getD 0 0).toNat (s.data.toList.getD 1 0).toNat (s.data.toList.getD 2 0).toNat (s.data.toList.getD 3 0).toNat = (r, k) := e
  rw [hdef] at hw he
  dsimp only at hw he
  have h2 := hw.2 hlen
  rw [lenL] at h2
  have hx3 : (s.extract 0 3).toList = s.data.toList.take 3 := by rw [ByteArray.toList_eq, extL, List.drop_zero]
  have h3 : 3 ≤ s.size → ((s.extract 0 3).toList = [239, 191, 189] ↔ (s.data.toList.getD 0 0).toNat = 239 ∧ (s.data.toList.getD 1 0).toNat = 191 ∧ (s.data.toList.getD 2 0).toNat = 189) := by
    intro hs3
    rw [hx3]
    have hl3 : 3 ≤ s.data.toList.length := by rw [lenL]; exact hs3
    match hl : s.data.toList, hl3 with
    | a :: b :: c :: t, _ =>
      simp only [List.take_succ_cons, List.take_zero, List.getD_cons_zero, List.getD_cons_succ]
      constructor
      · intro h
        simp only [List.cons.injEq, and_true] at h
        rw [h.1, h.2.1, h.2.2]
        decide
      · rintro ⟨h1, h2, h3⟩
        rw [UInt8.toNat_inj.1 (show a.toNat = (239 : UInt8).toNat from h1), UInt8.toNat_inj.1 (show b.toNat = (191 : UInt8).toNat from h2), UInt8.toNat_inj.1 (show c.toNat = (189 : UInt8).toNat from h3)]
  refine ⟨r, k, hD, hw.1, h2, ?_⟩
  have hs : sizeL s.data.toList = if (s.data.toList.getD 0 0).toNat < 128 then 1 else if k = 1 then 0 else k := by
    unfold sizeL
    rw [if_neg h0, e]
  by_cases h8 : (s.data.toList.getD 0 0).toNat < 128
  · left
    have hr : (r, k) = ((s.data.toList.getD 0 0).toNat, 1) := by
      rw [← hdef]
      unfold Lib.decodeN
      rw [if_pos h8]
    simp only [Prod.mk.injEq] at hr
    exact ⟨h8, hr.2, by omega, by rw [hs, if_pos h8]⟩
  · right
    obtain ⟨he1, he2⟩ := he (by omega) (UInt8.toNat_lt _) (UInt8.toNat_lt _) (UInt8.toNat_lt _) (UInt8.toNat_lt _)
    by_cases hk : k = 1
    · left
      refine ⟨by omega, hk, (he1 hk).1, ?_, by rw [hs, if_neg h8, if_pos hk]⟩
      by_cases hs3 : s.size < 3
      · exact .inl hs3
      · right
        intro h
        have := (h3 (by omega)).1 h
        exact (he1 hk).2 ⟨by rw [lenL]; omega, this.1, this.2.1, this.2.2⟩
    · right
      refine ⟨by omega, hk, fun hr => ?_, by rw [hs, if_neg h8, if_neg hk]⟩
      have := he2 hk hr
      have hs3 : 3 ≤ s.size := by rw [lenL] at this; omega
      exact ⟨hs3, (h3 hs3).2 this.2⟩

end Go.Proofs.Ytekmdgjkadglmaa
