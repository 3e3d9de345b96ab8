
/- Plain mathematics: a rune that bytes begin with, by its number; its bytes again. -/
import Derived.Test.YtekmdgjkadglmaaLMath
import Derived.Lib.MapLaws
namespace Go.Proofs.Ytekmdgjkadglmaa

theorem decL_lib (l : List UInt8) : decL l = Lib.decodeL l := by rw [Lib.decodeL_N]; rfl
theorem toB (z : Int) (a : Nat) (h : z = (a : Int)) : z.toNat.toUInt8 = UInt8.ofNat a := by
  subst h
  simp [Nat.toUInt8]
/-- The model's own encoding of a rune. -/
theorem encode_own (r : Nat) (h : r < 55296 ∨ (57344 ≤ r ∧ r ≤ 1114111)) : (Utf8.encode (r : Int)).data.toList = Lib.encodeRune (r : Int) := by
  have hv : Utf8.valid (r : Int) = true := by
    unfold Utf8.valid
    simp only [Bool.or_eq_true, Bool.and_eq_true, decide_eq_true_eq]
    omega
  unfold Utf8.encode Lib.encodeRune
  simp only [hv, if_true, Int.toNat_natCast]
  by_cases h1 : r < 128
  · rw [if_pos h1, Lib.encodeRuneZ_one (by omega) (by omega)]
    simp
  · by_cases h2 : r < 2048
    · rw [if_neg h1, if_pos h2, Lib.encodeRuneZ_two (by omega) (by omega)]
      simp only [List.map_cons, List.map_nil]
      rw [toB _ (192 + r / 64) (by omega), toB _ (128 + r % 64) (by omega)]
    · by_cases h3 : r < 65536
      · rw [if_neg h1, if_neg h2, if_pos h3, Lib.encodeRuneZ_three (by omega)]
        simp only [List.map_cons, List.map_nil]
        rw [toB _ (224 + r / 4096) (by omega), toB _ (128 + r / 64 % 64) (by omega), toB _ (128 + r % 64) (by omega)]
      · rw [if_neg h1, if_neg h2, if_neg h3, Lib.encodeRuneZ_four (by omega) (by omega)]
        simp only [List.map_cons, List.map_nil]
        rw [toB _ (240 + r / 262144) (by omega), toB _ (128 + r / 4096 % 64) (by omega), toB _ (128 + r / 64 % 64) (by omega), toB _ (128 + r % 64) (by omega)]
theorem take_err (l : List UInt8) : l.take 3 = [239, 191, 189] ↔ 2 < l.length ∧ (l.getD 0 0).toNat = 239 ∧ (l.getD 1 0).toNat = 191 ∧ (l.getD 2 0).toNat = 189 := by
  by_cases h : 2 < l.length
  · rw [Lib.takeC l h]
    simp only [List.cons.injEq, and_true, h, true_and]
    constructor
    · rintro ⟨h1, h2, h3⟩; rw [h1, h2, h3]; decide
    · rintro ⟨h1, h2, h3⟩
      exact ⟨UInt8.toNat_inj.1 h1, UInt8.toNat_inj.1 h2, UInt8.toNat_inj.1 h3⟩
  · constructor
    · intro e
      have := congrArg List.length e
      rw [List.length_take] at this
      simp at this
      omega
    · intro e; exact absurd e.1 h
/-- A rune that is right: its number, its width, its bytes. -/
structure RuneAt (l : List UInt8) (r k : Nat) : Prop where
  size : sizeL l = k
  pos : 1 ≤ k
  le : k ≤ l.length
  top : r ≤ 1114111
  err : r = 65533 → l.take 3 = [239, 191, 189]
  enc : (Utf8.encode (r : Int)).data.toList = l.take k
  cells : Lib.runeCells (r : Int) = Lib.byteCells (l.take k)
  ascii : (r < 128 ∧ k = 1 ∧ r = (l.getD 0 0).toNat) ∨ (128 ≤ r ∧ ∀ c ∈ l.take k, 128 ≤ c.toNat)
theorem dec_shape (l : List UInt8) (hl : l ≠ []) : ∃ r k, decL l = (r, k) ∧ (RuneAt l r k ∨ (sizeL l = 0 ∧ k = 1 ∧ r = 65533 ∧ l.take 3 ≠ [239, 191, 189])) := by
  have hlen : 0 < l.length := List.length_pos_iff.2 hl
  obtain ⟨r, k, hD⟩ : ∃ r k, decL l = (r, k) := ⟨_, _, rfl⟩
  refine ⟨r, k, hD, ?_⟩
  have hN : Lib.decodeN l.length (l.getD 0 0).toNat (l.getD 1 0).toNat (l.getD 2 0).toNat (l.getD 3 0).toNat = (r, k) := hD
  have hw := decodeN_width l.length (l.getD 0 0).toNat (l.getD 1 0).toNat (l.getD 2 0).toNat (l.getD 3 0).toNat
  have hS : sizeL l = if (l.getD 0 0).toNat < 128 then 1 else if k = 1 then 0 else k := by unfold sizeL; rw [if_neg hl, hD]
  have k0 := (l.getD 0 0).toNat_lt
  have k1 := (l.getD 1 0).toNat_lt
  have k2 := (l.getD 2 0).toNat_lt
  have k3 := (l.getD 3 0).toNat_lt
  have he := decodeN_error l.length (l.getD 0 0).toNat (l.getD 1 0).toNat (l.getD 2 0).toNat (l.getD 3 0).toNat
  have hE : ¬ (r = 65533 ∧ k = 1) → Lib.encodeRune (r : Int) = l.take k := fun hv => by
    have := Lib.encode_decode l hl (by rw [← decL_lib, hD]; exact hv)
    rw [← decL_lib, hD] at this
    exact this
  rw [hN] at hw he
  dsimp only at hw he
  have hle : k ≤ l.length := hw.2 (by omega)
  rcases Lib.decodeN_shape l.length (l.getD 0 0).toNat (l.getD 1 0).toNat (l.getD 2 0).toNat (l.getD 3 0).toNat with ⟨c, e⟩ | ⟨c1, c2, c3, cv, e⟩ | ⟨c1, c2, c3, c4, cv, cs, e⟩ | ⟨c1, c2, c3, c4, c5, cv, cw, e⟩ | e
  · rw [hN, Prod.mk.injEq] at e
    obtain ⟨er, ek⟩ := e
    have hEE := hE (by omega)
    exact .inl ⟨by rw [hS, if_pos c, ek], hw.1, hle, by omega, fun h => by omega, by rw [encode_own r (by omega), hEE], by rw [← Lib.byteCells_encodeRune, hEE], .inl ⟨by omega, ek, er⟩⟩
  · rw [hN, Prod.mk.injEq] at e
    obtain ⟨er, ek⟩ := e
    have hEE := hE (by omega)
    refine .inl ⟨by rw [hS, if_neg (by omega), if_neg (by omega)], hw.1, hle, by omega, fun h => by omega, by rw [encode_own r (by omega), hEE], by rw [← Lib.byteCells_encodeRune, hEE], .inr ⟨by omega, ?_⟩⟩
    rw [ek, Lib.takeB l c2]
    intro c hc
    simp only [List.mem_cons, List.not_mem_nil, or_false] at hc
    rcases hc with rfl | rfl <;> omega
  · rw [hN, Prod.mk.injEq] at e
    obtain ⟨er, ek⟩ := e
    have hEE := hE (by omega)
    refine .inl ⟨by rw [hS, if_neg (by omega), if_neg (by omega)], hw.1, hle, by omega, fun h => ?_, by rw [encode_own r (by omega), hEE], by rw [← Lib.byteCells_encodeRune, hEE], .inr ⟨by omega, ?_⟩⟩
    · have := (he (by omega) k0 k1 k2 k3).2 (by omega) h
      exact (take_err l).2 this
    · rw [ek, Lib.takeC l c2]
      intro c hc
      simp only [List.mem_cons, List.not_mem_nil, or_false] at hc
      rcases hc with rfl | rfl | rfl <;> omega
  · rw [hN, Prod.mk.injEq] at e
    obtain ⟨er, ek⟩ := e
    have hEE := hE (by omega)
    refine .inl ⟨by rw [hS, if_neg (by omega), if_neg (by omega)], hw.1, hle, by omega, fun h => by omega, by rw [encode_own r (by omega), hEE], by rw [← Lib.byteCells_encodeRune, hEE], .inr ⟨by omega, ?_⟩⟩
    rw [ek, Lib.takeD l c2]
    intro c hc
    simp only [List.mem_cons, List.not_mem_nil, or_false] at hc
    rcases hc with rfl | rfl | rfl | rfl <;> omega
  · rw [hN, Prod.mk.injEq] at e
    obtain ⟨er, ek⟩ := e
    by_cases h8 : (l.getD 0 0).toNat < 128
    · have : Lib.decodeN l.length (l.getD 0 0).toNat (l.getD 1 0).toNat (l.getD 2 0).toNat (l.getD 3 0).toNat = ((l.getD 0 0).toNat, 1) := by unfold Lib.decodeN; rw [if_pos h8]
      rw [hN, Prod.mk.injEq] at this
      omega
    · refine .inr ⟨by rw [hS, if_neg h8, if_pos ek], ek, er, fun ht => ?_⟩
      have h3 := (take_err l).1 ht
      exact ((he (by omega) k0 k1 k2 k3).1 ek).2 h3
/-- At a place of a text: what the range's next answers. -/
theorem next_shape (s : ByteArray) (p : Nat) (h : p < s.size) : ∃ r k : Nat, Utf8.decode s p = (r, k) ∧
    (RuneAt (s.data.toList.drop p) r k ∨ (sizeL (s.data.toList.drop p) = 0 ∧ k = 1 ∧ r = 65533 ∧ (s.data.toList.drop p).take 3 ≠ [239, 191, 189])) := by
  rw [decode_drop]
  refine dec_shape _ fun e => ?_
  have := congrArg List.length e
  rw [List.length_drop] at this
  simp at this
  omega
end Go.Proofs.Ytekmdgjkadglmaa
