/- The statements' walks, stage 8: how long told lists are; the page's Right. -/
import Derived.Test.YthhlofcmhnkcmaaCItm
namespace Go.Proofs.Ythhlofcmhnkcmaa
open Go.RowKit

theorem newCm_len (r c : Int) : (newCm r c).1.2.2.length ≤ 200 := by
  unfold newCm
  cases hq : okC r c with
  | false => exact Nat.zero_le _
  | true =>
    obtain ⟨a, b, rfl, rfl, h⟩ := okC_nat hq
    exact OkN.len h []
theorem addCm_len (r c : Int) (L : List Nat) (h n : Nat) (hl : L.length ≤ 200) : (addCm r c L h n).1.2.2.length ≤ 200 := by
  unfold addCm
  cases rightC r c L with
  | false => exact Nat.zero_le _
  | true => show (addC c.toNat L h n).length ≤ 200; rw [addC_size]; exact hl
theorem mergeCm_len (r c : Int) (L : List Nat) (r2 c2 : Int) (K : List Nat) (hl : L.length ≤ 200) : (mergeCm r c L r2 c2 K).1.2.2.length ≤ 200 := by
  unfold mergeCm
  split
  · show (mergeC L K).length ≤ 200
    unfold mergeC
    rw [List.length_zipWith]
    omega
  · exact Nat.zero_le _
theorem lowerCm_len (r c : Int) (L : List Nat) (hl : L.length ≤ 200) : (lowerCm r c L).1.2.2.length ≤ 200 := by
  unfold lowerCm
  split
  · rename_i h
    obtain ⟨a, b, rfl, rfl, _, _, _, h1⟩ := rightC_nat ((Bool.and_eq_true _ _).mp h).1
    show (lowC8 (a : Int).toNat ((b : Int).toNat / 2) L).length ≤ 200
    rw [lowC_len8, Int.toNat_natCast, Int.toNat_natCast]
    have : a * (b / 2) ≤ a * b := Nat.mul_le_mul_left _ (Nat.div_le_self _ _)
    omega
  · exact Nat.zero_le _
theorem sameCm_refl (r c : Int) (L : List Nat) : sameCm r c L r c L = true := by unfold sameCm; simp
theorem pRight8_bel (r c : Int) (L : List Nat) (v : Value) (w : World) (h : NumSl w v L) :
    Calls Try.prog 17 #[cV r c v] w fun e w' => e = .returned (.bool (rightC r c L)) ∧ Below w.heap.size w w' :=
  (pRight8_any r c L v w h).mono fun _ _ ⟨h1, h2⟩ => ⟨h1, by rw [h2]; exact (Below.refl _ w).alloc (Nat.le_refl _) _⟩
theorem pSame8_refl (r c : Int) (L : List Nat) (hl : L.length ≤ 200) (u v : Value) (w : World) (hu : NumSl w u L) (hv : NumSl w v L) :
    Calls Try.prog 18 #[cV r c u, cV r c v] w fun e w' => e = .returned (.bool true) ∧ Below w.heap.size w w' := by
  have h := pSame8_any r c L u r c L v w hu hv (by omega) (by omega)
  rw [sameCm_refl] at h
  exact h
end Go.Proofs.Ythhlofcmhnkcmaa
