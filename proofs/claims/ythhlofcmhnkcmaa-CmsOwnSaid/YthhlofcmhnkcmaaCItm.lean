/- The statements' walks, stage 8: the first items, and the rest. -/
import Derived.Test.YthhlofcmhnkcmaaCOfB
namespace Go.Proofs.Ythhlofcmhnkcmaa
open Go.RowKit

set_option maxRecDepth 100000 in
theorem itm_take {w : World} {v : Value} {L : List (Nat × Nat)} (h : ItmSl w v L) (k : Nat) (hk : k ≤ L.length) :
    ∃ src, (∀ W : World, (Instr.slice 39 v none (some (.int .i64 (k : Int))) none).run Try.prog W = .ok src W) ∧ ItmSl w src (L.take k) := by
  have hz : ∀ W : World, (sizeOf (Try.prog.elem 39)).run Try.prog W = .ok 2 W := fun W => rfl
  rcases h with ⟨a, c, rfl, rfl⟩ | ⟨g, o, c, rfl, hlc, hg, hc⟩
  · obtain rfl : k = 0 := by simpa using hk
    refine ⟨sliced a 0 0 c 2, fun W => ?_, .inl ⟨_, _, rfl, rfl⟩⟩
    rw [run_slice_h (P := Try.prog) W 39 a 0 c Try.underlying39 .i64 _ (by simp) (by simp), hz]
    rfl
  · refine ⟨.slice (some ⟨g, o, none⟩) k c, fun W => ?_, .inr ⟨g, o, c, by rw [List.length_take, Nat.min_eq_left hk], by rw [List.length_take]; omega, hg, fun j hj => ?_⟩⟩
    · rw [run_slice_h (P := Try.prog) W 39 _ _ _ Try.underlying39 .i64 _ (by omega) (by omega), hz]
      simp only [Result.andThen_ok, sliced, Int.toNat_natCast, Nat.sub_zero]
      congr 2
      split
      · rfl
      · rw [Option.map_some, Nat.zero_mul, add_blockN, Nat.add_zero]
    · rw [List.getElem_take]
      exact hc j (by rw [List.length_take] at hj; omega)
set_option maxRecDepth 100000 in
theorem itm_drop {w : World} {v : Value} {L : List (Nat × Nat)} (h : ItmSl w v L) (k : Nat) (hk : k ≤ L.length) :
    ∃ src, (∀ W : World, (Instr.slice 39 v (some (.int .i64 (k : Int))) none none).run Try.prog W = .ok src W) ∧ ItmSl w src (L.drop k) := by
  have hz : ∀ W : World, (sizeOf (Try.prog.elem 39)).run Try.prog W = .ok 2 W := fun W => rfl
  rcases h with ⟨a, c, rfl, rfl⟩ | ⟨g, o, c, rfl, hlc, hg, hc⟩
  · obtain rfl : k = 0 := by simpa using hk
    refine ⟨sliced a 0 0 c 2, fun W => ?_, .inl ⟨_, _, rfl, rfl⟩⟩
    rw [run_slice_l (P := Try.prog) W 39 a 0 c Try.underlying39 .i64 _ (by simp) (by simp), hz]
    rfl
  · refine ⟨sliced (some ⟨g, o, none⟩) k L.length c 2, fun W => ?_, ?_⟩
    · rw [run_slice_l (P := Try.prog) W 39 _ _ _ Try.underlying39 .i64 _ (by omega) (by omega), hz]
      rfl
    · by_cases hkl : k = L.length
      · exact .inl ⟨_, _, by unfold sliced; rw [show L.length - k = 0 by omega], List.drop_eq_nil_of_le (by omega)⟩
      · refine .inr ⟨g, o + k * 2, c - k, ?_, by rw [List.length_drop]; omega, hg, fun j hj => ?_⟩
        · unfold sliced
          rw [if_neg (by omega), Option.map_some, add_blockN, List.length_drop]
        · rw [List.getElem_drop, show o + k * 2 + j * 2 = o + (k + j) * 2 by omega]
          exact hc (k + j) (by rw [List.length_drop] at hj; omega)
theorem itm_min (L : List (Nat × Nat)) (b : Nat) : L.take (min b L.length) = L.take b := by
  rcases Nat.le_total b L.length with h | h
  · rw [Nat.min_eq_left h]
  · rw [Nat.min_eq_right h, List.take_of_length_le (Nat.le_refl _), List.take_of_length_le h]
theorem itm_mem {L : List (Nat × Nat)} {k : Nat} (h : ∀ x ∈ L, x.1 ≤ topN ∧ x.2 ≤ topN) : ∀ x ∈ L.take k, x.1 ≤ topN ∧ x.2 ≤ topN := fun x hx => h x (List.mem_of_mem_take hx)
theorem okC_or (r c : Int) : okC r c = false ∨ ∃ a b : Nat, r = (a : Int) ∧ c = (b : Int) ∧ OkN a b := by
  cases h : okC r c with
  | false => exact .inl rfl
  | true =>
    obtain ⟨a, b, h1, h2, h3, h4, h5⟩ := okC_nat h
    exact .inr ⟨a, b, h1, h2, h3, h4, h5⟩
end Go.Proofs.Ythhlofcmhnkcmaa
