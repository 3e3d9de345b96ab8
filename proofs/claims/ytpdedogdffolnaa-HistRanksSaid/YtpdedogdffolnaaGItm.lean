/- Lists of items: cut, turned (stage 9; as CItm, CItmO). -/
import Derived.Test.YtpdedogdffolnaaGOf
namespace Go.Proofs.Ytpdedogdffolnaa
open Go.RowKit


set_option maxRecDepth 100000 in
theorem itm_take {w : World} {v : Value} {L : List (Nat × Nat)} (h : ItmSl w v L) (k : Nat) (hk : k ≤ L.length) :
    ∃ src, (∀ W : World, (Instr.slice 44 v none (some (.int .i64 (k : Int))) none).run Try.prog W = .ok src W) ∧ ItmSl w src (L.take k) := by
  have hz : ∀ W : World, (sizeOf (Try.prog.elem 44)).run Try.prog W = .ok 2 W := fun W => rfl
  rcases h with ⟨a, c, rfl, rfl⟩ | ⟨g, o, c, rfl, hlc, hg, hc⟩
  · obtain rfl : k = 0 := by simpa using hk
    refine ⟨sliced a 0 0 c 2, fun W => ?_, .inl ⟨_, _, rfl, rfl⟩⟩
    rw [run_slice_h (P := Try.prog) W 44 a 0 c Try.underlying44 .i64 _ (by simp) (by simp), hz]
    rfl
  · refine ⟨.slice (some ⟨g, o, none⟩) k c, fun W => ?_, .inr ⟨g, o, c, by rw [List.length_take, Nat.min_eq_left hk], by rw [List.length_take]; omega, hg, fun j hj => ?_⟩⟩
    · rw [run_slice_h (P := Try.prog) W 44 _ _ _ Try.underlying44 .i64 _ (by omega) (by omega), hz]
      simp only [Result.andThen_ok, sliced, Int.toNat_natCast, Nat.sub_zero]
      congr 2
      split
      · rfl
      · rw [Option.map_some, Nat.zero_mul, add_blockN, Nat.add_zero]
    · rw [List.getElem_take]
      exact hc j (by rw [List.length_take] at hj; omega)
set_option maxRecDepth 100000 in
theorem itm_drop {w : World} {v : Value} {L : List (Nat × Nat)} (h : ItmSl w v L) (k : Nat) (hk : k ≤ L.length) :
    ∃ src, (∀ W : World, (Instr.slice 44 v (some (.int .i64 (k : Int))) none none).run Try.prog W = .ok src W) ∧ ItmSl w src (L.drop k) := by
  have hz : ∀ W : World, (sizeOf (Try.prog.elem 44)).run Try.prog W = .ok 2 W := fun W => rfl
  rcases h with ⟨a, c, rfl, rfl⟩ | ⟨g, o, c, rfl, hlc, hg, hc⟩
  · obtain rfl : k = 0 := by simpa using hk
    refine ⟨sliced a 0 0 c 2, fun W => ?_, .inl ⟨_, _, rfl, rfl⟩⟩
    rw [run_slice_l (P := Try.prog) W 44 a 0 c Try.underlying44 .i64 _ (by simp) (by simp), hz]
    rfl
  · refine ⟨sliced (some ⟨g, o, none⟩) k L.length c 2, fun W => ?_, ?_⟩
    · rw [run_slice_l (P := Try.prog) W 44 _ _ _ Try.underlying44 .i64 _ (by omega) (by omega), hz]
      rfl
    · by_cases hkl : k = L.length
      · exact .inl ⟨_, _, by unfold sliced; rw [show L.length - k = 0 by omega], List.drop_eq_nil_of_le (by omega)⟩
      · refine .inr ⟨g, o + k * 2, c - k, ?_, by rw [List.length_drop]; omega, hg, fun j hj => ?_⟩
        · unfold sliced
          rw [if_neg (by omega), Option.map_some, add_blockN, List.length_drop]
        · rw [List.getElem_drop, show o + k * 2 + j * 2 = o + (k + j) * 2 by omega]
          exact hc (k + j) (by rw [List.length_drop] at hj; omega)
theorem itm_min (L : List (Nat × Nat)) (b : Nat) : L.take (min b L.length) = L.take b := by
  rcases Nat.le_total b L.length with h | h
  · rw [Nat.min_eq_left h]
  · rw [Nat.min_eq_right h, List.take_of_length_le (Nat.le_refl _), List.take_of_length_le h]
theorem itm_mem {L : List (Nat × Nat)} {k : Nat} (h : ∀ x ∈ L, x.1 ≤ topN ∧ x.2 ≤ topN) : ∀ x ∈ L.take k, x.1 ≤ topN ∧ x.2 ≤ topN := fun x hx => h x (List.mem_of_mem_take hx)
def cellsI (L : List (Nat × Nat)) : List Value := L.flatMap fun x => [nV x.1, nV x.2]
theorem cellsI_len (L : List (Nat × Nat)) : (cellsI L).length = L.length * 2 := by
  induction L with
  | nil => rfl
  | cons x L ih =>
    have hc : cellsI (x :: L) = nV x.1 :: nV x.2 :: cellsI L := by simp [cellsI]
    rw [hc]
    simp only [List.length_cons, ih]
    omega
theorem cellsI_app (A B : List (Nat × Nat)) : cellsI (A ++ B) = cellsI A ++ cellsI B := by simp [cellsI]
theorem cellsI_one (L : List (Nat × Nat)) : ∀ u ∈ cellsI L, u.oneCell' = true := by
  intro u hu
  simp only [cellsI, List.mem_flatMap, List.mem_cons, List.not_mem_nil, or_false] at hu
  obtain ⟨x, _, rfl | rfl⟩ := hu <;> rfl
theorem cellsI_at (L : List (Nat × Nat)) : ∀ j (hj : j < L.length), (cellsI L)[j * 2]? = some (nV L[j].1) ∧ (cellsI L)[j * 2 + 1]? = some (nV L[j].2) := by
  induction L with
  | nil => intro j hj; simp at hj
  | cons x L ih =>
    have hc : cellsI (x :: L) = nV x.1 :: nV x.2 :: cellsI L := by simp [cellsI]
    intro j hj
    rw [hc]
    cases j with
    | zero => exact ⟨rfl, rfl⟩
    | succ j =>
      obtain ⟨h1, h2⟩ := ih j (by simpa using hj)
      rw [show (j + 1) * 2 = j * 2 + 2 by omega, show j * 2 + 2 + 1 = (j * 2 + 1) + 2 by omega]
      exact ⟨by simpa using h1, by simpa using h2⟩
theorem itmSl_of_owns {B : Nat} {v : Value} {L : List (Nat × Nat)} {w : World} (h : w.ownsRow B 46 2 v L.length (cellsI L)) : ItmSl w v L := by
  rcases h.2 with ⟨hv, h0⟩ | ⟨g, cap, cur, hv, _, hg, hnc, _, _, htk⟩
  · exact .inl ⟨none, 0, hv, List.length_eq_zero_iff.1 h0⟩
  · refine .inr ⟨g, 0, cap, hv, hnc, (Array.getElem?_eq_some_iff.1 hg).1, fun j hj => ?_⟩
    obtain ⟨h1, h2⟩ := cellsI_at L j hj
    rw [← htk] at h1 h2
    simp only [List.getElem?_take] at h1 h2
    rw [if_pos (by omega)] at h1
    rw [if_pos (by omega)] at h2
    constructor
    · rw [cell_of_row w g _ cur 46 (0, 0) hg, Nat.zero_add]
      simpa using h1
    · rw [cell_of_row w g _ cur 46 (0, 0) hg, Nat.zero_add]
      simpa using h2
theorem infoI : (Try.prog.info? 46).map (fun i => (i.zero, i.size, i.bytes)) = some (some (.agg #[.int .u64 0, .int .u64 0]), 2, 16) := by kernel_rfl
/-- Turned round: one more, from the end. -/
theorem turn_next (l : List (Nat × Nat)) (k : Nat) (hk : k < l.length) : (l.drop (k + 1)).reverse ++ [l[k]] = (l.drop k).reverse := by
  rw [List.drop_eq_getElem_cons hk, List.reverse_cons]
theorem owns_shapeB {w : World} {B : Nat} {e : TypeId} {sz : Nat} {v : Value} {n : Nat} {xs : List Value} (h : w.ownsRow B e sz v n xs) : ∃ a c, v = .slice a n c := by
  rcases h.2 with ⟨hv, h0⟩ | ⟨g, cap, cur, hv, _⟩
  · exact ⟨none, 0, by rw [hv, h0]⟩
  · exact ⟨_, _, hv⟩
theorem BinSl.len {w : World} {a : Option Addr} {n c : Nat} {L : List Bn} (h : BinSl w (.slice a n c) L) : n = L.length := by
  obtain ⟨a', c', h1, _⟩ := h.shape
  cases h1
  rfl
theorem pPlus9_bel (a b : Nat) (W : World) (hb : b ≤ topN) : Calls Try.prog 34 #[gV a, gV b] W fun e w' => e = .returned (gV (plusS a b)) ∧ Below W.heap.size W w' :=
  (pPlus9_any a b W hb).mono fun _ _ ⟨h1, h2⟩ => ⟨h1, by rw [h2]; exact Below.refl _ _⟩
end Go.Proofs.Ytpdedogdffolnaa
