/- The statements' walks, stage 8: a list of items of its own. -/
import Derived.Test.YthhlofcmhnkcmaaCItm
namespace Go.Proofs.Ythhlofcmhnkcmaa
open Go.RowKit

def cellsI (L : List (Nat × Nat)) : List Value := L.flatMap fun x => [nV x.1, nV x.2]
theorem cellsI_len (L : List (Nat × Nat)) : (cellsI L).length = L.length * 2 := by
  induction L with
  | nil => rfl
  | cons x L ih =>
    have hc : cellsI (x :: L) = nV x.1 :: nV x.2 :: cellsI L := by simp [cellsI]
    rw [hc]
    simp only [List.length_cons, ih]
    omega
theorem cellsI_app (A B : List (Nat × Nat)) : cellsI (A ++ B) = cellsI A ++ cellsI B := by simp [cellsI]
theorem cellsI_one (L : List (Nat × Nat)) : ∀ u ∈ cellsI L, u.oneCell' = true := by
  intro u hu
  simp only [cellsI, List.mem_flatMap, List.mem_cons, List.not_mem_nil, or_false] at hu
  obtain ⟨x, _, rfl | rfl⟩ := hu <;> rfl
theorem cellsI_at (L : List (Nat × Nat)) : ∀ j (hj : j < L.length), (cellsI L)[j * 2]? = some (nV L[j].1) ∧ (cellsI L)[j * 2 + 1]? = some (nV L[j].2) := by
  induction L with
  | nil => intro j hj; simp at hj
  | cons x L ih =>
    have hc : cellsI (x :: L) = nV x.1 :: nV x.2 :: cellsI L := by simp [cellsI]
    intro j hj
    rw [hc]
    cases j with
    | zero => exact ⟨rfl, rfl⟩
    | succ j =>
      obtain ⟨h1, h2⟩ := ih j (by simpa using hj)
      rw [show (j + 1) * 2 = j * 2 + 2 by omega, show j * 2 + 2 + 1 = (j * 2 + 1) + 2 by omega]
      exact ⟨by simpa using h1, by simpa using h2⟩
theorem itmSl_of_owns {B : Nat} {v : Value} {L : List (Nat × Nat)} {w : World} (h : w.ownsRow B 42 2 v L.length (cellsI L)) : ItmSl w v L := by
  rcases h.2 with ⟨hv, h0⟩ | ⟨g, cap, cur, hv, _, hg, hnc, _, _, htk⟩
  · exact .inl ⟨none, 0, hv, List.length_eq_zero_iff.1 h0⟩
  · refine .inr ⟨g, 0, cap, hv, hnc, (Array.getElem?_eq_some_iff.1 hg).1, fun j hj => ?_⟩
    obtain ⟨h1, h2⟩ := cellsI_at L j hj
    rw [← htk] at h1 h2
    simp only [List.getElem?_take] at h1 h2
    rw [if_pos (by omega)] at h1
    rw [if_pos (by omega)] at h2
    constructor
    · rw [cell_of_row w g _ cur 42 (0, 0) hg, Nat.zero_add]
      simpa using h1
    · rw [cell_of_row w g _ cur 42 (0, 0) hg, Nat.zero_add]
      simpa using h2
theorem infoI : (Try.prog.info? 42).map (fun i => (i.zero, i.size, i.bytes)) = some (some (.agg #[.int .u64 0, .int .u64 0]), 2, 16) := by kernel_rfl
/-- Turned round: one more, from the end. -/
theorem turn_next (l : List (Nat × Nat)) (k : Nat) (hk : k < l.length) : (l.drop (k + 1)).reverse ++ [l[k]] = (l.drop k).reverse := by
  rw [List.drop_eq_getElem_cons hk, List.reverse_cons]
end Go.Proofs.Ythhlofcmhnkcmaa
