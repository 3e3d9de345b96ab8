
/- How a list of labels that comes in is opened, and shut. -/
import Derived.Test.YtekmdgjkadglmaaLFew
import Derived.ProofKit
import Derived.OpenShut
import Derived.Lib.SmallJoins
import Derived.Deep.SlicePairs
namespace Go.Proofs.Ytekmdgjkadglmaa
open Go.Deep Go.ChangeShapes Go.WideShapes Go.ChangeAt Go.RowKit Go.Joins

theorem ownL : ownKnob Try.prog.godebug = none := by kernel_rfl
theorem laidOutL : laidOutB Try.prog = true := by kernel_rfl
theorem cellsSt : Try.prog.cellsOf 9 = 1 := by kernel_rfl
theorem cellsLb : Try.prog.cellsOf 37 = 2 := by kernel_rfl
set_option maxRecDepth 100000 in
theorem open_labels {H : Type} {enc : TypeId × Value → H} {W : World} {base : Nat} {v : Value} {d : DataW H} {ps : List MemPlace} (hval : Value.okWide Try.prog W .any base 29 v)
    (hd : DataW.Trod enc Try.prog W 0 (fun _ => true) true 29 v d ps) : ∃ L : List Lab, LblSl W v L ∧ L.length ≤ maxLen ∧ ∀ x ∈ L, x.1.size ≤ maxLen ∧ x.2.size ≤ maxLen := by
  obtain ⟨a0, len, cap, rfl⟩ := okWide_slice Try.underlying29 hval
  obtain ⟨fuel, hf⟩ := hd
  rcases open_slice_pairs Try.underlying29 Try.underlying37 cellsLb rfl rfl cellsSt cellsSt hf with ⟨hcs, _⟩ | ⟨a, len', cap', m, n, V0, V1, D0, D1, P0, P1, hcs, _, hl, hm, hmm, _, hcell⟩
  · simp [Value.cells] at hcs
    obtain ⟨rfl, rfl, rfl⟩ := hcs
    exact ⟨[], .inl ⟨_, _, rfl, rfl⟩, Nat.zero_le _, fun t ht => by cases ht⟩
  · simp [Value.cells] at hcs
    obtain ⟨rfl, rfl, rfl⟩ := hcs
    simp only [if_true] at hmm
    by_cases hl0 : len = 0
    · subst hl0
      exact ⟨[], .inl ⟨_, _, rfl, rfl⟩, Nat.zero_le _, fun t ht => by cases ht⟩
    · obtain ⟨b, off, spot⟩ := a
      have hspot : spot = none := by simpa [Addr.add] using World.cell?_spot (hcell 0 (by omega)).1
      subst hspot
      have each : ∀ i, i < len → ∃ x : Lab, W.cell? ⟨b, off + i * 2, none⟩ = some (.string x.1) ∧ W.cell? ⟨b, off + i * 2 + 1, none⟩ = some (.string x.2) ∧ x.1.size ≤ maxLen ∧ x.2.size ≤ maxLen := fun i hi => by
        obtain ⟨c0, c1, h0, h1⟩ := hcell i (by omega)
        obtain ⟨s0, e0, _, z0⟩ := DataW.trod_string Try.underlying9 h0
        obtain ⟨s1, e1, _, z1⟩ := DataW.trod_string Try.underlying9 h1
        have e0' : V0 i = .string s0 := by simpa using e0
        have e1' : V1 i = .string s1 := by simpa using e1
        rw [add_blockN, e0'] at c0
        rw [add_blockN, e1', ← Nat.add_assoc] at c1
        exact ⟨(s0, s1), c0, c1, z0, z1⟩
      obtain ⟨q, hq⟩ := choose_lt each
      have hbW : b < W.heap.size := World.block_lt_of_cell? _ _ (hq 0 (by omega)).1
      refine ⟨(List.range len).map q, .inr ⟨b, off, cap, by simp, hbW, fun j hj => ?_⟩, by rw [List.length_map, List.length_range]; omega, ?_⟩
      · have hj' : j < len := by simpa using hj
        simp only [List.getElem_map, List.getElem_range]
        exact ⟨(hq j hj').1, (hq j hj').2.1⟩
      · intro x hx
        obtain ⟨j, hj, rfl⟩ := List.mem_map.1 hx
        exact (hq j (List.mem_range.1 hj)).2.2
theorem shut_labels {H : Type} {enc : TypeId × Value → H} {W W' : World} {v : Value} {d : DataW H} {ps : List MemPlace} (h0 : DataW.Trod enc Try.prog W 0 (fun _ => true) true 29 v d ps)
    (hb : Below W.heap.size W W') (hlt : ∀ x ∈ ps, x.block < W.heap.size) : DataW.Trod enc Try.prog W' 0 (fun b => decide (b < W.heap.size)) true 29 v d ps :=
  Below.trod laidOutL (by kernel_rfl) (of_decide_eq_true (by kernel_rfl)) h0 hb hlt
end Go.Proofs.Ytekmdgjkadglmaa
