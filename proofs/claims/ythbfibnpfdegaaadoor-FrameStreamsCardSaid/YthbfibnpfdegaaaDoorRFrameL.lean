/- How a list of texts that comes in is opened, and shut. -/
import Derived.Test.YthbfibnpfdegaaaDoorRFrame
import Derived.Test.YthbfibnpfdegaaaDoorFPuts
import Derived.Deep.Strs
namespace Go.Proofs.YthbfibnpfdegaaaDoor
open Go.Deep Go.ChangeShapes Go.WideShapes Go.ChangeAt Go.RowKit Go.Joins

theorem laidOut : laidOutB Tryd.prog = true := by kernel_rfl
theorem cells9 : Tryd.prog.cellsOf 9 = 1 := by kernel_rfl
set_option maxRecDepth 100000 in
theorem open_texts {H : Type} {enc : TypeId × Value → H} {W : World} {base : Nat} {v : Value} {d : DataW H} {ps : List MemPlace} (hval : Value.okWide Tryd.prog W .any base 32 v)
    (hd : DataW.Trod enc Tryd.prog W 0 (fun _ => true) true 32 v d ps) : ∃ ts : List ByteArray, StrSl W v ts ∧ ts.length ≤ maxLen ∧ ∀ t ∈ ts, t.size ≤ maxLen := by
  obtain ⟨a0, len, cap, rfl⟩ := okWide_slice Tryd.underlying32 hval
  obtain ⟨fuel, hf⟩ := hd
  rcases open_strs Tryd.underlying32 Tryd.underlying9 cells9 hf with ⟨hcs, _⟩ | ⟨a, len', cap', m, Sx, hcs, _, hl, hm, hmm, _, hcell⟩
  · simp [Value.cells] at hcs
    obtain ⟨rfl, rfl, rfl⟩ := hcs
    exact ⟨[], .inl ⟨_, _, rfl, rfl⟩, Nat.zero_le _, fun t ht => by cases ht⟩
  · simp [Value.cells] at hcs
    obtain ⟨rfl, rfl, rfl⟩ := hcs
    simp only [if_true] at hmm
    by_cases hl0 : len = 0
    · subst hl0
      exact ⟨[], .inl ⟨_, _, rfl, rfl⟩, Nat.zero_le _, fun t ht => by cases ht⟩
    · obtain ⟨b, off, spot⟩ := a
      have hspot : spot = none := by simpa [Addr.add] using World.cell?_spot (hcell 0 (by omega)).1
      subst hspot
      have hcell' : ∀ j, j < len → W.cell? ⟨b, off + j, none⟩ = some (.string (Sx j)) ∧ (Sx j).size ≤ maxLen := fun j hj => by rw [← add_plain]; exact hcell j (by omega)
      have hbW : b < W.heap.size := World.block_lt_of_cell? _ _ (hcell' 0 (by omega)).1
      refine ⟨(List.range len).map Sx, .inr ⟨b, off, cap, by simp, hbW, fun j hj => ?_⟩, by rw [List.length_map, List.length_range]; omega, ?_⟩
      · have hj' : j < len := by simpa using hj
        rw [(hcell' j hj').1, List.getD_eq_getElem?_getD]
        simp [hj']
      · intro t ht
        obtain ⟨j, hj, rfl⟩ := List.mem_map.1 ht
        exact (hcell' j (List.mem_range.1 hj)).2
theorem shut_texts {H : Type} {enc : TypeId × Value → H} {W W' : World} {v : Value} {d : DataW H} {ps : List MemPlace} (h0 : DataW.Trod enc Tryd.prog W 0 (fun _ => true) true 32 v d ps)
    (hb : Below W.heap.size W W') (hlt : ∀ x ∈ ps, x.block < W.heap.size) : DataW.Trod enc Tryd.prog W' 0 (fun b => decide (b < W.heap.size)) true 32 v d ps :=
  Below.trod laidOut (by kernel_rfl) (of_decide_eq_true (by kernel_rfl)) h0 hb hlt
end Go.Proofs.YthbfibnpfdegaaaDoor
