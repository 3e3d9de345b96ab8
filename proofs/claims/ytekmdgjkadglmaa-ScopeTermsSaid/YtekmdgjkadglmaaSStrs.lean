
/- A list of texts in memory; how one that comes in is opened, and shut. -/
import Derived.Test.YtekmdgjkadglmaaLFrameL
import Derived.Deep.Strs
namespace Go.Proofs.Ytekmdgjkadglmaa
open Go.Deep Go.ChangeShapes Go.WideShapes Go.ChangeAt Go.RowKit Go.Joins

/-- A slice that reads as these texts. -/
def TxtSl (w : World) (v : Value) (ts : List ByteArray) : Prop :=
  (∃ a c, v = .slice a 0 c ∧ ts = []) ∨ ∃ g o c, v = .slice (some ⟨g, o, none⟩) ts.length c ∧ g < w.heap.size ∧ ∀ j (hj : j < ts.length), w.cell? ⟨g, o + j, none⟩ = some (.string ts[j])
theorem TxtSl.below {w w' : World} {v : Value} {ts : List ByteArray} (h : TxtSl w v ts) (hb : Below w.heap.size w w') : TxtSl w' v ts := by
  rcases h with h | ⟨g, o, c, h1, h2, h3⟩
  · exact .inl h
  · exact .inr ⟨g, o, c, h1, Nat.lt_of_lt_of_le h2 hb.size, fun j hj => (hb.cell (p := ⟨g, o + j, none⟩) h2).trans (h3 j hj)⟩
/-- The value's shape, and each text. -/
theorem TxtSl.shape {w : World} {v : Value} {ts : List ByteArray} (h : TxtSl w v ts) : ∃ ao c, v = .slice ao ts.length c ∧ ∀ j (hj : j < ts.length),
    ∃ g o, ao = some ⟨g, o, none⟩ ∧ ∀ W : World, Below w.heap.size w W → W.cell? ⟨g, o + j, none⟩ = some (.string ts[j]) := by
  rcases h with ⟨a, c, rfl, rfl⟩ | ⟨g, o, c, rfl, hg, hc⟩
  · exact ⟨a, c, rfl, fun j hj => absurd hj (by simp)⟩
  · exact ⟨_, _, rfl, fun j hj => ⟨g, o, rfl, fun W hb => (hb.cell (p := ⟨g, o + j, none⟩) hg).trans (hc j hj)⟩⟩
set_option maxRecDepth 100000 in
theorem open_txts {H : Type} {enc : TypeId × Value → H} {W : World} {base : Nat} {v : Value} {d : DataW H} {ps : List MemPlace} (hval : Value.okWide Try.prog W .any base 28 v)
    (hd : DataW.Trod enc Try.prog W 0 (fun _ => true) true 28 v d ps) : ∃ ts : List ByteArray, TxtSl W v ts ∧ ts.length ≤ maxLen ∧ ∀ t ∈ ts, t.size ≤ maxLen := by
  obtain ⟨a0, len, cap, rfl⟩ := okWide_slice Try.underlying28 hval
  obtain ⟨fuel, hf⟩ := hd
  rcases open_strs Try.underlying28 Try.underlying9 cellsSt hf with ⟨hcs, _⟩ | ⟨a, len', cap', m, Sx, hcs, _, hl, hm, hmm, _, hcell⟩
  · simp [Value.cells] at hcs
    obtain ⟨rfl, rfl, rfl⟩ := hcs
    exact ⟨[], .inl ⟨_, _, rfl, rfl⟩, Nat.zero_le _, fun t ht => by cases ht⟩
  · simp [Value.cells] at hcs
    obtain ⟨rfl, rfl, rfl⟩ := hcs
    simp only [if_true] at hmm
    by_cases hl0 : len = 0
    · subst hl0
      exact ⟨[], .inl ⟨_, _, rfl, rfl⟩, Nat.zero_le _, fun t ht => by cases ht⟩
    · obtain ⟨b, off, spot⟩ := a
      have hspot : spot = none := by simpa [Addr.add] using World.cell?_spot (hcell 0 (by omega)).1
      subst hspot
      have hcell' : ∀ j, j < len → W.cell? ⟨b, off + j, none⟩ = some (.string (Sx j)) ∧ (Sx j).size ≤ maxLen := fun j hj => by
        have h := hcell j (by omega)
        rwa [add_blockN] at h
      have hbW : b < W.heap.size := World.block_lt_of_cell? _ _ (hcell' 0 (by omega)).1
      refine ⟨(List.range len).map Sx, .inr ⟨b, off, cap, by simp, hbW, fun j hj => ?_⟩, by rw [List.length_map, List.length_range]; omega, ?_⟩
      · have hj' : j < len := by simpa using hj
        simp only [List.getElem_map, List.getElem_range]
        exact (hcell' j hj').1
      · intro t ht
        obtain ⟨j, hj, rfl⟩ := List.mem_map.1 ht
        exact (hcell' j (List.mem_range.1 hj)).2
theorem shut_txts {H : Type} {enc : TypeId × Value → H} {W W' : World} {v : Value} {d : DataW H} {ps : List MemPlace} (h0 : DataW.Trod enc Try.prog W 0 (fun _ => true) true 28 v d ps)
    (hb : Below W.heap.size W W') (hlt : ∀ x ∈ ps, x.block < W.heap.size) : DataW.Trod enc Try.prog W' 0 (fun b => decide (b < W.heap.size)) true 28 v d ps :=
  Below.trod laidOutL (by kernel_rfl) (of_decide_eq_true (by kernel_rfl)) h0 hb hlt
end Go.Proofs.Ytekmdgjkadglmaa
