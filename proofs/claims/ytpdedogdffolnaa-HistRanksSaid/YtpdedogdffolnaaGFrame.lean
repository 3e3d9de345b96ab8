/- Histograms that come in: opened, and shut (stage 9). CFrame by fill3.py, where the seat lacks api.Cms. -/
import Derived.Test.YtpdedogdffolnaaCFrame
import Derived.Test.YtpdedogdffolnaaGLow
namespace Go.Proofs.Ytpdedogdffolnaa
open Go.Deep Go.ChangeShapes Go.WideShapes Go.ChangeAt Go.RowKit Go.Joins

/-- A whole number of the machine. -/
def smallI (x : Int) : Prop := -9223372036854775808 ≤ x ∧ x ≤ 9223372036854775807
/-- Bins that come in: places of the machine, and how many. -/
def binsOk (L : List Bn) : Prop := L.length ≤ maxLen ∧ ∀ x ∈ L, smallI x.1 ∧ x.2 ≤ topN
theorem int_of_wf {x : Int} (h : (Lit.int .i64 x).wf = true) : smallI x := by
  obtain ⟨h1, h2⟩ := (Bool.and_eq_true _ _).mp h
  exact ⟨of_decide_eq_true h1, of_decide_eq_true h2⟩
theorem cellsHt : Try.prog.cellsOf 25 = 2 := by kernel_rfl
theorem cellsBn : Try.prog.cellsOf 68 = 2 := by kernel_rfl
theorem cellsIn9 : Try.prog.cellsOf 3 = 1 := by kernel_rfl
set_option maxRecDepth 100000 in
theorem bins_of_trod {H : Type} {enc : TypeId × Value → H} {W : World} {fuel : Nat} {a0 : Option Addr} {len cap : Nat} {x : DataW H × List MemPlace}
    (hf : DataW.trod enc Try.prog W 0 (fun _ => true) true fuel 23 [.slice a0 len cap] = some x) : ∃ L : List Bn, BinSl W (.slice a0 len cap) L ∧ binsOk L := by
  rcases open_slice_pairs Try.underlying23 Try.underlying68 cellsBn rfl rfl cellsIn9 cellsU hf with ⟨hcs, _⟩ | ⟨a, len', cap', m, n, V0, V1, D0, D1, P0, P1, hcs, _, hl, hm, hmm, _, hcell⟩
  · simp at hcs
    obtain ⟨rfl, rfl, rfl⟩ := hcs
    exact ⟨[], .inl ⟨_, _, rfl, fun _ => rfl, rfl⟩, Nat.zero_le _, fun t ht => by cases ht⟩
  · simp at hcs
    obtain ⟨rfl, rfl, rfl⟩ := hcs
    simp only [if_true] at hmm
    by_cases hl0 : len = 0
    · subst hl0
      exact ⟨[], .inl ⟨_, _, rfl, fun h => (by cases h), rfl⟩, Nat.zero_le _, fun t ht => by cases ht⟩
    · obtain ⟨b, off, spot⟩ := a
      have hspot : spot = none := by simpa [Addr.add] using World.cell?_spot (hcell 0 (by omega)).1
      subst hspot
      have each : ∀ i, i < len → ∃ x : Bn, W.cell? ⟨b, off + i * 2, none⟩ = some (.int .i64 x.1) ∧ W.cell? ⟨b, off + i * 2 + 1, none⟩ = some (gV x.2) ∧ smallI x.1 ∧ x.2 ≤ topN := fun i hi => by
        obtain ⟨c0, c1, h0, h1⟩ := hcell i (by omega)
        obtain ⟨s0, e0, _, z0⟩ := DataW.trod_int Try.underlying3 h0
        obtain ⟨s1, e1, _, z1⟩ := DataW.trod_int Try.underlying22 h1
        obtain ⟨n1, hn1, b1⟩ := nat_of_wf z1
        have e0' : V0 i = .int .i64 s0 := by simpa using e0
        have e1' : V1 i = .int .u64 (n1 : Int) := by rw [← hn1]; simpa using e1
        rw [add_blockN, e0'] at c0
        rw [add_blockN, e1', ← Nat.add_assoc] at c1
        exact ⟨(s0, n1), c0, c1, int_of_wf z0, by show n1 ≤ 18446744073709551615; omega⟩
      obtain ⟨q, hq⟩ := choose_lt each
      have hbW : b < W.heap.size := World.block_lt_of_cell? _ _ (hq 0 (by omega)).1
      refine ⟨(List.range len).map q, .inr ⟨b, off, cap, by simp, by simpa using hl, hbW, fun j hj => ?_⟩, by rw [List.length_map, List.length_range]; omega, ?_⟩
      · have hj' : j < len := by simpa using hj
        simp only [List.getElem_map, List.getElem_range]
        exact ⟨(hq j hj').1, (hq j hj').2.1⟩
      · intro x hx
        obtain ⟨j, hj, rfl⟩ := List.mem_map.1 hx
        exact (hq j (List.mem_range.1 hj)).2.2
set_option maxRecDepth 100000 in
theorem open_hist {H : Type} {enc : TypeId × Value → H} {W : World} {base : Nat} {v : Value} {d : DataW H} {ps : List MemPlace} (hval : Value.okWide Try.prog W .any base 25 v)
    (hd : DataW.Trod enc Try.prog W 0 (fun _ => true) true 25 v d ps) : ∃ (f : Int) (L : List Bn) (u : Value), v = hgV f u ∧ smallI f ∧ BinSl W u L ∧ binsOk L := by
  obtain ⟨c0, c1, y0, y1, m, rfl, _, _, hy0, hy1⟩ := open_agg2 Try.underlying25 (by kernel_rfl) cellsHt hval hd
  obtain ⟨a, e0, _, z0⟩ := DataW.trod_int Try.underlying3 hy0
  simp at e0
  subst e0
  have h2 : DataW.trod enc Try.prog W 0 (fun _ => true) true m 23 [c1] = some y1 := hy1
  obtain ⟨ao, l, c, hs⟩ := slice_form Try.underlying23 h2
  have hs' : c1 = .slice ao l c := by simpa using hs
  subst hs'
  obtain ⟨L, h3, h4⟩ := bins_of_trod h2
  exact ⟨a, L, _, rfl, int_of_wf z0, h3, h4⟩
set_option maxRecDepth 100000 in
theorem shut_hist {H : Type} {enc : TypeId × Value → H} {W W' : World} {v : Value} {d : DataW H} {ps : List MemPlace} (h0 : DataW.Trod enc Try.prog W 0 (fun _ => true) true 25 v d ps)
    (hb : Below W.heap.size W W') (hlt : ∀ x ∈ ps, x.block < W.heap.size) : DataW.Trod enc Try.prog W' 0 (fun b => decide (b < W.heap.size)) true 25 v d ps :=
  Below.trod laidOutE (by kernel_rfl) (of_decide_eq_true (by kernel_rfl)) h0 hb hlt
end Go.Proofs.Ytpdedogdffolnaa
