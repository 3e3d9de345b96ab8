
/- How lists of numbers, counters and lists of items that come in are opened, and shut. -/
import Derived.Test.YtpdedogdffolnaaCBase
import Derived.ProofKit
import Derived.OpenShut
import Derived.Lib.SmallJoins
import Derived.Deep.Strs
import Derived.Carry
import Derived.Deep.SlicePairs
namespace Go.Proofs.Ytpdedogdffolnaa
open Go.Deep Go.ChangeShapes Go.WideShapes Go.ChangeAt Go.RowKit Go.Joins

theorem ownE : ownKnob Try.prog.godebug = none := by kernel_rfl
theorem laidOutE : laidOutB Try.prog = true := by kernel_rfl
theorem cellsU : Try.prog.cellsOf 22 = 1 := by kernel_rfl
theorem nat_of_wf {x : Int} (h : (Lit.int .u64 x).wf = true) : ∃ n : Nat, x = (n : Int) ∧ n < 18446744073709551616 := by
  obtain ⟨h1, h2⟩ := (Bool.and_eq_true _ _).mp h
  have h1 : (0 : Int) ≤ x := of_decide_eq_true h1
  have h2 : x ≤ 18446744073709551615 := of_decide_eq_true h2
  exact ⟨x.toNat, by omega, by omega⟩
set_option maxRecDepth 100000 in
theorem nums_of_trod {H : Type} {enc : TypeId × Value → H} {W : World} {fuel : Nat} {a0 : Option Addr} {len cap : Nat} {x : DataW H × List MemPlace}
    (hf : DataW.trod enc Try.prog W 0 (fun _ => true) true fuel 50 [.slice a0 len cap] = some x) : ∃ L : List Nat, NumSl W (.slice a0 len cap) L ∧ L.length ≤ maxLen ∧ ∀ n ∈ L, n < 18446744073709551616 := by
  rcases open_ints Try.underlying50 Try.underlying22 cellsU hf with ⟨hcs, _⟩ | ⟨a, len', cap', zs, hcs, _, hl, hm, hz, _, hcell, hwf⟩
  · simp at hcs
    obtain ⟨rfl, rfl, rfl⟩ := hcs
    exact ⟨[], .inl ⟨_, _, rfl, fun _ => rfl, rfl⟩, Nat.zero_le _, fun t ht => by cases ht⟩
  · simp at hcs
    obtain ⟨rfl, rfl, rfl⟩ := hcs
    simp only [if_true] at hz
    by_cases hl0 : len = 0
    · subst hl0
      exact ⟨[], .inl ⟨_, _, rfl, fun h => (by cases h), rfl⟩, Nat.zero_le _, fun t ht => by cases ht⟩
    · obtain ⟨b, off, spot⟩ := a
      have hspot : spot = none := by simpa [Addr.add] using World.cell?_spot (hcell 0 (by omega))
      subst hspot
      have hnum : ∀ j, j < len → ∃ n : Nat, W.cell? ⟨b, off + j, none⟩ = some (nV n) ∧ n < 18446744073709551616 := fun j hj => by
        have h := hcell j (by omega)
        rw [add_blockN] at h
        obtain ⟨n, hn, hb⟩ := nat_of_wf (hwf (zs.getD j 0) (by rw [List.getD_eq_getElem?_getD, List.getElem?_eq_getElem (by omega)]; exact List.getElem_mem _))
        exact ⟨n, by rw [h, hn], hb⟩
      obtain ⟨q, hq⟩ := choose_lt hnum
      have hbW : b < W.heap.size := World.block_lt_of_cell? _ _ (hq 0 (by omega)).1
      refine ⟨(List.range len).map q, .inr ⟨b, off, cap, by simp, by simpa using hl, hbW, fun j hj => ?_⟩, by rw [List.length_map, List.length_range]; omega, ?_⟩
      · have hj' : j < len := by simpa using hj
        simp only [List.getElem_map, List.getElem_range]
        exact (hq j hj').1
      · intro n hn
        obtain ⟨j, hj, rfl⟩ := List.mem_map.1 hn
        exact (hq j (List.mem_range.1 hj)).2
set_option maxRecDepth 100000 in
theorem open_nums {H : Type} {enc : TypeId × Value → H} {W : World} {base : Nat} {v : Value} {d : DataW H} {ps : List MemPlace} (hval : Value.okWide Try.prog W .any base 50 v)
    (hd : DataW.Trod enc Try.prog W 0 (fun _ => true) true 50 v d ps) : ∃ L : List Nat, NumSl W v L ∧ L.length ≤ maxLen ∧ ∀ n ∈ L, n < 18446744073709551616 := by
  obtain ⟨a0, len, cap, rfl⟩ := okWide_slice Try.underlying50 hval
  obtain ⟨fuel, hf⟩ := hd
  exact nums_of_trod hf
set_option maxRecDepth 100000 in
theorem shut_nums {H : Type} {enc : TypeId × Value → H} {W W' : World} {v : Value} {d : DataW H} {ps : List MemPlace} (h0 : DataW.Trod enc Try.prog W 0 (fun _ => true) true 50 v d ps)
    (hb : Below W.heap.size W W') (hlt : ∀ x ∈ ps, x.block < W.heap.size) : DataW.Trod enc Try.prog W' 0 (fun b => decide (b < W.heap.size)) true 50 v d ps :=
  Below.trod laidOutE (by kernel_rfl) (of_decide_eq_true (by kernel_rfl)) h0 hb hlt
theorem cellsIt : Try.prog.cellsOf 46 = 2 := by kernel_rfl
/-- A list of items, as it lies in memory. -/
def ItmSl (w : World) (v : Value) (L : List (Nat × Nat)) : Prop :=
  (∃ a c, v = .slice a 0 c ∧ L = []) ∨ ∃ g o c, v = .slice (some ⟨g, o, none⟩) L.length c ∧ L.length ≤ c ∧ g < w.heap.size ∧
    ∀ j (hj : j < L.length), w.cell? ⟨g, o + j * 2, none⟩ = some (nV L[j].1) ∧ w.cell? ⟨g, o + j * 2 + 1, none⟩ = some (nV L[j].2)
theorem ItmSl.below {w w' : World} {v : Value} {L : List (Nat × Nat)} (h : ItmSl w v L) (hb : Below w.heap.size w w') : ItmSl w' v L := by
  rcases h with h | ⟨g, o, c, hv, hlc, hg, hc⟩
  · exact .inl h
  · refine .inr ⟨g, o, c, hv, hlc, Nat.lt_of_lt_of_le hg hb.size, fun j hj => ?_⟩
    obtain ⟨h1, h2⟩ := hc j hj
    exact ⟨(hb.cell (p := ⟨g, _, none⟩) hg).trans h1, (hb.cell (p := ⟨g, _, none⟩) hg).trans h2⟩
theorem ItmSl.shape {w : World} {v : Value} {L : List (Nat × Nat)} (h : ItmSl w v L) : ∃ ao c, v = .slice ao L.length c ∧ ∀ j (hj : j < L.length),
    ∃ g o, ao = some ⟨g, o, none⟩ ∧ ∀ W, Below w.heap.size w W → W.cell? ⟨g, o + j * 2, none⟩ = some (nV L[j].1) ∧ W.cell? ⟨g, o + j * 2 + 1, none⟩ = some (nV L[j].2) := by
  rcases h with ⟨a, c, rfl, rfl⟩ | ⟨g, o, c, hv, hlc, hg, hc⟩
  · exact ⟨a, c, rfl, fun j hj => by simp at hj⟩
  · refine ⟨_, _, hv, fun j hj => ⟨g, o, rfl, fun W hb => ?_⟩⟩
    obtain ⟨h1, h2⟩ := hc j hj
    exact ⟨(hb.cell (p := ⟨g, _, none⟩) hg).trans h1, (hb.cell (p := ⟨g, _, none⟩) hg).trans h2⟩
set_option maxRecDepth 100000 in
theorem open_items {H : Type} {enc : TypeId × Value → H} {W : World} {base : Nat} {v : Value} {d : DataW H} {ps : List MemPlace} (hval : Value.okWide Try.prog W .any base 44 v)
    (hd : DataW.Trod enc Try.prog W 0 (fun _ => true) true 44 v d ps) : ∃ L : List (Nat × Nat), ItmSl W v L ∧ L.length ≤ maxLen ∧ ∀ x ∈ L, x.1 ≤ topN ∧ x.2 ≤ topN := by
  obtain ⟨a0, len, cap, rfl⟩ := okWide_slice Try.underlying44 hval
  obtain ⟨fuel, hf⟩ := hd
  rcases open_slice_pairs Try.underlying44 Try.underlying46 cellsIt rfl rfl cellsU cellsU hf with ⟨hcs, _⟩ | ⟨a, len', cap', m, n, V0, V1, D0, D1, P0, P1, hcs, _, hl, hm, hmm, _, hcell⟩
  · simp [Value.cells] at hcs
    obtain ⟨rfl, rfl, rfl⟩ := hcs
    exact ⟨[], .inl ⟨_, _, rfl, rfl⟩, Nat.zero_le _, fun t ht => by cases ht⟩
  · simp [Value.cells] at hcs
    obtain ⟨rfl, rfl, rfl⟩ := hcs
    simp only [if_true] at hmm
    by_cases hl0 : len = 0
    · subst hl0
      exact ⟨[], .inl ⟨_, _, rfl, rfl⟩, Nat.zero_le _, fun t ht => by cases ht⟩
    · obtain ⟨b, off, spot⟩ := a
      have hspot : spot = none := by simpa [Addr.add] using World.cell?_spot (hcell 0 (by omega)).1
      subst hspot
      have each : ∀ i, i < len → ∃ x : Nat × Nat, W.cell? ⟨b, off + i * 2, none⟩ = some (nV x.1) ∧ W.cell? ⟨b, off + i * 2 + 1, none⟩ = some (nV x.2) ∧ x.1 ≤ topN ∧ x.2 ≤ topN := fun i hi => by
        obtain ⟨c0, c1, h0, h1⟩ := hcell i (by omega)
        obtain ⟨s0, e0, _, z0⟩ := DataW.trod_int Try.underlying22 h0
        obtain ⟨s1, e1, _, z1⟩ := DataW.trod_int Try.underlying22 h1
        obtain ⟨n0, hn0, b0⟩ := nat_of_wf z0
        obtain ⟨n1, hn1, b1⟩ := nat_of_wf z1
        have e0' : V0 i = .int .u64 (n0 : Int) := by rw [← hn0]; simpa using e0
        have e1' : V1 i = .int .u64 (n1 : Int) := by rw [← hn1]; simpa using e1
        rw [add_blockN, e0'] at c0
        rw [add_blockN, e1', ← Nat.add_assoc] at c1
        exact ⟨(n0, n1), c0, c1, by show n0 ≤ 18446744073709551615; omega, by show n1 ≤ 18446744073709551615; omega⟩
      obtain ⟨q, hq⟩ := choose_lt each
      have hbW : b < W.heap.size := World.block_lt_of_cell? _ _ (hq 0 (by omega)).1
      refine ⟨(List.range len).map q, .inr ⟨b, off, cap, by simp, by simpa using hl, hbW, fun j hj => ?_⟩, by rw [List.length_map, List.length_range]; omega, ?_⟩
      · have hj' : j < len := by simpa using hj
        simp only [List.getElem_map, List.getElem_range]
        exact ⟨(hq j hj').1, (hq j hj').2.1⟩
      · intro x hx
        obtain ⟨j, hj, rfl⟩ := List.mem_map.1 hx
        exact (hq j (List.mem_range.1 hj)).2.2
theorem shut_items {H : Type} {enc : TypeId × Value → H} {W W' : World} {v : Value} {d : DataW H} {ps : List MemPlace} (h0 : DataW.Trod enc Try.prog W 0 (fun _ => true) true 44 v d ps)
    (hb : Below W.heap.size W W') (hlt : ∀ x ∈ ps, x.block < W.heap.size) : DataW.Trod enc Try.prog W' 0 (fun b => decide (b < W.heap.size)) true 44 v d ps :=
  Below.trod laidOutE (by kernel_rfl) (of_decide_eq_true (by kernel_rfl)) h0 hb hlt
section
variable {H : Type} {enc : TypeId × Value → H} {P : Program} {w : World} {base : Nat} {spare : Nat → Bool} {held : Bool}
/-- Five parameters: opened. -/
theorem trodAll_five {s0 s1 s2 s3 s4 : TypeId} {args : Array Value} {ds : List (DataW H)} {ps : List MemPlace} (h : DataW.TrodAll enc P w base spare held [s0, s1, s2, s3, s4] args.toList ds ps) :
    ∃ v0 v1 v2 v3 v4 d0 d1 d2 d3 d4 p0 p1 p2 p3 p4, args = #[v0, v1, v2, v3, v4] ∧ ds = [d0, d1, d2, d3, d4] ∧ ps = p0 ++ p1 ++ p2 ++ p3 ++ p4 ∧ DataW.Trod enc P w base spare held s0 v0 d0 p0 ∧ DataW.Trod enc P w base spare held s1 v1 d1 p1 ∧
      DataW.Trod enc P w base spare held s2 v2 d2 p2 ∧ DataW.Trod enc P w base spare held s3 v3 d3 p3 ∧ DataW.Trod enc P w base spare held s4 v4 d4 p4 := by
  obtain ⟨v0, vs0, d0, ds0, p0, r0, e0, rfl, rfl, h0, g0⟩ := trodAll_cons h
  obtain ⟨v1, vs1, d1, ds1, p1, r1, rfl, rfl, rfl, h1, g1⟩ := trodAll_cons g0
  obtain ⟨v2, vs2, d2, ds2, p2, r2, rfl, rfl, rfl, h2, g2⟩ := trodAll_cons g1
  obtain ⟨v3, vs3, d3, ds3, p3, r3, rfl, rfl, rfl, h3, g3⟩ := trodAll_cons g2
  obtain ⟨v4, vs4, d4, ds4, p4, r4, rfl, rfl, rfl, h4, g4⟩ := trodAll_cons g3
  obtain ⟨rfl, rfl, rfl⟩ := trodAll_nil g4
  exact ⟨v0, v1, v2, v3, v4, d0, d1, d2, d3, d4, p0, p1, p2, p3, p4, by cases args; simp_all, rfl, by simp, h0, h1, h2, h3, h4⟩
theorem trodAll_mk5 {s0 s1 s2 s3 s4 : TypeId} {v0 v1 v2 v3 v4 : Value} {d0 d1 d2 d3 d4 : DataW H} {p0 p1 p2 p3 p4 : List MemPlace} (h0 : DataW.Trod enc P w base spare held s0 v0 d0 p0) (h1 : DataW.Trod enc P w base spare held s1 v1 d1 p1)
    (h2 : DataW.Trod enc P w base spare held s2 v2 d2 p2) (h3 : DataW.Trod enc P w base spare held s3 v3 d3 p3) (h4 : DataW.Trod enc P w base spare held s4 v4 d4 p4) :
    DataW.TrodAll enc P w base spare held [s0, s1, s2, s3, s4] [v0, v1, v2, v3, v4] [d0, d1, d2, d3, d4] (p0 ++ (p1 ++ (p2 ++ (p3 ++ p4)))) := ⟨p0, p1 ++ (p2 ++ (p3 ++ p4)), h0, trodAll_mk4 h1 h2 h3 h4, rfl⟩
end
end Go.Proofs.Ytpdedogdffolnaa
