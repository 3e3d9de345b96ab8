/- How lists of numbers and registers that come in are opened, and shut. -/
import Derived.Test.YtnljepnmajcmgaaHBase
import Derived.ProofKit
import Derived.OpenShut
import Derived.Lib.SmallJoins
import Derived.Deep.Strs
import Derived.Carry
namespace Go.Proofs.Ytnljepnmajcmgaa
open Go.Deep Go.ChangeShapes Go.WideShapes Go.ChangeAt Go.RowKit Go.Joins

theorem ownE : ownKnob Try.prog.godebug = none := by kernel_rfl
theorem laidOutE : laidOutB Try.prog = true := by kernel_rfl
theorem cellsU : Try.prog.cellsOf 25 = 1 := by kernel_rfl
theorem nat_of_wf {x : Int} (h : (Lit.int .u64 x).wf = true) : ∃ n : Nat, x = (n : Int) ∧ n < 18446744073709551616 := by
  obtain ⟨h1, h2⟩ := (Bool.and_eq_true _ _).mp h
  have h1 : (0 : Int) ≤ x := of_decide_eq_true h1
  have h2 : x ≤ 18446744073709551615 := of_decide_eq_true h2
  exact ⟨x.toNat, by omega, by omega⟩
set_option maxRecDepth 100000 in
theorem nums_of_trod {H : Type} {enc : TypeId × Value → H} {W : World} {fuel : Nat} {a0 : Option Addr} {len cap : Nat} {x : DataW H × List MemPlace}
    (hf : DataW.trod enc Try.prog W 0 (fun _ => true) true fuel 24 [.slice a0 len cap] = some x) : ∃ L : List Nat, NumSl W (.slice a0 len cap) L ∧ L.length ≤ maxLen ∧ ∀ n ∈ L, n < 18446744073709551616 := by
  rcases open_ints Try.underlying24 Try.underlying25 cellsU hf with ⟨hcs, _⟩ | ⟨a, len', cap', zs, hcs, _, hl, hm, hz, _, hcell, hwf⟩
  · simp at hcs
    obtain ⟨rfl, rfl, rfl⟩ := hcs
    exact ⟨[], .inl ⟨_, _, rfl, fun _ => rfl, rfl⟩, Nat.zero_le _, fun t ht => by cases ht⟩
  · simp at hcs
    obtain ⟨rfl, rfl, rfl⟩ := hcs
    simp only [if_true] at hz
    by_cases hl0 : len = 0
    · subst hl0
      exact ⟨[], .inl ⟨_, _, rfl, fun h => (by cases h), rfl⟩, Nat.zero_le _, fun t ht => by cases ht⟩
    · obtain ⟨b, off, spot⟩ := a
      have hspot : spot = none := by simpa [Addr.add] using World.cell?_spot (hcell 0 (by omega))
      subst hspot
      have hnum : ∀ j, j < len → ∃ n : Nat, W.cell? ⟨b, off + j, none⟩ = some (nV n) ∧ n < 18446744073709551616 := fun j hj => by
        have h := hcell j (by omega)
        rw [add_blockN] at h
        obtain ⟨n, hn, hb⟩ := nat_of_wf (hwf (zs.getD j 0) (by rw [List.getD_eq_getElem?_getD, List.getElem?_eq_getElem (by omega)]; exact List.getElem_mem _))
        exact ⟨n, by rw [h, hn], hb⟩
      obtain ⟨q, hq⟩ := choose_lt hnum
      have hbW : b < W.heap.size := World.block_lt_of_cell? _ _ (hq 0 (by omega)).1
      refine ⟨(List.range len).map q, .inr ⟨b, off, cap, by simp, by simpa using hl, hbW, fun j hj => ?_⟩, by rw [List.length_map, List.length_range]; omega, ?_⟩
      · have hj' : j < len := by simpa using hj
        simp only [List.getElem_map, List.getElem_range]
        exact (hq j hj').1
      · intro n hn
        obtain ⟨j, hj, rfl⟩ := List.mem_map.1 hn
        exact (hq j (List.mem_range.1 hj)).2
theorem open_nums {H : Type} {enc : TypeId × Value → H} {W : World} {base : Nat} {v : Value} {d : DataW H} {ps : List MemPlace} (hval : Value.okWide Try.prog W .any base 24 v)
    (hd : DataW.Trod enc Try.prog W 0 (fun _ => true) true 24 v d ps) : ∃ L : List Nat, NumSl W v L ∧ L.length ≤ maxLen ∧ ∀ n ∈ L, n < 18446744073709551616 := by
  obtain ⟨a0, len, cap, rfl⟩ := okWide_slice Try.underlying24 hval
  obtain ⟨fuel, hf⟩ := hd
  exact nums_of_trod hf
theorem shut_nums {H : Type} {enc : TypeId × Value → H} {W W' : World} {v : Value} {d : DataW H} {ps : List MemPlace} (h0 : DataW.Trod enc Try.prog W 0 (fun _ => true) true 24 v d ps)
    (hb : Below W.heap.size W W') (hlt : ∀ x ∈ ps, x.block < W.heap.size) : DataW.Trod enc Try.prog W' 0 (fun b => decide (b < W.heap.size)) true 24 v d ps :=
  Below.trod laidOutE (by kernel_rfl) (of_decide_eq_true (by kernel_rfl)) h0 hb hlt
theorem cellsH : Try.prog.cellsOf 23 = 2 := by kernel_rfl
theorem open_hll {H : Type} {enc : TypeId × Value → H} {W : World} {base : Nat} {v : Value} {d : DataW H} {ps : List MemPlace} (hval : Value.okWide Try.prog W .any base 23 v)
    (hd : DataW.Trod enc Try.prog W 0 (fun _ => true) true 23 v d ps) : ∃ (b : Int) (s : ByteArray), v = .agg #[.int .i64 b, .string s] ∧ s.size ≤ maxLen := by
  obtain ⟨c0, c1, y0, y1, m, rfl, _, _, hy0, hy1⟩ := open_agg2 Try.underlying23 (by kernel_rfl) cellsH hval hd
  obtain ⟨a, e0, _, _⟩ := DataW.trod_int Try.underlying3 hy0
  obtain ⟨s, e1, _, hs⟩ := DataW.trod_string Try.underlying9 hy1
  simp at e0 e1
  subst e0 e1
  exact ⟨a, s, rfl, hs⟩
theorem shut_hll {H : Type} {enc : TypeId × Value → H} {W W' : World} {v : Value} {d : DataW H} {ps : List MemPlace} (h0 : DataW.Trod enc Try.prog W 0 (fun _ => true) true 23 v d ps)
    (hb : Below W.heap.size W W') (hlt : ∀ x ∈ ps, x.block < W.heap.size) : DataW.Trod enc Try.prog W' 0 (fun b => decide (b < W.heap.size)) true 23 v d ps :=
  Below.trod laidOutE (by kernel_rfl) (of_decide_eq_true (by kernel_rfl)) h0 hb hlt
end Go.Proofs.Ytnljepnmajcmgaa
