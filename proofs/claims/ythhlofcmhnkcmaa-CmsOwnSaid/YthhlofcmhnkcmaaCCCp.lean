/- Lists of numbers: make and copy inside a fence. -/
import Derived.Test.YthhlofcmhnkcmaaCCTl
import Derived.Laws.CopyOwn
namespace Go.Proofs.Ythhlofcmhnkcmaa
open Go.RowKit Go.Shelf

theorem wpListIn_make_full {F : Fence} {n : Nat} {P : Program} (w : World) {ops : Array Oper} {rest : List Oper} {o : Oper} {a : Act} {Q : Exit → Act → World → Prop}
    (hg : o.guard = none) (l c : Operand) (t : TypeId) (hop : o.op = Op.makeSlice t l c)
    (base : Nat) (e : TypeId) (i : TypeInfo) (z : Value) (size : Nat) (h1 : P.underlying t = some (.slice e)) (h2 : P.info? e = some i) (h3 : i.zero = some z) (h4 : i.size = size)
    (kl kc : IntKind) (L C : Int) (m : Nat) (hl : a.eval l = .int kl L) (hc : a.eval c = .int kc C) (hL : L = (m : Int)) (hC : C = (m : Int)) (b2 : i.bytes * m ≤ 281474976710656) (b3 : m ≤ maxLen) (b4 : base ≤ w.heap.size)
    (hK : ∀ w', w'.ownsRow base e size (.slice (some ⟨w.heap.size, 0, none⟩) m m) m (madeCells z.cells (m * size)).toList → w.grownBy w' none → wpListIn F n P ops Q rest (a.put o.dst (.slice (some ⟨w.heap.size, 0, none⟩) m m)) w') :
    wpListIn F n P ops Q (o :: rest) a w := by
  refine wpListIn_plain hg fun K hK' => ?_
  obtain ⟨w', hrun, r1, r2⟩ := run_make_full (P := P) w base t e i z size h1 h2 h3 h4 kl kc m b2 b3 b4
  subst hL
  subst hC
  unfold Oper.wpIn
  refine ⟨?_, ?_⟩
  · simp [Oper.about, hop]
  · rw [Oper.semAt_plain F _ _ (by rw [hop]; intro c hc'; cases hc')]
    simp [execOp, hop, hl, hc, hrun, Result.andThen]
    exact hK' _ _ (hK w' r1 r2)
/-- A list copied over a row of one's own that is as long. -/
theorem run_copyN (W : World) (ty : TypeId) (base g n : Nat) (zs : List Value) (hown : W.ownsRow base 25 1 (.slice (some ⟨g, 0, none⟩) n n) n zs) (v : Value) (L : List Nat) (hv : NumSl W v L) (hn : L.length = n) :
    ∃ w', (Builtin.copy_ #[22, 22] ty #[.slice (some ⟨g, 0, none⟩) n n, v]).run Try.prog W = .ok (goInt n) w' ∧ w'.ownsRow base 25 1 (.slice (some ⟨g, 0, none⟩) n n) n (numL L) ∧ W.grownBy w' (some g) := by
  have hsz : (Try.prog.info? 25).map (·.size) = some 1 := by
    obtain ⟨i0, hi, _, hz1, _⟩ := partsE infoN
    rw [hi, Option.map_some, hz1]
  rcases hown.2 with ⟨hv0, _⟩ | ⟨g', cap, cur, he, hB, hg, hc1, hc2, hc3, htk⟩
  · cases hv0
  · simp only [Value.slice.injEq, Option.some.injEq, Addr.mk.injEq] at he
    obtain ⟨⟨rfl, _, _⟩, _, rfl⟩ := he
    rw [Nat.mul_one] at hc3
    rcases hv with ⟨a, c, rfl, _, rfl⟩ | ⟨g2, o, c, rfl, _, hg2, hcc⟩
    · obtain rfl : 0 = n := hn
      refine ⟨W, run_copy_none (P := Try.prog) W 22 22 ty 25 _ _ 0 0 0 c Try.underlying22 hsz rfl, ?_, ⟨rfl, rfl, rfl, Nat.le_refl _, fun _ _ _ => rfl⟩⟩
      have h0 : zs = [] := List.eq_nil_of_length_eq_zero (by simpa using hown.1)
      rw [h0] at hown
      exact hown
    · rw [hn]
      have hlen : (numL L).length = n := by rw [numL_len, hn]
      have hrun := run_copy_row (P := Try.prog) W 22 22 ty 25 g 0 n n ⟨g2, o, none⟩ n c cur 25 (numL L) Try.underlying22 hsz hg (by rw [hlen]; simp) (fun j u hj => ?_) (by rw [hlen, hc3]; omega) (numL_one L)
      · rw [hlen] at hrun
        refine ⟨_, hrun, ⟨by rw [hlen, Nat.mul_one], .inr ⟨g, n, _, rfl, hB, setRow_heap W g _ _ 25 _ hg, Nat.le_refl _, hc2, ?_, ?_⟩⟩, ⟨rfl, rfl, rfl, by simp [World.setRow], fun k hk hne => setRow_other W g k _ (by intro e; subst e; exact hne rfl)⟩⟩
        · simp [numL_len, hn, hc3]
        · simp [numL_len, hn]
      · rw [add_blockN]
        have hl : j < L.length := by have := (List.getElem?_eq_some_iff.1 hj).1; rwa [numL_len] at this
        rw [numL_at L j hl] at hj
        obtain rfl : nV L[j] = u := by simpa using hj
        exact hcc j hl
theorem wpListIn_copyN {F : Fence} {k : Nat} (W : World) {ops : Array Oper} {rest : List Oper} {o : Oper} {a : Act} {Q : Exit → Act → World → Prop} (hgd : o.guard = none) (d s : Operand)
    (ho : o.op = .call { callee := .builtin .copy, args := #[d, s], argTypes := #[22, 22] })
    (base g n : Nat) (zs : List Value) (hd : a.eval d = .slice (some ⟨g, 0, none⟩) n n) (hown : W.ownsRow base 25 1 (.slice (some ⟨g, 0, none⟩) n n) n zs)
    (v : Value) (L : List Nat) (hs : a.eval s = v) (hv : NumSl W v L) (hn : L.length = n)
    (h : ∀ w', w'.ownsRow base 25 1 (.slice (some ⟨g, 0, none⟩) n n) n (numL L) → W.grownBy w' (some g) → wpListIn F k Try.prog ops Q rest (a.put o.dst (goInt n)) w') :
    wpListIn F k Try.prog ops Q (o :: rest) a W := by
  refine wpListIn_plain hgd fun K hK' => ?_
  obtain ⟨w', hrun, r1, r2⟩ := run_copyN W o.type base g n zs hown v L hv hn
  unfold Oper.wpIn
  refine ⟨?_, ?_⟩
  · simp [Oper.about, ho, resolve, Target.leads, Sem.run_pure]
  · rw [Oper.semAt_plain F _ _ (by rw [ho]; intro c hc'; cases hc')]
    simp [execOp, ho, resolve, invoke, builtin, hd, hs, hrun, Result.andThen]
    exact hK' _ _ (h w' r1 r2)
end Go.Proofs.Ythhlofcmhnkcmaa
