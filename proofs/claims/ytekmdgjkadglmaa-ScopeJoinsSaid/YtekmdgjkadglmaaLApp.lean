
/- Labels laid one behind another: append over lists of labels. -/
import Derived.Test.YtekmdgjkadglmaaLRefOne
import Derived.Deep.RegionHeldLaw
import Derived.Deep.Onto
import Derived.Laws.OwnMore
namespace Go.Proofs.Ytekmdgjkadglmaa
open Go.RowKit

theorem infoLb : (Try.prog.info? 37).map (fun i => (i.zero, i.size, i.bytes)) = some (some (.agg #[.string { data := #[] }, .string { data := #[] }]), 2, 32) := by kernel_rfl
/-- Labels' cells. -/
def cellsL (L : List Lab) : List Value := L.flatMap fun x => [.string x.1, .string x.2]
theorem cellsL_len (L : List Lab) : (cellsL L).length = L.length * 2 := by
  induction L with
  | nil => rfl
  | cons x L ih =>
    have : cellsL (x :: L) = .string x.1 :: .string x.2 :: cellsL L := by simp [cellsL]
    rw [this, List.length_cons, List.length_cons, ih, List.length_cons]
    omega
theorem cellsL_app (A B : List Lab) : cellsL (A ++ B) = cellsL A ++ cellsL B := by simp [cellsL]
theorem cellsL_one (L : List Lab) : ∀ u ∈ cellsL L, u.oneCell' = true := by
  intro u hu
  simp only [cellsL, List.mem_flatMap, List.mem_cons, List.not_mem_nil, or_false] at hu
  obtain ⟨x, _, rfl | rfl⟩ := hu <;> rfl
theorem cellsL_at (L : List Lab) : ∀ j (hj : j < L.length), (cellsL L)[j * 2]? = some (.string L[j].1) ∧ (cellsL L)[j * 2 + 1]? = some (.string L[j].2) := by
  induction L with
  | nil => intro j hj; simp at hj
  | cons x L ih =>
    have hc : cellsL (x :: L) = .string x.1 :: .string x.2 :: cellsL L := by simp [cellsL]
    intro j hj
    rw [hc]
    cases j with
    | zero => exact ⟨rfl, rfl⟩
    | succ j =>
      obtain ⟨h1, h2⟩ := ih j (by simpa using hj)
      rw [show (j + 1) * 2 = j * 2 + 2 by omega, show j * 2 + 2 + 1 = (j * 2 + 1) + 2 by omega]
      exact ⟨by simpa using h1, by simpa using h2⟩
theorem lblSl_of_owns {B : Nat} {v : Value} {L : List Lab} {w : World} (h : w.ownsRow B 37 2 v L.length (cellsL L)) : LblSl w v L := by
  rcases h.2 with ⟨hv, h0⟩ | ⟨g, cap, cur, hv, _, hg, _, _, _, htk⟩
  · exact .inl ⟨none, 0, hv, List.length_eq_zero_iff.1 h0⟩
  · refine .inr ⟨g, 0, cap, hv, (Array.getElem?_eq_some_iff.1 hg).1, fun j hj => ?_⟩
    obtain ⟨h1, h2⟩ := cellsL_at L j hj
    rw [← htk] at h1 h2
    simp only [List.getElem?_take] at h1 h2
    rw [if_pos (by omega)] at h1
    rw [if_pos (by omega)] at h2
    constructor
    · rw [cell_of_row w g _ cur 37 (0, 0) hg, Nat.zero_add]
      simpa using h1
    · rw [cell_of_row w g _ cur 37 (0, 0) hg, Nat.zero_add]
      simpa using h2

/-- A slice to be laid behind another: what its cells are. -/
def SrcV (W : World) (src : Value) (m : Nat) (news : List Value) : Prop :=
  (src = .slice none 0 0 ∧ m = 0 ∧ news = []) ∨ ∃ ad c, src = .slice (some ad) m c ∧ news.length = m * 2 ∧ (∀ j u, news[j]? = some u → W.cell? (ad.add j) = some u) ∧ ∀ u ∈ news, u.oneCell' = true
theorem run_app (W : World) (ty : TypeId) (base : Nat) (v : Value) (n : Nat) (xs : List Value) (hown : W.ownsRow base 37 2 v n xs) (src : Value) (m : Nat) (news : List Value) (hsrc : SrcV W src m news) (h63 : n + m ≤ 100000) (hbase : base ≤ W.heap.size) :
    ∃ v' w', (Builtin.append_ #[29, 29] ty #[v, src]).run Try.prog W = .ok v' w' ∧ w'.ownsRow base 37 2 v' (n + m) (xs ++ news) ∧ W.grownBy w' v.ownBlock := by
  obtain ⟨i0, hi, hz0, hz1, hz2⟩ := partsL infoLb
  rcases hsrc with ⟨rfl, rfl, rfl⟩ | ⟨ad, c, rfl, h1, h2, h3⟩
  · refine ⟨v, W, run_append_owned_none (P := Try.prog) (w := W) base 29 ty 37 i0 2 Try.underlying29 hi v n xs hown, by rw [Nat.add_zero, List.append_nil]; exact hown, ⟨rfl, rfl, rfl, Nat.le_refl _, fun _ _ _ => rfl⟩⟩
  · obtain ⟨v', w', hr, ho, hg, _⟩ := run_append_own (P := Try.prog) W base 29 ty 37 i0 _ 2 32 Try.underlying29 hi hz0 hz1 hz2 rfl (by omega) v n xs hown ad m c news h1 h2 h3 (by unfold maxLen; omega) (by omega) hbase
    exact ⟨v', w', hr, ho, hg⟩
theorem wp_app (W : World) {o : Oper} {a : Act} {K : Act → World → Prop} {Q : Exit → Act → World → Prop} (s x : Operand)
    (ho : o.op = .call { callee := .builtin .append, args := #[s, x], argTypes := #[29, 29] })
    (base : Nat) (v : Value) (n : Nat) (xs : List Value) (hs : a.eval s = v) (hown : W.ownsRow base 37 2 v n xs)
    (src : Value) (m : Nat) (news : List Value) (hx : a.eval x = src) (hsrc : SrcV W src m news) (h63 : n + m ≤ 100000) (hbase : base ≤ W.heap.size)
    (h : ∀ v' w', w'.ownsRow base 37 2 v' (n + m) (xs ++ news) → W.grownBy w' v.ownBlock → K (a.put o.dst v') w') : o.wp Try.prog a W K Q := by
  obtain ⟨v', w', hr, h2, h3⟩ := run_app W o.type base v n xs hown src m news hsrc h63 hbase
  unfold Oper.wp execOp
  simp only [ho, resolve, invoke, builtin, Sem.run_bind, Sem.run_pure, Result.andThen_ok, List.map_toArray, List.map_cons, List.map_nil, hs, hx, hr]
  exact h v' w' h2 h3
theorem wpList_app (W : World) {ops : Array Oper} {rest : List Oper} {o : Oper} {a : Act} {Q : Exit → Act → World → Prop} (hgd : o.guard = none) (s x : Operand)
    (ho : o.op = .call { callee := .builtin .append, args := #[s, x], argTypes := #[29, 29] })
    (base : Nat) (v : Value) (n : Nat) (xs : List Value) (hs : a.eval s = v) (hown : W.ownsRow base 37 2 v n xs)
    (src : Value) (m : Nat) (news : List Value) (hx : a.eval x = src) (hsrc : SrcV W src m news) (h63 : n + m ≤ 100000) (hbase : base ≤ W.heap.size)
    (h : ∀ v' w', w'.ownsRow base 37 2 v' (n + m) (xs ++ news) → W.grownBy w' v.ownBlock → wpList Try.prog ops Q rest (a.put o.dst v') w') : wpList Try.prog ops Q (o :: rest) a W :=
  wpList_plain hgd fun _ hK => wp_app W s x ho base v n xs hs hown src m news hx hsrc h63 hbase fun v' w' h2 h3 => hK _ _ (h v' w' h2 h3)
theorem step_app (W : World) {ops : Array Oper} {o : Oper} {a : Act} {K : Act → World → Prop} {Q : Exit → Act → World → Prop} {E : Prop} (hgd : o.guard = none) (s x : Operand)
    (ho : o.op = .call { callee := .builtin .append, args := #[s, x], argTypes := #[29, 29] })
    (base : Nat) (v : Value) (n : Nat) (xs : List Value) (hs : a.eval s = v) (hown : W.ownsRow base 37 2 v n xs)
    (src : Value) (m : Nat) (news : List Value) (hx : a.eval x = src) (hsrc : SrcV W src m news) (h63 : n + m ≤ 100000) (hbase : base ≤ W.heap.size)
    (h : ∀ v' w', w'.ownsRow base 37 2 v' (n + m) (xs ++ news) → W.grownBy w' v.ownBlock → K (a.put o.dst v') w') :
    if Region.wanted o (yielded ops a.tmps) = true then Oper.wp Try.prog o a W K Q else E := by
  have hw : Region.wanted o (yielded ops a.tmps) = true := by simp [Region.wanted, hgd]
  rw [if_pos hw]
  exact wp_app W s x ho base v n xs hs hown src m news hx hsrc h63 hbase h

theorem add_blockN (g o j : Nat) : (⟨g, o, none⟩ : Addr).add j = ⟨g, o + j, none⟩ := by
  unfold Addr.add
  split <;> simp_all
theorem add_block (g j : Nat) : (⟨g, 0, none⟩ : Addr).add j = ⟨g, j, none⟩ := by rw [add_blockN, Nat.zero_add]
set_option maxRecDepth 100000 in
/-- What a cut of a list of labels reads as: the head, the tail. -/
theorem cut_head {B : Nat} {v : Value} {L : List Lab} {w : World} (h : w.ownsRow B 37 2 v L.length (cellsL L)) (k : Nat) (hk : k ≤ L.length) :
    ∃ src, (∀ W : World, (Instr.slice 29 v none (some (.int .i64 (k : Int))) none).run Try.prog W = .ok src W) ∧ ∀ W, Below w.heap.size w W → SrcV W src k (cellsL (L.take k)) := by
  have hz : ∀ W : World, (sizeOf (Try.prog.elem 29)).run Try.prog W = .ok 2 W := fun W => rfl
  rcases h.2 with ⟨hv, h0⟩ | ⟨g, cap, cur, hv, _, hg, hc1, hc2, _, htk⟩
  · obtain rfl : L = [] := List.length_eq_zero_iff.1 h0
    obtain rfl : k = 0 := by simpa using hk
    subst hv
    refine ⟨.slice none 0 0, fun W => ?_, fun W _ => .inl ⟨rfl, rfl, rfl⟩⟩
    rw [run_slice_h (P := Try.prog) W 29 none 0 0 Try.underlying29 .i64 _ (by simp) (by simp), hz]
    rfl
  · subst hv
    refine ⟨.slice (some ⟨g, 0, none⟩) k cap, fun W => ?_, fun W hb => .inr ⟨_, _, rfl, ?_, ?_, cellsL_one _⟩⟩
    · rw [run_slice_h (P := Try.prog) W 29 _ _ _ Try.underlying29 .i64 _ (by omega) (by omega), hz]
      simp only [Result.andThen_ok, sliced, Int.toNat_natCast, Nat.sub_zero]
      congr 2
      split <;> rfl
    · rw [cellsL_len, List.length_take]
      omega
    · intro j u hj
      have hlt := (Array.getElem?_eq_some_iff.1 hg).1
      have hjj : (cellsL L)[j]? = some u := by
        have e : L = L.take k ++ L.drop k := (List.take_append_drop k L).symm
        rw [e, cellsL_app, List.getElem?_append_left (by exact (List.getElem?_eq_some_iff.1 hj).1)]
        exact hj
      have h1 := h.cells (g := g) rfl j u hjj
      rw [add_block g j] at h1 ⊢
      exact (hb.cell (p := ⟨g, j, none⟩) hlt).trans h1
set_option maxRecDepth 100000 in
theorem cut_tail {B : Nat} {v : Value} {L : List Lab} {w : World} (h : w.ownsRow B 37 2 v L.length (cellsL L)) (k : Nat) (hk : k ≤ L.length) :
    ∃ src, (∀ W : World, (Instr.slice 29 v (some (.int .i64 (k : Int))) none none).run Try.prog W = .ok src W) ∧ ∀ W, Below w.heap.size w W → SrcV W src (L.length - k) (cellsL (L.drop k)) := by
  have hz : ∀ W : World, (sizeOf (Try.prog.elem 29)).run Try.prog W = .ok 2 W := fun W => rfl
  rcases h.2 with ⟨hv, h0⟩ | ⟨g, cap, cur, hv, _, hg, hc1, hc2, _, htk⟩
  · obtain rfl : L = [] := List.length_eq_zero_iff.1 h0
    obtain rfl : k = 0 := by simpa using hk
    subst hv
    refine ⟨.slice none 0 0, fun W => ?_, fun W _ => .inl ⟨rfl, rfl, rfl⟩⟩
    rw [run_slice_l (P := Try.prog) W 29 none 0 0 Try.underlying29 .i64 _ (by simp) (by simp), hz]
    rfl
  · subst hv
    by_cases hkc : cap = k
    · subst hkc
      have hnil : L.drop cap = [] := List.drop_eq_nil_of_le (by omega)
      refine ⟨.slice (some ⟨g, 0, none⟩) (L.length - cap) (cap - cap), fun W => ?_, fun W _ => .inr ⟨_, _, rfl, ?_, ?_, cellsL_one _⟩⟩
      · rw [run_slice_l (P := Try.prog) W 29 _ _ _ Try.underlying29 .i64 _ (by omega) (by omega), hz]
        simp [sliced]
      · rw [cellsL_len, List.length_drop]
      · intro j u hj
        rw [hnil] at hj
        simp [cellsL] at hj
    · refine ⟨.slice (some ⟨g, k * 2, none⟩) (L.length - k) (cap - k), fun W => ?_, fun W hb => .inr ⟨_, _, rfl, ?_, ?_, cellsL_one _⟩⟩
      · rw [run_slice_l (P := Try.prog) W 29 _ _ _ Try.underlying29 .i64 _ (by omega) (by omega), hz]
        simp only [Result.andThen_ok, sliced, Int.toNat_natCast]
        rw [if_neg hkc, Option.map_some, add_block]
      · rw [cellsL_len, List.length_drop]
      · intro j u hj
        have hlt := (Array.getElem?_eq_some_iff.1 hg).1
        have hjj : (cellsL L)[k * 2 + j]? = some u := by
          have e : L = L.take k ++ L.drop k := (List.take_append_drop k L).symm
          have hl : (cellsL (L.take k)).length = k * 2 := by rw [cellsL_len, List.length_take]; omega
          rw [e, cellsL_app, List.getElem?_append_right (by omega), hl, show k * 2 + j - k * 2 = j by omega]
          exact hj
        have h1 := h.cells (g := g) rfl (k * 2 + j) u hjj
        rw [add_block g (k * 2 + j)] at h1
        rw [add_blockN]
        exact (hb.cell (p := ⟨g, k * 2 + j, none⟩) hlt).trans h1
end Go.Proofs.Ytekmdgjkadglmaa
