/- Lists of bins in memory: what they read as, append, cuts (stage 9). -/
import Derived.Test.YtpdedogdffolnaaGRef4
import Derived.Laws.ResultCell
import Derived.Lib.AppendStr
import Derived.Deep.AppendLies
import Derived.Deep.Onto
import Derived.Laws.OwnMore
import Derived.TacticsInMore
import Derived.LoopNIn
import Derived.LoopIn
namespace Go.Proofs.Ytpdedogdffolnaa
open Go.RowKit

theorem infoB : (Try.prog.info? 68).map (fun i => (i.zero, i.size, i.bytes)) = some (some (.agg #[.int .i64 0, .int .u64 0]), 2, 16) := by kernel_rfl
theorem partsG {i : Option TypeInfo} {z : Value} {n b : Nat} (h : i.map (fun i => (i.zero, i.size, i.bytes)) = some (some z, n, b)) : ∃ j, i = some j ∧ j.zero = some z ∧ j.size = n ∧ j.bytes = b := by
  cases i with
  | none => cases h
  | some j => simp at h; exact ⟨j, rfl, h.1, h.2.1, h.2.2⟩
theorem add_blockG (g o j : Nat) : (⟨g, o, none⟩ : Addr).add j = ⟨g, o + j, none⟩ := by
  unfold Addr.add
  split <;> simp_all
def cellsB (L : List Bn) : List Value := L.flatMap fun x => [.int .i64 x.1, gV x.2]
theorem cellsB_len (L : List Bn) : (cellsB L).length = L.length * 2 := by
  induction L with
  | nil => rfl
  | cons x L ih =>
    have hc : cellsB (x :: L) = .int .i64 x.1 :: gV x.2 :: cellsB L := by simp [cellsB]
    rw [hc]
    simp only [List.length_cons, ih]
    omega
theorem cellsB_app (A B : List Bn) : cellsB (A ++ B) = cellsB A ++ cellsB B := by simp [cellsB]
theorem cellsB_one (L : List Bn) : ∀ u ∈ cellsB L, u.oneCell' = true := by
  intro u hu
  simp only [cellsB, List.mem_flatMap, List.mem_cons, List.not_mem_nil, or_false] at hu
  obtain ⟨x, _, rfl | rfl⟩ := hu <;> rfl
theorem cellsB_at (L : List Bn) : ∀ j (hj : j < L.length), (cellsB L)[j * 2]? = some (.int .i64 L[j].1) ∧ (cellsB L)[j * 2 + 1]? = some (gV L[j].2) := by
  induction L with
  | nil => intro j hj; simp at hj
  | cons x L ih =>
    have hc : cellsB (x :: L) = .int .i64 x.1 :: gV x.2 :: cellsB L := by simp [cellsB]
    intro j hj
    rw [hc]
    cases j with
    | zero => exact ⟨rfl, rfl⟩
    | succ j =>
      obtain ⟨h1, h2⟩ := ih j (by simpa using hj)
      rw [show (j + 1) * 2 = j * 2 + 2 by omega, show j * 2 + 2 + 1 = (j * 2 + 1) + 2 by omega]
      exact ⟨by simpa using h1, by simpa using h2⟩
/-- A list of bins, as it lies in memory. -/
def BinSl (w : World) (v : Value) (L : List Bn) : Prop :=
  (∃ a c, v = .slice a 0 c ∧ (a = none → c = 0) ∧ L = []) ∨ ∃ g o c, v = .slice (some ⟨g, o, none⟩) L.length c ∧ L.length ≤ c ∧ g < w.heap.size ∧
    ∀ j (hj : j < L.length), w.cell? ⟨g, o + j * 2, none⟩ = some (.int .i64 L[j].1) ∧ w.cell? ⟨g, o + j * 2 + 1, none⟩ = some (gV L[j].2)
theorem BinSl.nil (w : World) : BinSl w (.slice none 0 0) [] := .inl ⟨none, 0, rfl, fun _ => rfl, rfl⟩
theorem BinSl.below {w w' : World} {v : Value} {L : List Bn} (h : BinSl w v L) (hb : Below w.heap.size w w') : BinSl w' v L := by
  rcases h with h | ⟨g, o, c, hv, hlc, hg, hc⟩
  · exact .inl h
  · refine .inr ⟨g, o, c, hv, hlc, Nat.lt_of_lt_of_le hg hb.size, fun j hj => ?_⟩
    obtain ⟨h1, h2⟩ := hc j hj
    exact ⟨(hb.cell (p := ⟨g, _, none⟩) hg).trans h1, (hb.cell (p := ⟨g, _, none⟩) hg).trans h2⟩
theorem BinSl.shape {w : World} {v : Value} {L : List Bn} (h : BinSl w v L) : ∃ ao c, v = .slice ao L.length c ∧ ∀ j (hj : j < L.length),
    ∃ g o, ao = some ⟨g, o, none⟩ ∧ ∀ W, Below w.heap.size w W → W.cell? ⟨g, o + j * 2, none⟩ = some (.int .i64 L[j].1) ∧ W.cell? ⟨g, o + j * 2 + 1, none⟩ = some (gV L[j].2) := by
  rcases h with ⟨a, c, rfl, _, rfl⟩ | ⟨g, o, c, hv, hlc, hg, hc⟩
  · exact ⟨a, c, rfl, fun j hj => by simp at hj⟩
  · refine ⟨_, _, hv, fun j hj => ⟨g, o, rfl, fun W hb => ?_⟩⟩
    obtain ⟨h1, h2⟩ := hc j hj
    exact ⟨(hb.cell (p := ⟨g, _, none⟩) hg).trans h1, (hb.cell (p := ⟨g, _, none⟩) hg).trans h2⟩
theorem BinSl.form {w : World} {v : Value} {L : List Bn} (h : BinSl w v L) : ∃ a n c, v = .slice a n c := by
  obtain ⟨a, c, h, _⟩ := h.shape
  exact ⟨_, _, _, h⟩
theorem binSl_of_owns {B : Nat} {v : Value} {L : List Bn} {w : World} (h : w.ownsRow B 68 2 v L.length (cellsB L)) : BinSl w v L := by
  rcases h.2 with ⟨hv, h0⟩ | ⟨g, cap, cur, hv, _, hg, hnc, _, _, htk⟩
  · exact .inl ⟨none, 0, hv, fun _ => rfl, List.length_eq_zero_iff.1 h0⟩
  · refine .inr ⟨g, 0, cap, hv, hnc, (Array.getElem?_eq_some_iff.1 hg).1, fun j hj => ?_⟩
    obtain ⟨h1, h2⟩ := cellsB_at L j hj
    rw [← htk] at h1 h2
    simp only [List.getElem?_take] at h1 h2
    rw [if_pos (by omega)] at h1
    rw [if_pos (by omega)] at h2
    constructor
    · rw [cell_of_row w g _ cur 68 (0, 0) hg, Nat.zero_add]
      simpa using h1
    · rw [cell_of_row w g _ cur 68 (0, 0) hg, Nat.zero_add]
      simpa using h2
/-- A slice to be laid behind another: what its cells are. -/
def SrcB (W : World) (src : Value) (m : Nat) (news : List Value) : Prop :=
  (src = .slice none 0 0 ∧ m = 0 ∧ news = []) ∨ ∃ ad c, src = .slice (some ad) m c ∧ news.length = m * 2 ∧ (∀ j u, news[j]? = some u → W.cell? (ad.add j) = some u) ∧ ∀ u ∈ news, u.oneCell' = true
theorem run_appB (W : World) (ty : TypeId) (base : Nat) (v : Value) (n : Nat) (xs : List Value) (hown : W.ownsRow base 68 2 v n xs) (src : Value) (m : Nat) (news : List Value) (hsrc : SrcB W src m news) (h63 : n + m ≤ 100000) (hbase : base ≤ W.heap.size) :
    ∃ v' w', (Builtin.append_ #[23, 23] ty #[v, src]).run Try.prog W = .ok v' w' ∧ w'.ownsRow base 68 2 v' (n + m) (xs ++ news) ∧ W.grownBy w' v.ownBlock := by
  obtain ⟨i0, hi, hz0, hz1, hz2⟩ := partsG infoB
  rcases hsrc with ⟨rfl, rfl, rfl⟩ | ⟨ad, c, rfl, h1, h2, h3⟩
  · refine ⟨v, W, run_append_owned_none (P := Try.prog) (w := W) base 23 ty 68 i0 2 Try.underlying23 hi v n xs hown, by rw [Nat.add_zero, List.append_nil]; exact hown, ⟨rfl, rfl, rfl, Nat.le_refl _, fun _ _ _ => rfl⟩⟩
  · obtain ⟨v', w', hr, ho, hg, _⟩ := run_append_own (P := Try.prog) W base 23 ty 68 i0 _ 2 16 Try.underlying23 hi hz0 hz1 hz2 rfl (by omega) v n xs hown ad m c news h1 h2 h3 (by unfold maxLen; omega) (by omega) hbase
    exact ⟨v', w', hr, ho, hg⟩
theorem wpListIn_appB {F : Fence} {k : Nat} (W : World) {ops : Array Oper} {rest : List Oper} {o : Oper} {a : Act} {Q : Exit → Act → World → Prop} (hgd : o.guard = none) (d s : Operand)
    (ho : o.op = .call { callee := .builtin .append, args := #[d, s], argTypes := #[23, 23] })
    (base : Nat) (v : Value) (n : Nat) (xs : List Value) (hd : a.eval d = v) (hown : W.ownsRow base 68 2 v n xs)
    (src : Value) (m : Nat) (news : List Value) (hs : a.eval s = src) (hsrc : SrcB W src m news) (h63 : n + m ≤ 100000) (hbase : base ≤ W.heap.size)
    (h : ∀ v' w', w'.ownsRow base 68 2 v' (n + m) (xs ++ news) → W.grownBy w' v.ownBlock → wpListIn F k Try.prog ops Q rest (a.put o.dst v') w') : wpListIn F k Try.prog ops Q (o :: rest) a W := by
  refine wpListIn_plain hgd fun K hK' => ?_
  obtain ⟨v', w', hrun, r1, r2⟩ := run_appB W o.type base v n xs hown src m news hsrc h63 hbase
  unfold Oper.wpIn
  refine ⟨?_, ?_⟩
  · simp [Oper.about, ho, resolve, Target.leads, Sem.run_pure]
  · rw [Oper.semAt_plain F _ _ (by rw [ho]; intro c hc'; cases hc')]
    simp [execOp, ho, resolve, invoke, builtin, hd, hs, hrun, Result.andThen]
    exact hK' _ _ (h v' w' r1 r2)
theorem SrcB.of_bin {w : World} {v : Value} {L : List Bn} (h : BinSl w v L) : SrcB w v L.length (cellsB L) := by
  rcases h with ⟨a, c, rfl, h0, rfl⟩ | ⟨g, o, c, rfl, _, hg, hc⟩
  · cases a with
    | none => exact .inl ⟨by rw [h0 rfl], rfl, rfl⟩
    | some ad => exact .inr ⟨ad, c, rfl, rfl, fun j u hj => by simp [cellsB] at hj, cellsB_one _⟩
  · refine .inr ⟨⟨g, o, none⟩, c, rfl, cellsB_len L, fun j u hj => ?_, cellsB_one L⟩
    rw [add_blockG]
    have hl : j < L.length * 2 := by have := (List.getElem?_eq_some_iff.1 hj).1; rwa [cellsB_len] at this
    have hi : j / 2 < L.length := by omega
    obtain ⟨h1, h2⟩ := cellsB_at L (j / 2) hi
    obtain ⟨c1, c2⟩ := hc (j / 2) hi
    by_cases hpar : j % 2 = 0
    · have e : j / 2 * 2 = j := by omega
      rw [e] at h1 c1
      rw [h1] at hj
      rw [c1]
      exact hj
    · have e : j / 2 * 2 + 1 = j := by omega
      rw [e] at h2
      rw [Nat.add_assoc, e] at c2
      rw [h2] at hj
      rw [c2]
      exact hj
set_option maxRecDepth 100000 in
/-- The first k. -/
theorem bin_take {w : World} {v : Value} {L : List Bn} (h : BinSl w v L) (k : Nat) (hk : k ≤ L.length) :
    ∃ src, (∀ W : World, (Instr.slice 23 v none (some (.int .i64 (k : Int))) none).run Try.prog W = .ok src W) ∧ BinSl w src (L.take k) := by
  have hz : ∀ W : World, (sizeOf (Try.prog.elem 23)).run Try.prog W = .ok 2 W := fun W => rfl
  rcases h with ⟨a, c, rfl, h0, rfl⟩ | ⟨g, o, c, rfl, hlc, hg, hc⟩
  · obtain rfl : k = 0 := by simpa using hk
    refine ⟨sliced a 0 0 c 2, fun W => ?_, .inl ⟨_, _, rfl, ?_, rfl⟩⟩
    · rw [run_slice_h (P := Try.prog) W 23 a 0 c Try.underlying23 .i64 _ (by simp) (by simp), hz]
      rfl
    · cases a with
      | none => intro _; rw [h0 rfl]
      | some ad => intro h; split at h <;> simp at h
  · refine ⟨.slice (some ⟨g, o, none⟩) k c, fun W => ?_, .inr ⟨g, o, c, by rw [List.length_take, Nat.min_eq_left hk], by rw [List.length_take]; omega, hg, fun j hj => ?_⟩⟩
    · rw [run_slice_h (P := Try.prog) W 23 _ _ _ Try.underlying23 .i64 _ (by omega) (by omega), hz]
      simp only [Result.andThen_ok, sliced, Int.toNat_natCast, Nat.sub_zero]
      congr 2
      split
      · rfl
      · rw [Option.map_some, Nat.zero_mul, add_blockG, Nat.add_zero]
    · rw [List.getElem_take]
      exact hc j (by rw [List.length_take] at hj; omega)
set_option maxRecDepth 100000 in
/-- All but the first k. -/
theorem bin_drop {w : World} {v : Value} {L : List Bn} (h : BinSl w v L) (k : Nat) (hk : k ≤ L.length) :
    ∃ src, (∀ W : World, (Instr.slice 23 v (some (.int .i64 (k : Int))) none none).run Try.prog W = .ok src W) ∧ BinSl w src (L.drop k) := by
  have hz : ∀ W : World, (sizeOf (Try.prog.elem 23)).run Try.prog W = .ok 2 W := fun W => rfl
  rcases h with ⟨a, c, rfl, h0, rfl⟩ | ⟨g, o, c, rfl, hlc, hg, hc⟩
  · obtain rfl : k = 0 := by simpa using hk
    refine ⟨sliced a 0 0 c 2, fun W => ?_, .inl ⟨_, _, rfl, ?_, rfl⟩⟩
    · rw [run_slice_l (P := Try.prog) W 23 a 0 c Try.underlying23 .i64 _ (by simp) (by simp), hz]
      rfl
    · cases a with
      | none => intro _; rw [h0 rfl]
      | some ad => intro h; split at h <;> simp at h
  · refine ⟨sliced (some ⟨g, o, none⟩) k L.length c 2, fun W => ?_, ?_⟩
    · rw [run_slice_l (P := Try.prog) W 23 _ _ _ Try.underlying23 .i64 _ (by omega) (by omega), hz]
      rfl
    · by_cases hkl : k = L.length
      · refine .inl ⟨_, _, by unfold sliced; rw [show L.length - k = 0 by omega], ?_, List.drop_eq_nil_of_le (by omega)⟩
        intro h; split at h <;> simp at h
      · refine .inr ⟨g, o + k * 2, c - k, ?_, by rw [List.length_drop]; omega, hg, fun j hj => ?_⟩
        · unfold sliced
          rw [if_neg (by omega), Option.map_some, add_blockG, List.length_drop]
        · rw [List.getElem_drop, show o + k * 2 + j * 2 = o + (k + j) * 2 by omega]
          exact hc (k + j) (by rw [List.length_drop] at hj; omega)
theorem owns_sameB {w W : World} {B : Nat} {e : TypeId} {sz : Nat} {v : Value} {n : Nat} {xs : List Value} (h : w.ownsRow B e sz v n xs) (hb : ∀ k, B ≤ k → k < w.heap.size → W.heap[k]? = w.heap[k]?) : W.ownsRow B e sz v n xs := by
  rcases h.2 with ⟨hv, h0⟩ | ⟨g, cap, cur, hv, hB, hg, h1⟩
  · exact ⟨h.1, .inl ⟨hv, h0⟩⟩
  · exact ⟨h.1, .inr ⟨g, cap, cur, hv, hB, (hb g hB (Array.getElem?_eq_some_iff.1 hg).1).trans hg, h1⟩⟩
theorem owns_blockB {w : World} {B : Nat} {e : TypeId} {sz : Nat} {v : Value} {n : Nat} {xs : List Value} (h : w.ownsRow B e sz v n xs) : ∀ k, v.ownBlock = some k → B ≤ k := by
  intro k hk
  rcases h.2 with ⟨hv, _⟩ | ⟨g, cap, cur, hv, hB, _⟩
  · rw [hv] at hk; cases hk
  · rw [hv] at hk; cases hk; exact hB
end Go.Proofs.Ytpdedogdffolnaa
