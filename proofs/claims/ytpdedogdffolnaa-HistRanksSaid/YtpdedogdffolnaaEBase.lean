
/- Lists of numbers in memory: what they read as, append, cuts. -/
import Derived.Test.YtpdedogdffolnaaRows
import Derived.Test.YtpdedogdffolnaaEMath
import Derived.Test.YtpdedogdffolnaaLaws
import Derived.Test.YtpdedogdffolnaaQuiet
import Derived.WalkKit
import Derived.RowKitTokens
import Derived.Lib.Hide
import Derived.Lib.AppendStr
import Derived.OwnWalk
import Derived.Deep.AppendLies
import Derived.Deep.RegionHeldLaw
import Derived.Deep.Onto
import Derived.Laws.OwnMore
namespace Go.Proofs.Ytpdedogdffolnaa
open Go.RowKit

theorem infoN : (Try.prog.info? 22).map (fun i => (i.zero, i.size, i.bytes)) = some (some (.int .u64 0), 1, 8) := by kernel_rfl
theorem partsE {i : Option TypeInfo} {z : Value} {n b : Nat} (h : i.map (fun i => (i.zero, i.size, i.bytes)) = some (some z, n, b)) : ∃ j, i = some j ∧ j.zero = some z ∧ j.size = n ∧ j.bytes = b := by
  cases i with
  | none => cases h
  | some j => simp at h; exact ⟨j, rfl, h.1, h.2.1, h.2.2⟩
/-- A number, as a value. -/
abbrev nV (n : Nat) : Value := .int .u64 (n : Int)
def numL (L : List Nat) : List Value := L.map nV
theorem numL_len (L : List Nat) : (numL L).length = L.length := by simp [numL]
theorem numL_app (A B : List Nat) : numL (A ++ B) = numL A ++ numL B := by simp [numL]
theorem numL_one (L : List Nat) : ∀ u ∈ numL L, u.oneCell' = true := by
  intro u hu
  obtain ⟨x, _, rfl⟩ := List.mem_map.1 hu
  rfl
theorem numL_at (L : List Nat) (j : Nat) (hj : j < L.length) : (numL L)[j]? = some (nV L[j]) := by simp [numL, hj]
/-- A list of numbers, as it lies in memory. -/
def NumSl (w : World) (v : Value) (L : List Nat) : Prop :=
  (∃ a c, v = .slice a 0 c ∧ (a = none → c = 0) ∧ L = []) ∨ ∃ g o c, v = .slice (some ⟨g, o, none⟩) L.length c ∧ L.length ≤ c ∧ g < w.heap.size ∧ ∀ j (hj : j < L.length), w.cell? ⟨g, o + j, none⟩ = some (nV L[j])
theorem NumSl.below {w w' : World} {v : Value} {L : List Nat} (h : NumSl w v L) (hb : Below w.heap.size w w') : NumSl w' v L := by
  rcases h with h | ⟨g, o, c, hv, hlc, hg, hc⟩
  · exact .inl h
  · exact .inr ⟨g, o, c, hv, hlc, Nat.lt_of_lt_of_le hg hb.size, fun j hj => (hb.cell (p := ⟨g, o + j, none⟩) hg).trans (hc j hj)⟩
/-- The value's shape, and each number. -/
theorem NumSl.shape {w : World} {v : Value} {L : List Nat} (h : NumSl w v L) : ∃ ao c, v = .slice ao L.length c ∧ ∀ j (hj : j < L.length),
    ∃ g o, ao = some ⟨g, o, none⟩ ∧ ∀ W : World, Below w.heap.size w W → W.cell? ⟨g, o + j, none⟩ = some (nV L[j]) := by
  rcases h with ⟨a, c, rfl, _, rfl⟩ | ⟨g, o, c, rfl, _, hg, hc⟩
  · exact ⟨a, c, rfl, fun j hj => absurd hj (by simp)⟩
  · exact ⟨_, _, rfl, fun j hj => ⟨g, o, rfl, fun W hb => (hb.cell (p := ⟨g, o + j, none⟩) hg).trans (hc j hj)⟩⟩
theorem numSl_of_owns {B : Nat} {v : Value} {L : List Nat} {w : World} (h : w.ownsRow B 22 1 v L.length (numL L)) : NumSl w v L := by
  rcases h.2 with ⟨hv, h0⟩ | ⟨g, cap, cur, hv, _, hg, hc1, hc2, _, htk⟩
  · exact .inl ⟨none, 0, hv, fun _ => rfl, List.length_eq_zero_iff.1 h0⟩
  · refine .inr ⟨g, 0, cap, hv, by omega, (Array.getElem?_eq_some_iff.1 hg).1, fun j hj => ?_⟩
    have h1 := numL_at L j hj
    rw [← htk] at h1
    simp only [List.getElem?_take] at h1
    rw [if_pos (by omega)] at h1
    rw [cell_of_row w g _ cur 22 (0, 0) hg, Nat.zero_add]
    simpa using h1

/-- A slice to be laid behind another: what its cells are. -/
def SrcN (W : World) (src : Value) (m : Nat) (news : List Value) : Prop :=
  (src = .slice none 0 0 ∧ m = 0 ∧ news = []) ∨ ∃ ad c, src = .slice (some ad) m c ∧ news.length = m ∧ (∀ j u, news[j]? = some u → W.cell? (ad.add j) = some u) ∧ ∀ u ∈ news, u.oneCell' = true
theorem run_appN (W : World) (ty : TypeId) (base : Nat) (v : Value) (n : Nat) (xs : List Value) (hown : W.ownsRow base 22 1 v n xs) (src : Value) (m : Nat) (news : List Value) (hsrc : SrcN W src m news) (h63 : n + m ≤ 100000) (hbase : base ≤ W.heap.size) :
    ∃ v' w', (Builtin.append_ #[50, 50] ty #[v, src]).run Try.prog W = .ok v' w' ∧ w'.ownsRow base 22 1 v' (n + m) (xs ++ news) ∧ W.grownBy w' v.ownBlock := by
  obtain ⟨i0, hi, hz0, hz1, hz2⟩ := partsE infoN
  rcases hsrc with ⟨rfl, rfl, rfl⟩ | ⟨ad, c, rfl, h1, h2, h3⟩
  · refine ⟨v, W, run_append_owned_none (P := Try.prog) (w := W) base 50 ty 22 i0 1 Try.underlying50 hi v n xs hown, by rw [Nat.add_zero, List.append_nil]; exact hown, ⟨rfl, rfl, rfl, Nat.le_refl _, fun _ _ _ => rfl⟩⟩
  · obtain ⟨v', w', hr, ho, hg, _⟩ := run_append_own (P := Try.prog) W base 50 ty 22 i0 _ 1 8 Try.underlying50 hi hz0 hz1 hz2 rfl (by omega) v n xs hown ad m c news (by omega) h2 h3 (by unfold maxLen; omega) (by omega) hbase
    exact ⟨v', w', hr, ho, hg⟩
theorem wp_appN (W : World) {o : Oper} {a : Act} {K : Act → World → Prop} {Q : Exit → Act → World → Prop} (s x : Operand)
    (ho : o.op = .call { callee := .builtin .append, args := #[s, x], argTypes := #[50, 50] })
    (base : Nat) (v : Value) (n : Nat) (xs : List Value) (hs : a.eval s = v) (hown : W.ownsRow base 22 1 v n xs)
    (src : Value) (m : Nat) (news : List Value) (hx : a.eval x = src) (hsrc : SrcN W src m news) (h63 : n + m ≤ 100000) (hbase : base ≤ W.heap.size)
    (h : ∀ v' w', w'.ownsRow base 22 1 v' (n + m) (xs ++ news) → W.grownBy w' v.ownBlock → K (a.put o.dst v') w') : o.wp Try.prog a W K Q := by
  obtain ⟨v', w', hr, h2, h3⟩ := run_appN W o.type base v n xs hown src m news hsrc h63 hbase
  unfold Oper.wp execOp
  simp only [ho, resolve, invoke, builtin, Sem.run_bind, Sem.run_pure, Result.andThen_ok, List.map_toArray, List.map_cons, List.map_nil, hs, hx, hr]
  exact h v' w' h2 h3
theorem wpList_appN (W : World) {ops : Array Oper} {rest : List Oper} {o : Oper} {a : Act} {Q : Exit → Act → World → Prop} (hgd : o.guard = none) (s x : Operand)
    (ho : o.op = .call { callee := .builtin .append, args := #[s, x], argTypes := #[50, 50] })
    (base : Nat) (v : Value) (n : Nat) (xs : List Value) (hs : a.eval s = v) (hown : W.ownsRow base 22 1 v n xs)
    (src : Value) (m : Nat) (news : List Value) (hx : a.eval x = src) (hsrc : SrcN W src m news) (h63 : n + m ≤ 100000) (hbase : base ≤ W.heap.size)
    (h : ∀ v' w', w'.ownsRow base 22 1 v' (n + m) (xs ++ news) → W.grownBy w' v.ownBlock → wpList Try.prog ops Q rest (a.put o.dst v') w') : wpList Try.prog ops Q (o :: rest) a W :=
  wpList_plain hgd fun _ hK => wp_appN W s x ho base v n xs hs hown src m news hx hsrc h63 hbase fun v' w' h2 h3 => hK _ _ (h v' w' h2 h3)
theorem step_appN (W : World) {ops : Array Oper} {o : Oper} {a : Act} {K : Act → World → Prop} {Q : Exit → Act → World → Prop} {E : Prop} (hgd : o.guard = none) (s x : Operand)
    (ho : o.op = .call { callee := .builtin .append, args := #[s, x], argTypes := #[50, 50] })
    (base : Nat) (v : Value) (n : Nat) (xs : List Value) (hs : a.eval s = v) (hown : W.ownsRow base 22 1 v n xs)
    (src : Value) (m : Nat) (news : List Value) (hx : a.eval x = src) (hsrc : SrcN W src m news) (h63 : n + m ≤ 100000) (hbase : base ≤ W.heap.size)
    (h : ∀ v' w', w'.ownsRow base 22 1 v' (n + m) (xs ++ news) → W.grownBy w' v.ownBlock → K (a.put o.dst v') w') :
    if Region.wanted o (yielded ops a.tmps) = true then Oper.wp Try.prog o a W K Q else E := by
  have hw : Region.wanted o (yielded ops a.tmps) = true := by simp [Region.wanted, hgd]
  rw [if_pos hw]
  exact wp_appN W s x ho base v n xs hs hown src m news hx hsrc h63 hbase h

theorem add_blockN (g o j : Nat) : (⟨g, o, none⟩ : Addr).add j = ⟨g, o + j, none⟩ := by
  unfold Addr.add
  split <;> simp_all
/-- A list that lies in memory may be laid behind another. -/
theorem SrcN.of_num {w : World} {v : Value} {L : List Nat} (h : NumSl w v L) : SrcN w v L.length (numL L) := by
  rcases h with ⟨a, c, rfl, h0, rfl⟩ | ⟨g, o, c, rfl, _, hg, hc⟩
  · cases a with
    | none => exact .inl ⟨by rw [h0 rfl], rfl, rfl⟩
    | some ad => exact .inr ⟨ad, c, rfl, rfl, fun j u hj => by simp [numL] at hj, numL_one _⟩
  · refine .inr ⟨⟨g, o, none⟩, c, rfl, numL_len L, fun j u hj => ?_, numL_one L⟩
    rw [add_blockN]
    have hl : j < L.length := by have := (List.getElem?_eq_some_iff.1 hj).1; rwa [numL_len] at this
    rw [numL_at L j hl] at hj
    obtain rfl : nV L[j] = u := by simpa using hj
    exact hc j hl
set_option maxRecDepth 100000 in
/-- The first k. -/
theorem num_take {w : World} {v : Value} {L : List Nat} (h : NumSl w v L) (k : Nat) (hk : k ≤ L.length) :
    ∃ src, (∀ W : World, (Instr.slice 50 v none (some (.int .i64 (k : Int))) none).run Try.prog W = .ok src W) ∧ NumSl w src (L.take k) := by
  have hz : ∀ W : World, (sizeOf (Try.prog.elem 50)).run Try.prog W = .ok 1 W := fun W => rfl
  rcases h with ⟨a, c, rfl, h0, rfl⟩ | ⟨g, o, c, rfl, hlc, hg, hc⟩
  · obtain rfl : k = 0 := by simpa using hk
    refine ⟨sliced a 0 0 c 1, fun W => ?_, .inl ⟨_, _, rfl, ?_, rfl⟩⟩
    · rw [run_slice_h (P := Try.prog) W 50 a 0 c Try.underlying50 .i64 _ (by simp) (by simp), hz]
      rfl
    · cases a with
      | none => intro _; rw [h0 rfl]
      | some ad => intro h; split at h <;> simp at h
  · refine ⟨.slice (some ⟨g, o, none⟩) k c, fun W => ?_, .inr ⟨g, o, c, by rw [List.length_take, Nat.min_eq_left hk], by rw [List.length_take]; omega, hg, fun j hj => ?_⟩⟩
    · rw [run_slice_h (P := Try.prog) W 50 _ _ _ Try.underlying50 .i64 _ (by omega) (by omega), hz]
      simp only [Result.andThen_ok, sliced, Int.toNat_natCast, Nat.sub_zero]
      congr 2
      split
      · rfl
      · rw [Option.map_some, Nat.zero_mul, add_blockN, Nat.add_zero]
    · rw [List.getElem_take]
      exact hc j (by rw [List.length_take] at hj; omega)
set_option maxRecDepth 100000 in
/-- All but the first k. -/
theorem num_drop {w : World} {v : Value} {L : List Nat} (h : NumSl w v L) (k : Nat) (hk : k ≤ L.length) :
    ∃ src, (∀ W : World, (Instr.slice 50 v (some (.int .i64 (k : Int))) none none).run Try.prog W = .ok src W) ∧ NumSl w src (L.drop k) := by
  have hz : ∀ W : World, (sizeOf (Try.prog.elem 50)).run Try.prog W = .ok 1 W := fun W => rfl
  rcases h with ⟨a, c, rfl, h0, rfl⟩ | ⟨g, o, c, rfl, hlc, hg, hc⟩
  · obtain rfl : k = 0 := by simpa using hk
    refine ⟨sliced a 0 0 c 1, fun W => ?_, .inl ⟨_, _, rfl, ?_, rfl⟩⟩
    · rw [run_slice_l (P := Try.prog) W 50 a 0 c Try.underlying50 .i64 _ (by simp) (by simp), hz]
      rfl
    · cases a with
      | none => intro _; rw [h0 rfl]
      | some ad => intro h; split at h <;> simp at h
  · refine ⟨sliced (some ⟨g, o, none⟩) k L.length c 1, fun W => ?_, ?_⟩
    · rw [run_slice_l (P := Try.prog) W 50 _ _ _ Try.underlying50 .i64 _ (by omega) (by omega), hz]
      rfl
    · by_cases hkl : k = L.length
      · refine .inl ⟨_, _, by unfold sliced; rw [show L.length - k = 0 by omega], ?_, List.drop_eq_nil_of_le (by omega)⟩
        intro h; split at h <;> simp at h
      · refine .inr ⟨g, o + k, c - k, ?_, by rw [List.length_drop]; omega, hg, fun j hj => ?_⟩
        · unfold sliced
          rw [if_neg (by omega), Option.map_some, Nat.mul_one, add_blockN, List.length_drop]
        · rw [List.getElem_drop, Nat.add_assoc]
          exact hc (k + j) (by rw [List.length_drop] at hj; omega)
end Go.Proofs.Ytpdedogdffolnaa
