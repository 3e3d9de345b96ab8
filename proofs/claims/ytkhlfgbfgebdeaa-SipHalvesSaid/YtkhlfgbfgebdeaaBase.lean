/- Contracts of the small functions of package sip: a turned number, numbers out of a list, two numbers compared. -/
import Derived.Test.YtkhlfgbfgebdeaaRows
import Derived.Test.YtkhlfgbfgebdeaaMath
import Derived.WalkKit
import Derived.Deep.QuietTactic
import Derived.BigQuiet
import Derived.WalkLawsBesides
import Derived.Test.YtkhlfgbfgebdeaaLaws
namespace Go.Proofs.Ytkhlfgbfgebdeaa
open Go.RowKit

attribute [local go_sem] wrap_add wrap_sub xor_n64 or_n64

theorem rotl13 (x : BitVec 64) (w : World) : Calls Try.prog 29 #[.int .u64 (n64 x), .int .i64 13] w fun e w' => e = .returned (.int .u64 (n64 (rot x 13))) ∧ w = w' := by
  have h13 : bits .and .u64 13 63 = 13 := by decide
  have hr := rot13 x
  go_enter Try.func29, Try.ntmps29
  go_wp2
  go_ret
  exact ⟨rfl, rfl⟩
theorem rotl16 (x : BitVec 64) (w : World) : Calls Try.prog 29 #[.int .u64 (n64 x), .int .i64 16] w fun e w' => e = .returned (.int .u64 (n64 (rot x 16))) ∧ w = w' := by
  have h13 : bits .and .u64 16 63 = 16 := by decide
  have hr := rot16 x
  go_enter Try.func29, Try.ntmps29
  go_wp2
  go_ret
  exact ⟨rfl, rfl⟩
theorem rotl17 (x : BitVec 64) (w : World) : Calls Try.prog 29 #[.int .u64 (n64 x), .int .i64 17] w fun e w' => e = .returned (.int .u64 (n64 (rot x 17))) ∧ w = w' := by
  have h13 : bits .and .u64 17 63 = 17 := by decide
  have hr := rot17 x
  go_enter Try.func29, Try.ntmps29
  go_wp2
  go_ret
  exact ⟨rfl, rfl⟩
theorem rotl21 (x : BitVec 64) (w : World) : Calls Try.prog 29 #[.int .u64 (n64 x), .int .i64 21] w fun e w' => e = .returned (.int .u64 (n64 (rot x 21))) ∧ w = w' := by
  have h13 : bits .and .u64 21 63 = 21 := by decide
  have hr := rot21 x
  go_enter Try.func29, Try.ntmps29
  go_wp2
  go_ret
  exact ⟨rfl, rfl⟩
theorem rotl32 (x : BitVec 64) (w : World) : Calls Try.prog 29 #[.int .u64 (n64 x), .int .i64 32] w fun e w' => e = .returned (.int .u64 (n64 (rot x 32))) ∧ w = w' := by
  have h13 : bits .and .u64 32 63 = 32 := by decide
  have hr := rot32 x
  go_enter Try.func29, Try.ntmps29
  go_wp2
  go_ret
  exact ⟨rfl, rfl⟩

theorem copy1 (w : World) (b o : Nat) (x : BitVec 64) (hb : b < w.heap.size) (hc : w.cell? ⟨b, o, none⟩ = some (.int .u64 (n64 x))) :
    (Builtin.copy_ #[49, 49] 3 #[.slice (some ⟨w.heap.size + 1, 0, none⟩) 4 4, .slice (some ⟨b, o, none⟩) 1 1]).run Try.prog
      ((w.alloc (.cells #[.int .u64 0, .int .u64 0, .int .u64 0, .int .u64 0] 38)).alloc (.cells #[.int .u64 0, .int .u64 0, .int .u64 0, .int .u64 0] 38)) =
    .ok (goInt 1) (((w.alloc (.cells #[.int .u64 0, .int .u64 0, .int .u64 0, .int .u64 0] 38)).alloc (.cells #[.int .u64 0, .int .u64 0, .int .u64 0, .int .u64 0] 38)).setCell ⟨w.heap.size + 1, 0, none⟩ (.int .u64 (n64 x))) := by
  refine run_copy_cells (P := Try.prog) _ 49 49 3 22 (w.heap.size + 1) 0 4 4 ⟨b, o, none⟩ 1 1 [.int .u64 (n64 x)] Try.underlying49 (by kernel_rfl) rfl ?_ ?_ ?_ ?_
  · intro j v hj
    match j, hj with
    | 0, hj =>
      simp at hj
      subst hj
      show World.cell? _ ⟨b, o, none⟩ = _
      rw [World.cell?_alloc_lt _ _ _ (by simp; omega), World.cell?_alloc_lt _ _ _ (by simp; omega)]
      exact hc
  · intro j hj
    have : j = 0 := by simpa using hj
    subst this
    rw [World.cell?_alloc_at _ _ _ _ (by simp)]
    rfl
  · intro j hj
    rw [World.frozen?_alloc_at _ _ _ _ (by simp)]
  · intro v hv
    simp at hv
    subst hv
    rfl
theorem copy4 (w : World) (b o : Nat) (v : Q4) (hb : b < w.heap.size) (h0 : w.cell? ⟨b, o, none⟩ = some (.int .u64 (n64 v.a))) (h1 : w.cell? ⟨b, o + 1, none⟩ = some (.int .u64 (n64 v.b)))
    (h2 : w.cell? ⟨b, o + 2, none⟩ = some (.int .u64 (n64 v.c))) (h3 : w.cell? ⟨b, o + 3, none⟩ = some (.int .u64 (n64 v.d))) :
    (Builtin.copy_ #[49, 49] 3 #[.slice (some ⟨w.heap.size + 1, 0, none⟩) 4 4, .slice (some ⟨b, o, none⟩) 4 4]).run Try.prog
      ((w.alloc (.cells #[.int .u64 0, .int .u64 0, .int .u64 0, .int .u64 0] 38)).alloc (.cells #[.int .u64 0, .int .u64 0, .int .u64 0, .int .u64 0] 38)) =
    .ok (goInt 4) ((w.alloc (.cells #[.int .u64 0, .int .u64 0, .int .u64 0, .int .u64 0] 38)).alloc (.cells #[.int .u64 (n64 v.a), .int .u64 (n64 v.b), .int .u64 (n64 v.c), .int .u64 (n64 v.d)] 38)) := by
  have key := run_copy_cells (P := Try.prog) ((w.alloc (.cells #[.int .u64 0, .int .u64 0, .int .u64 0, .int .u64 0] 38)).alloc (.cells #[.int .u64 0, .int .u64 0, .int .u64 0, .int .u64 0] 38)) 49 49 3 22 (w.heap.size + 1) 0 4 4 ⟨b, o, none⟩ 4 4 [.int .u64 (n64 v.a), .int .u64 (n64 v.b), .int .u64 (n64 v.c), .int .u64 (n64 v.d)] Try.underlying49 (by kernel_rfl) rfl ?_ ?_ ?_ ?_
  · rw [key]
    have e : ∀ (V : World) (n i : Nat) (c : Array Value) (t : TypeId) (u : Value), n = V.heap.size → (V.alloc (.cells c t)).setCell ⟨n, i, none⟩ u = V.alloc (.cells (c.setIfInBounds i u) t) := fun V n i c t u hn => World.setCell_alloc_at _ _ _ _ _ hn
    have hs : w.heap.size + 1 = (w.alloc (.cells #[.int .u64 0, .int .u64 0, .int .u64 0, .int .u64 0] 38)).heap.size := by simp
    simp only [World.setCells, e _ _ _ _ _ _ hs]
    rfl
  · intro j u hj
    have hlt : j < 4 := by
      have := (List.getElem?_eq_some_iff.1 hj).1
      simpa using this
    have hh : ∀ i, World.cell? ((w.alloc (.cells #[.int .u64 0, .int .u64 0, .int .u64 0, .int .u64 0] 38)).alloc (.cells #[.int .u64 0, .int .u64 0, .int .u64 0, .int .u64 0] 38)) ⟨b, i, none⟩ = w.cell? ⟨b, i, none⟩ := fun i => by
      rw [World.cell?_alloc_lt _ _ _ (by simp; omega), World.cell?_alloc_lt _ _ _ (by simp; omega)]
    match j, hlt, hj with
    | 0, _, hj => simp at hj; subst hj; exact (hh _).trans h0
    | 1, _, hj => simp at hj; subst hj; exact (hh _).trans h1
    | 2, _, hj => simp at hj; subst hj; exact (hh _).trans h2
    | 3, _, hj => simp at hj; subst hj; exact (hh _).trans h3
  · intro j hj
    have hlt : j < 4 := by simpa using hj
    rw [World.cell?_alloc_at _ _ _ _ (by simp)]
    match j, hlt with
    | 0, _ => rfl
    | 1, _ => rfl
    | 2, _ => rfl
    | 3, _ => rfl
  · intro j hj
    rw [World.frozen?_alloc_at _ _ _ _ (by simp)]
  · intro u hu
    simp at hu
    rcases hu with rfl | rfl | rfl | rfl <;> rfl

/-- Four numbers in a block. -/
def cells4 (v : Q4) : Array Value := #[.int .u64 (n64 v.a), .int .u64 (n64 v.b), .int .u64 (n64 v.c), .int .u64 (n64 v.d)]

theorem nums1 (w : World) (b o : Nat) (x : BitVec 64) (hb : b < w.heap.size) (hc : w.cell? ⟨b, o, none⟩ = some (.int .u64 (n64 x))) :
    Calls Try.prog 25 #[.slice (some ⟨b, o, none⟩) 1 1] w fun e w' => e = .returned (.agg #[.int .u64 (n64 x), .int .u64 0, .int .u64 0, .int .u64 0]) ∧
      w' = (w.alloc (.cells #[.int .u64 (n64 x), .int .u64 0, .int .u64 0, .int .u64 0] 38)).alloc (.cells #[.int .u64 (n64 x), .int .u64 0, .int .u64 0, .int .u64 0] 38) := by
  have hcp := copy1 w b o x hb hc
  go_enter Try.func25, Try.ntmps25
  go_wp2
  exact bodyPost_ret (v := .agg #[.int .u64 (n64 x), .int .u64 0, .int .u64 0, .int .u64 0]) (by simp [results, Try.results25, go_sem]) rfl ⟨rfl, rfl⟩
theorem nums4 (w : World) (b o : Nat) (v : Q4) (hb : b < w.heap.size) (h0 : w.cell? ⟨b, o, none⟩ = some (.int .u64 (n64 v.a))) (h1 : w.cell? ⟨b, o + 1, none⟩ = some (.int .u64 (n64 v.b)))
    (h2 : w.cell? ⟨b, o + 2, none⟩ = some (.int .u64 (n64 v.c))) (h3 : w.cell? ⟨b, o + 3, none⟩ = some (.int .u64 (n64 v.d))) :
    Calls Try.prog 25 #[.slice (some ⟨b, o, none⟩) 4 4] w fun e w' => e = .returned (.agg #[.int .u64 (n64 v.a), .int .u64 (n64 v.b), .int .u64 (n64 v.c), .int .u64 (n64 v.d)]) ∧
      w' = (w.alloc (.cells #[.int .u64 (n64 v.a), .int .u64 (n64 v.b), .int .u64 (n64 v.c), .int .u64 (n64 v.d)] 38)).alloc (.cells #[.int .u64 (n64 v.a), .int .u64 (n64 v.b), .int .u64 (n64 v.c), .int .u64 (n64 v.d)] 38) := by
  have hcp := copy4 w b o v hb h0 h1 h2 h3
  go_enter Try.func25, Try.ntmps25
  go_wp2
  exact bodyPost_ret (v := .agg #[.int .u64 (n64 v.a), .int .u64 (n64 v.b), .int .u64 (n64 v.c), .int .u64 (n64 v.d)]) (by simp [results, Try.results25, go_sem]) rfl ⟨rfl, rfl⟩
theorem same_any (x y : BitVec 64) (w : World) : Calls Try.prog 18 #[.int .u64 (n64 x), .int .u64 (n64 y)] w fun e w' => e = .returned (.bool (decide (x = y))) ∧ Below w.heap.size w w' := by
  have hxy := n64_beq x y
  have heq := fun (W : World) => eql_arr4 (P := Try.prog) W 38 22 (n64 x) 0 0 0 (n64 y) 0 0 0 Try.underlying38 Try.underlying22 (by kernel_rfl)
  go_enter Try.func18, Try.ntmps18
  go_wp2_with fail
  refine (nums1 _ _ _ x (by simp) (by rw [World.cell?_alloc_at _ _ _ _ (by simp)]; rfl)).mono ?_
  rintro e w1 ⟨rfl, rfl⟩
  go_wp2_with fail
  refine (nums1 _ _ _ y (by simp) (by rw [World.cell?_alloc_at _ _ _ _ (by simp)]; rfl)).mono ?_
  rintro e w1 ⟨rfl, rfl⟩
  go_wp2_with fail
  go_ret
  exact ⟨rfl, ((((((Below.refl _ _).alloc (by simp) _).alloc (by simp) _).alloc (by simp <;> omega) _).alloc (by simp <;> omega) _).alloc (by simp <;> omega) _).alloc (by simp <;> omega) _⟩


end Go.Proofs.Ytkhlfgbfgebdeaa
