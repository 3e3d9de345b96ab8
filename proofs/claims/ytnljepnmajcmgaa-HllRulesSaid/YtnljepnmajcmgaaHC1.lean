/- Package hll: what is wrong with registers: errno, digits, told; done. -/
import Derived.Test.YtnljepnmajcmgaaHRef2
import Derived.WalkLawsBesides
import Derived.Shelf.Abstract
import Derived.OwnWalkIn
namespace Go.Proofs.Ytnljepnmajcmgaa
open Go.RowKit Go.Shelf
attribute [local go_sem] Oper.semAt_some

theorem as_nil (w : World) : (Instr.typeAssert .nilIface 47 66 true).run Try.prog w = .ok (.tuple #[.string { data := #[] }, .bool false]) w := by kernel_rfl
theorem as_bad (s : ByteArray) (w : World) : (Instr.typeAssert (.iface 66 (.string s)) 47 66 true).run Try.prog w = .ok (.tuple #[.string s, .bool true]) w := by kernel_rfl
set_option maxRecDepth 100000 in
theorem errno_ok (w : World) : Calls Try.prog 32 #[.nilIface] w fun e w' => e = .returned (.int .i64 0) ∧ w = w' := by
  have h := as_nil
  go_enter Try.func32, Try.ntmps32
  go_wp2
  go_ret
  exact ⟨rfl, rfl⟩
set_option maxRecDepth 100000 in
theorem errno_bad (s : ByteArray) (w : World) : Calls Try.prog 32 #[.iface 66 (.string s)] w fun e w' => e = .returned (.int .i64 70) ∧ w = w' := by
  have h := as_bad s
  go_enter Try.func32, Try.ntmps32
  go_wp2
  go_ret
  exact ⟨rfl, rfl⟩

/-- An error, or none. -/
def ErrV (ok : Bool) (v : Value) : Prop := (ok = true ∧ v = .nilIface) ∨ (ok = false ∧ ∃ s, v = .iface 66 (.string s))
set_option maxRecDepth 100000 in
theorem digits_any (b : Int) (w : World) : Calls Try.prog 33 #[.int .i64 b] w fun e w' => (∃ u, e = .returned u ∧ ErrV (okB b) u) ∧ w = w' := by
  unfold okB
  by_cases h1 : b < 3
  · rw [decide_eq_false (show ¬ 3 ≤ b by omega)]
    go_enter Try.func33, Try.ntmps33
    go_wp2
    go_ret
    exact ⟨⟨_, rfl, .inr ⟨rfl, _, rfl⟩⟩, rfl⟩
  · by_cases h2 : 8 < b
    · rw [decide_eq_false (show ¬ b ≤ 8 by omega), Bool.and_false]
      have h3 : 3 ≤ b := by omega
      go_enter Try.func33, Try.ntmps33
      go_wp2
      go_ret
      exact ⟨⟨_, rfl, .inr ⟨rfl, _, rfl⟩⟩, rfl⟩
    · rw [decide_eq_true (show 3 ≤ b by omega), decide_eq_true (show b ≤ 8 by omega)]
      have h3 : 3 ≤ b := by omega
      have h4 : b ≤ 8 := by omega
      go_enter Try.func33, Try.ntmps33
      go_wp2
      go_ret
      exact ⟨⟨_, rfl, .inl ⟨rfl, rfl⟩⟩, rfl⟩
set_option maxHeartbeats 2000000 in
set_option maxRecDepth 100000 in
/-- What told answers. -/
theorem told_ok (b : Int) (s : ByteArray) (w : World) :
    Calls Try.prog 30 #[.agg #[.int .i64 b, .string s], .nilIface] w fun e w' => e = .returned (.tuple #[.agg #[.int .i64 b, .string s], .int .i64 0]) ∧ Below w.heap.size w w' := by
  go_enter Try.func30, Try.ntmps30
  go_wp2_with fail
  with_reducible refine (errno_ok _).mono ?_
  rintro e w2 ⟨rfl, rfl⟩
  go_wp2_with fail
  refine bodyPost_ret (results_hll rfl _ _ (w.heap.size + 1) (.int .i64 b) (.string s) rfl (HasC.at_ _ _ _ (by simp))) rfl ?_
  exact ⟨rfl, ((Below.refl _ w).alloc (Nat.le_refl _) _).alloc (by simp) _⟩
set_option maxHeartbeats 2000000 in
set_option maxRecDepth 100000 in
theorem told_bad (b : Int) (t s : ByteArray) (w : World) :
    Calls Try.prog 30 #[.agg #[.int .i64 b, .string t], .iface 66 (.string s)] w fun e w' => e = .returned (.tuple #[.agg #[.int .i64 0, .string { data := #[] }], .int .i64 70]) ∧ Below w.heap.size w w' := by
  go_enter Try.func30, Try.ntmps30
  go_wp2_with fail
  with_reducible refine (errno_bad _ _).mono ?_
  rintro e w2 ⟨rfl, rfl⟩
  go_wp2_with fail
  refine bodyPost_ret (results_hll rfl _ _ (w.heap.size + 1) (.int .i64 0) (.string { data := #[] }) rfl (HasC.at_ _ _ _ (by simp))) rfl ?_
  exact ⟨rfl, ((Below.refl _ w).alloc (Nat.le_refl _) _).alloc (by simp) _⟩

/-- The registers at work, in their block. -/
abbrev WkC (w : World) (g : Nat) (b : Int) (s : ByteArray) (v f : Value) : Prop := HasC w g 63 #[.int .i64 b, .string s, v, f]
set_option maxHeartbeats 2000000 in
set_option maxRecDepth 100000 in
/-- The registers, as they are by now: R, in a row of bytes. -/
theorem done_any (b : Int) (s : ByteArray) (v f : Value) (g : Nat) (R : List Nat) (w : World) (hW : WkC w g b s v f)
    (hv : ∀ W : World, (∀ k, k < w.heap.size → W.heap[k]? = w.heap[k]?) → (convert 52 9 v).run Try.prog W = .ok (.string (regS R)) W) :
    Calls Try.prog 40 #[.pointer (some ⟨g, 0, none⟩)] w fun e w' => e = .returned (hV b R) ∧ w'.heap.size = w.heap.size + 1 ∧ (∀ k, k < w.heap.size → k ≠ g → w'.heap[k]? = w.heap[k]?) ∧ Below g w w' := by
  have hg := hW.lt
  have c0 := hW.cell 0
  have c1 := hW.cell 1
  have c2 := hW.cell 2
  have z1 := hW.frozen 1
  have hcv := hv (w.alloc (.cells #[.int .i64 0, .string { data := #[] }] 23)) (fun k hk => Below.heap_alloc w _ k hk)
  have HW := Lib.hid hW
  clear hv hW
  go_enter Try.func40, Try.ntmps40
  go_wp2_with fail
  refine bodyPost_ret (result_hll rfl _ _ w.heap.size (.int .i64 b) (.string (regS R)) rfl (HasC.at_ _ _ _ (by simp))) rfl ?_
  refine ⟨rfl, by simp, fun k hk hkg => ?_, ?_⟩
  · rw [Below.heap_alloc _ _ k (by simpa using hk)]
    exact Below.heap_setCell w ⟨g, 1, none⟩ _ k hkg
  · exact ((Below.refl g w).setCell (p := ⟨g, 1, none⟩) (Nat.le_refl _) _).alloc (by simp; omega) _
end Go.Proofs.Ytnljepnmajcmgaa
