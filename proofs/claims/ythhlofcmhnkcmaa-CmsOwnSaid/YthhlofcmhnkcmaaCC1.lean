/- Package cms: what is wrong with counters: errno, shape, told. -/
import Derived.Test.YthhlofcmhnkcmaaCRef2
import Derived.WalkLawsBesides
import Derived.Shelf.Abstract
import Derived.OwnWalkIn
namespace Go.Proofs.Ythhlofcmhnkcmaa
open Go.RowKit Go.Shelf
attribute [local go_sem] Oper.semAt_some

theorem as_nil (w : World) : (Instr.typeAssert .nilIface 49 69 true).run Try.prog w = .ok (.tuple #[.string { data := #[] }, .bool false]) w := by kernel_rfl
theorem as_bad (s : ByteArray) (w : World) : (Instr.typeAssert (.iface 69 (.string s)) 49 69 true).run Try.prog w = .ok (.tuple #[.string s, .bool true]) w := by kernel_rfl
set_option maxRecDepth 100000 in
theorem errno_ok (w : World) : Calls Try.prog 34 #[.nilIface] w fun e w' => e = .returned (.int .i64 0) ∧ w = w' := by
  have h := as_nil
  go_enter Try.func34, Try.ntmps34
  go_wp2
  go_ret
  exact ⟨rfl, rfl⟩
set_option maxRecDepth 100000 in
theorem errno_bad (s : ByteArray) (w : World) : Calls Try.prog 34 #[.iface 69 (.string s)] w fun e w' => e = .returned (.int .i64 80) ∧ w = w' := by
  have h := as_bad s
  go_enter Try.func34, Try.ntmps34
  go_wp2
  go_ret
  exact ⟨rfl, rfl⟩

/-- An error, or none. -/
def ErrV (ok : Bool) (v : Value) : Prop := (ok = true ∧ v = .nilIface) ∨ (ok = false ∧ ∃ s, v = .iface 69 (.string s))
theorem and_pow8 : ∀ n : Fin 33, 4 ≤ n.val → (bits BinOp.and IntKind.i64 (n.val : Int) ((n.val : Int) - 1) != 0) = !(decide ((n.val : Int) = 4) || (decide ((n.val : Int) = 8) || (decide ((n.val : Int) = 16) || decide ((n.val : Int) = 32)))) := by decide
theorem and_pow {c : Int} (h1 : 4 ≤ c) (h2 : c ≤ 32) : (bits BinOp.and IntKind.i64 c (c - 1) != 0) = !(decide (c = 4) || (decide (c = 8) || (decide (c = 16) || decide (c = 32)))) := by
  obtain ⟨n, rfl⟩ : ∃ n : Nat, c = (n : Int) := ⟨c.toNat, by omega⟩
  exact and_pow8 ⟨n, by omega⟩ (by show 4 ≤ n; omega)
set_option maxRecDepth 100000 in
theorem shape_any (r c : Int) (w : World) : Calls Try.prog 42 #[.int .i64 r, .int .i64 c] w fun e w' => (∃ u, e = .returned u ∧ ErrV (okC r c) u) ∧ w = w' := by
  by_cases h1 : 1 ≤ r ∧ r ≤ 4
  · have e1 : ¬ r < 1 := by omega
    have e2 : ¬ 4 < r := by omega
    by_cases h3 : 4 ≤ c ∧ c ≤ 32
    · have e3 : ¬ c < 4 := by omega
      have e4 : ¬ 32 < c := by omega
      have ha := and_pow h3.1 h3.2
      have hv : okC r c = (decide (c = 4) || (decide (c = 8) || (decide (c = 16) || decide (c = 32)))) := by
        unfold okC
        rw [decide_eq_true h1.1, decide_eq_true h1.2, Bool.true_and, Bool.true_and]
      rw [hv]
      obtain ⟨q, hq⟩ : ∃ q, q = (decide (c = 4) || (decide (c = 8) || (decide (c = 16) || decide (c = 32)))) := ⟨_, rfl⟩
      rw [← hq] at ha ⊢
      clear hv hq h1 h3
      cases q with
      | true =>
        go_enter Try.func42, Try.ntmps42
        go_wp2
        go_ret
        exact ⟨⟨_, rfl, .inl ⟨rfl, rfl⟩⟩, rfl⟩
      | false =>
        go_enter Try.func42, Try.ntmps42
        go_wp2
        go_ret
        exact ⟨⟨_, rfl, .inr ⟨rfl, _, rfl⟩⟩, rfl⟩
    · have hv : okC r c = false := by
        unfold okC
        rw [decide_eq_false (show ¬ c = 4 by omega), decide_eq_false (show ¬ c = 8 by omega), decide_eq_false (show ¬ c = 16 by omega), decide_eq_false (show ¬ c = 32 by omega)]
        simp
      rw [hv]
      clear hv
      by_cases h4 : c < 4
      · go_enter Try.func42, Try.ntmps42
        go_wp2
        go_ret
        exact ⟨⟨_, rfl, .inr ⟨rfl, _, rfl⟩⟩, rfl⟩
      · have h5 : 32 < c := by omega
        go_enter Try.func42, Try.ntmps42
        go_wp2
        go_ret
        exact ⟨⟨_, rfl, .inr ⟨rfl, _, rfl⟩⟩, rfl⟩
  · have hv : okC r c = false := by
      unfold okC
      by_cases h2 : 1 ≤ r
      · rw [decide_eq_false (show ¬ r ≤ 4 by omega), Bool.false_and, Bool.and_false]
      · rw [decide_eq_false h2, Bool.false_and]
    rw [hv]
    clear hv
    by_cases h4 : r < 1
    · go_enter Try.func42, Try.ntmps42
      go_wp2
      go_ret
      exact ⟨⟨_, rfl, .inr ⟨rfl, _, rfl⟩⟩, rfl⟩
    · have h5 : 4 < r := by omega
      go_enter Try.func42, Try.ntmps42
      go_wp2
      go_ret
      exact ⟨⟨_, rfl, .inr ⟨rfl, _, rfl⟩⟩, rfl⟩
set_option maxHeartbeats 2000000 in
set_option maxRecDepth 100000 in
/-- What told answers. -/
theorem told_ok (r c : Int) (a : Option Addr) (n cp : Nat) (w : World) :
    Calls Try.prog 30 #[cV r c (.slice a n cp), .nilIface] w fun e w' => e = .returned (.tuple #[cV r c (.slice a n cp), .int .i64 0]) ∧ Below w.heap.size w w' := by
  unfold cV
  go_enter Try.func30, Try.ntmps30
  go_wp2_with fail
  with_reducible refine (errno_ok _).mono ?_
  rintro e w2 ⟨rfl, rfl⟩
  go_wp2_with fail
  refine bodyPost_ret (results_cms rfl _ _ (w.heap.size + 1) _ _ _ rfl (HasC.at_ _ _ _ (by simp))) rfl ?_
  exact ⟨rfl, ((Below.refl _ w).alloc (Nat.le_refl _) _).alloc (by simp) _⟩
set_option maxHeartbeats 2000000 in
set_option maxRecDepth 100000 in
theorem told_bad (r c : Int) (a : Option Addr) (n cp : Nat) (s : ByteArray) (w : World) :
    Calls Try.prog 30 #[cV r c (.slice a n cp), .iface 69 (.string s)] w fun e w' => e = .returned (.tuple #[cV 0 0 (.slice none 0 0), .int .i64 80]) ∧ Below w.heap.size w w' := by
  unfold cV
  go_enter Try.func30, Try.ntmps30
  go_wp2_with fail
  with_reducible refine (errno_bad _ _).mono ?_
  rintro e w2 ⟨rfl, rfl⟩
  go_wp2_with fail
  refine bodyPost_ret (results_cms rfl _ _ (w.heap.size + 1) _ _ _ rfl (HasC.at_ _ _ _ (by simp))) rfl ?_
  exact ⟨rfl, ((Below.refl _ w).alloc (Nat.le_refl _) _).alloc (by simp) _⟩
set_option maxRecDepth 100000 in
/-- Both numbers, saturated. -/
theorem together_any (a b : Nat) (w : World) (ha : a ≤ topN) (hb : b ≤ topN) : Calls Try.prog 50 #[nV a, nV b] w fun e w' => e = .returned (nV (plusS a b)) ∧ w' = w := by
  have ht : topN = 18446744073709551615 := rfl
  obtain ⟨z, hz⟩ : ∃ z : Nat, IntKind.u64.wrap ((a : Int) + (b : Int)) = (z : Int) := ⟨((a + b) % 18446744073709551616), by rw [wrap_u64c]; omega⟩
  by_cases h : a + b ≤ 18446744073709551615
  · have e1 : z = a + b := by rw [wrap_u64c] at hz; omega
    have hv : plusS a b = z := by unfold plusS; omega
    have h1 : (a : Int) ≤ (z : Int) := by omega
    have HV := Lib.hid hv
    clear hv ha hb ht e1 h
    go_enter Try.func50, Try.ntmps50
    go_wp2
    go_ret
    exact ⟨by rw [HV.out]; rfl, rfl⟩
  · have e1 : z + 18446744073709551616 = a + b := by rw [wrap_u64c] at hz; omega
    have hv : plusS a b = 18446744073709551615 := by unfold plusS; omega
    have h1 : ¬ (a : Int) ≤ (z : Int) := by omega
    have HV := Lib.hid hv
    clear hv ha hb ht e1 h
    go_enter Try.func50, Try.ntmps50
    go_wp2
    go_ret
    exact ⟨by rw [HV.out]; rfl, rfl⟩
set_option maxHeartbeats 1000000 in
set_option maxRecDepth 100000 in
/-- The column that a number tells. -/
theorem column_any (b k h : Nat) (w : World) (hb1 : 1 ≤ b) (hb2 : b ≤ 32) (hk4 : k < 4) (hh : h ≤ topN) :
    Calls Try.prog 37 #[.int .i64 (b : Int), .int .i64 (k : Int), nV h] w fun e w' => e = .returned (.int .i64 ((colC b k h : Nat) : Int)) ∧ w' = w := by
  have ht : topN = 18446744073709551615 := rfl
  obtain ⟨hi, hhi⟩ : ∃ hi, hi = h / 4294967296 := ⟨_, rfl⟩
  obtain ⟨lo, hlo⟩ : ∃ lo, lo = h % 4294967296 := ⟨_, rfl⟩
  have hhl : hi < 4294967296 := by omega
  have hll : lo < 4294967296 := by omega
  have q1 : ((h : Int) / 4294967296) = (hi : Int) := by omega
  have q2 : IntKind.u32.wrap (h : Int) = (lo : Int) := by
    have e : IntKind.u32.wrap (h : Int) = (h : Int) % 4294967296 := by simp [IntKind.wrap, IntKind.signed, IntKind.bits]
    rw [e]; omega
  have q2' : IntKind.u64.wrap (lo : Int) = (lo : Int) := by rw [wrap_u64c]; omega
  have hkl : k * lo ≤ 3 * 4294967295 := Nat.mul_le_mul (by omega) (by omega)
  obtain ⟨z, hz⟩ : ∃ z, z = k * lo := ⟨_, rfl⟩
  rw [← hz] at hkl
  have q0 : IntKind.u64.wrap (k : Int) = (k : Int) := by rw [wrap_u64c]; omega
  have q3 : IntKind.u64.wrap ((k : Int) * (lo : Int)) = (z : Int) := by
    have e : ((k : Int) * (lo : Int)) = (z : Int) := by rw [hz]; push_cast; rfl
    rw [e, wrap_u64c]; omega
  have q4 : IntKind.u64.wrap ((hi : Int) + (z : Int)) = ((hi + z : Nat) : Int) := by rw [wrap_u64c]; omega
  have q5 : IntKind.u64.wrap (b : Int) = (b : Int) := by rw [wrap_u64c]; omega
  have hb0 : ¬ (b : Int) = 0 := by omega
  obtain ⟨d, hd⟩ : ∃ d, d = (hi + z) % b := ⟨_, rfl⟩
  have q6 : (((hi + z : Nat) : Int) % (b : Int)) = (d : Int) := by rw [hd]; push_cast; rfl
  have hdb : d < 32 := by have := Nat.mod_lt (hi + z) (show b > 0 by omega); omega
  have hv : colC b k h = d := by unfold colC; rw [hd, hz, hhi, hlo]
  have HV := Lib.hid hv
  have q6' : (((hi : Int) + (z : Int)).tmod (b : Int)) = (d : Int) := by
    rw [Int.tmod_eq_emod_of_nonneg (by omega), ← q6]; push_cast; rfl
  have q7 : IntKind.i64.wrap (d : Int) = (d : Int) := by
    have e : IntKind.i64.wrap (d : Int) = if 9223372036854775808 ≤ (d : Int) % 18446744073709551616 then (d : Int) % 18446744073709551616 - 18446744073709551616 else (d : Int) % 18446744073709551616 := by simp [IntKind.wrap, IntKind.signed, IntKind.bits]
    rw [e]; split <;> omega
  have q1' : (h : Int).tdiv 4294967296 = (hi : Int) := by rw [Int.tdiv_eq_ediv_of_nonneg (by omega)]; exact q1
  clear hv hd hz hhi hlo hh ht
  go_enter Try.func37, Try.ntmps37
  go_wp2_with fail
  go_ret
  exact ⟨by rw [HV.out]; rfl, rfl⟩
end Go.Proofs.Ythhlofcmhnkcmaa
