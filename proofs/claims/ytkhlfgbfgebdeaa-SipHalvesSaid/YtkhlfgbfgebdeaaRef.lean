/- Contracts of the page's own functions: a turned number, a round, a round undone. -/
import Derived.Test.YtkhlfgbfgebdeaaRound
import Derived.Test.YtkhlfgbfgebdeaaQuiet
import Derived.Deep.DeepCutAuto
import Derived.Lib.Hide
namespace Go.Proofs.Ytkhlfgbfgebdeaa
open Go.RowKit
attribute [local go_sem] wrap_add wrap_sub xor_n64 or_n64

theorem turn13 (x : BitVec 64) (w : World) : Calls Try.prog 27 #[.int .u64 (n64 x), .int .i64 13] w fun e w' => e = .returned (.int .u64 (n64 (rot x 13))) ∧ ∃ n, w' = w.drewN n := by
  have hr := rot13 x
  go_enter Try.func27, Try.ntmps27
  go_wp2
  go_quiet (fail)
  go_wp2
  go_ret
  exact ⟨rfl, _, rfl⟩
theorem turn16 (x : BitVec 64) (w : World) : Calls Try.prog 27 #[.int .u64 (n64 x), .int .i64 16] w fun e w' => e = .returned (.int .u64 (n64 (rot x 16))) ∧ ∃ n, w' = w.drewN n := by
  have hr := rot16 x
  go_enter Try.func27, Try.ntmps27
  go_wp2
  go_quiet (fail)
  go_wp2
  go_ret
  exact ⟨rfl, _, rfl⟩
theorem turn17 (x : BitVec 64) (w : World) : Calls Try.prog 27 #[.int .u64 (n64 x), .int .i64 17] w fun e w' => e = .returned (.int .u64 (n64 (rot x 17))) ∧ ∃ n, w' = w.drewN n := by
  have hr := rot17 x
  go_enter Try.func27, Try.ntmps27
  go_wp2
  go_quiet (fail)
  go_wp2
  go_ret
  exact ⟨rfl, _, rfl⟩
theorem turn21 (x : BitVec 64) (w : World) : Calls Try.prog 27 #[.int .u64 (n64 x), .int .i64 21] w fun e w' => e = .returned (.int .u64 (n64 (rot x 21))) ∧ ∃ n, w' = w.drewN n := by
  have hr := rot21 x
  go_enter Try.func27, Try.ntmps27
  go_wp2
  go_quiet (fail)
  go_wp2
  go_ret
  exact ⟨rfl, _, rfl⟩
theorem turn32 (x : BitVec 64) (w : World) : Calls Try.prog 27 #[.int .u64 (n64 x), .int .i64 32] w fun e w' => e = .returned (.int .u64 (n64 (rot x 32))) ∧ ∃ n, w' = w.drewN n := by
  have hr := rot32 x
  go_enter Try.func27, Try.ntmps27
  go_wp2
  go_quiet (fail)
  go_wp2
  go_ret
  exact ⟨rfl, _, rfl⟩
theorem turn43 (x : BitVec 64) (w : World) : Calls Try.prog 27 #[.int .u64 (n64 x), .int .i64 43] w fun e w' => e = .returned (.int .u64 (n64 (rot x 43))) ∧ ∃ n, w' = w.drewN n := by
  have hr := rot43 x
  go_enter Try.func27, Try.ntmps27
  go_wp2
  go_quiet (fail)
  go_wp2
  go_ret
  exact ⟨rfl, _, rfl⟩
theorem turn47 (x : BitVec 64) (w : World) : Calls Try.prog 27 #[.int .u64 (n64 x), .int .i64 47] w fun e w' => e = .returned (.int .u64 (n64 (rot x 47))) ∧ ∃ n, w' = w.drewN n := by
  have hr := rot47 x
  go_enter Try.func27, Try.ntmps27
  go_wp2
  go_quiet (fail)
  go_wp2
  go_ret
  exact ⟨rfl, _, rfl⟩
theorem turn48 (x : BitVec 64) (w : World) : Calls Try.prog 27 #[.int .u64 (n64 x), .int .i64 48] w fun e w' => e = .returned (.int .u64 (n64 (rot x 48))) ∧ ∃ n, w' = w.drewN n := by
  have hr := rot48 x
  go_enter Try.func27, Try.ntmps27
  go_wp2
  go_quiet (fail)
  go_wp2
  go_ret
  exact ⟨rfl, _, rfl⟩
theorem turn51 (x : BitVec 64) (w : World) : Calls Try.prog 27 #[.int .u64 (n64 x), .int .i64 51] w fun e w' => e = .returned (.int .u64 (n64 (rot x 51))) ∧ ∃ n, w' = w.drewN n := by
  have hr := rot51 x
  go_enter Try.func27, Try.ntmps27
  go_wp2
  go_quiet (fail)
  go_wp2
  go_ret
  exact ⟨rfl, _, rfl⟩

set_option maxHeartbeats 1000000 in
theorem refRound (v : Q4) (w : World) : Calls Try.prog 17 #[.agg (cells4 v)] w fun e w' => e = .returned (.agg (cells4 (rnd v))) ∧ Below w.heap.size w w' := by
  obtain ⟨a1, ha1⟩ : ∃ x, v.a + v.b = x := ⟨_, rfl⟩
  obtain ⟨b1, hb1⟩ : ∃ x, rot v.b 13 ^^^ a1 = x := ⟨_, rfl⟩
  obtain ⟨a2, ha2⟩ : ∃ x, rot a1 32 = x := ⟨_, rfl⟩
  obtain ⟨c1, hc1⟩ : ∃ x, v.c + v.d = x := ⟨_, rfl⟩
  obtain ⟨d1, hd1⟩ : ∃ x, rot v.d 16 ^^^ c1 = x := ⟨_, rfl⟩
  obtain ⟨a3, ha3⟩ : ∃ x, a2 + d1 = x := ⟨_, rfl⟩
  obtain ⟨d2, hd2⟩ : ∃ x, rot d1 21 ^^^ a3 = x := ⟨_, rfl⟩
  obtain ⟨c2, hc2⟩ : ∃ x, c1 + b1 = x := ⟨_, rfl⟩
  obtain ⟨b2, hb2⟩ : ∃ x, rot b1 17 ^^^ c2 = x := ⟨_, rfl⟩
  obtain ⟨c3, hc3⟩ : ∃ x, rot c2 32 = x := ⟨_, rfl⟩
  have hfin : rnd v = ⟨a3, b2, c3, d2⟩ := by subst hc3 hb2 hc2 hd2 ha3 hd1 hc1 ha2 hb1 ha1; rfl
  rw [hfin]
  clear hfin
  unfold cells4
  go_enter Try.func17, Try.ntmps17
  go_upto_region 2 with fail
  refine region_tail 7 (fun W => HasC W w.heap.size 30 (cells4 ⟨a1, v.b, v.c, v.d⟩) ∧ HasC W (w.heap.size + 1) 30 (cells4 ⟨0#64, 0#64, 0#64, 0#64⟩) ∧ Below w.heap.size w W) (by kernel_rfl) (by kernel_rfl) ?_ ?_
  · refine ⟨?_, ?_, ?_⟩
    · exact HasC.drew (HasC.alloc (HasC.new _ _ _) _)
    · exact HasC.drew (HasC.at_ _ _ _ (by simp))
    · exact (((Below.refl _ _).alloc (Nat.le_refl _) _).alloc (by simp) _).drew
  have e0 : ∀ i : InC (fun W => HasC W w.heap.size 30 (cells4 ⟨a1, v.b, v.c, v.d⟩) ∧ HasC W (w.heap.size + 1) 30 (cells4 ⟨0#64, 0#64, 0#64, 0#64⟩) ∧ Below w.heap.size w W), i.w.cell? ⟨w.heap.size, 0, none⟩ = some (.int .u64 (n64 a1)) := fun i => i.h.1.cell 0
  have e1 : ∀ i : InC (fun W => HasC W w.heap.size 30 (cells4 ⟨a1, v.b, v.c, v.d⟩) ∧ HasC W (w.heap.size + 1) 30 (cells4 ⟨0#64, 0#64, 0#64, 0#64⟩) ∧ Below w.heap.size w W), i.w.cell? ⟨w.heap.size, 1, none⟩ = some (.int .u64 (n64 v.b)) := fun i => i.h.1.cell 1
  have e2 : ∀ i : InC (fun W => HasC W w.heap.size 30 (cells4 ⟨a1, v.b, v.c, v.d⟩) ∧ HasC W (w.heap.size + 1) 30 (cells4 ⟨0#64, 0#64, 0#64, 0#64⟩) ∧ Below w.heap.size w W), i.w.cell? ⟨w.heap.size, 2, none⟩ = some (.int .u64 (n64 v.c)) := fun i => i.h.1.cell 2
  have e3 : ∀ i : InC (fun W => HasC W w.heap.size 30 (cells4 ⟨a1, v.b, v.c, v.d⟩) ∧ HasC W (w.heap.size + 1) 30 (cells4 ⟨0#64, 0#64, 0#64, 0#64⟩) ∧ Below w.heap.size w W), i.w.cell? ⟨w.heap.size, 3, none⟩ = some (.int .u64 (n64 v.d)) := fun i => i.h.1.cell 3
  have hcl : ∀ (i : InC (fun W => HasC W w.heap.size 30 (cells4 ⟨a1, v.b, v.c, v.d⟩) ∧ HasC W (w.heap.size + 1) 30 (cells4 ⟨0#64, 0#64, 0#64, 0#64⟩) ∧ Below w.heap.size w W)) (n : Nat), (fun W => HasC W w.heap.size 30 (cells4 ⟨a1, v.b, v.c, v.d⟩) ∧ HasC W (w.heap.size + 1) 30 (cells4 ⟨0#64, 0#64, 0#64, 0#64⟩) ∧ Below w.heap.size w W) (i.w.drewN n) := fun i n => ⟨i.h.1.drewN n, i.h.2.1.drewN n, bel_drewN i.h.2.2 n⟩
  intro hne
  simp only [List.take_succ_cons, List.take_zero, List.drop_succ_cons, List.drop_zero]
  repeat (go_big_quiet_step ((go_at_call 27; refine (turn13 _ _).mono ?_; rintro e w' ⟨rfl, nq, rfl⟩; exact ⟨rfl, ⟨_, hcl _ nq⟩, rfl⟩)))
  refine wpQuiet_nil ?_
  clear e0 e1 e2 e3 hcl hne
  rintro ⟨w0, hC, hR, hB⟩
  dsimp only
  have q0 : w0.cell? ⟨w.heap.size, 0, none⟩ = some (.int .u64 (n64 a1)) := hC.cell 0
  have q1 : w0.cell? ⟨w.heap.size, 1, none⟩ = some (.int .u64 (n64 v.b)) := hC.cell 1
  have q2 : w0.cell? ⟨w.heap.size, 2, none⟩ = some (.int .u64 (n64 v.c)) := hC.cell 2
  have q3 : w0.cell? ⟨w.heap.size, 3, none⟩ = some (.int .u64 (n64 v.d)) := hC.cell 3
  have z0 := hC.frozen 0
  have z1 := hC.frozen 1
  have z2 := hC.frozen 2
  have z3 := hC.frozen 3
  go_upto_region 5 with ((go_at_call 27; refine (turn32 _ _).mono ?_; rintro e w' ⟨rfl, nq, rfl⟩))
  refine region_tail 7 (fun W => HasC W w.heap.size 30 (cells4 ⟨a2, b1, c1, v.d⟩) ∧ HasC W (w.heap.size + 1) 30 (cells4 ⟨0#64, 0#64, 0#64, 0#64⟩) ∧ Below w.heap.size w W) (by kernel_rfl) (by kernel_rfl) ?_ ?_
  · refine ⟨?_, ?_, ?_⟩
    · exact HasC.drew (HasC.set (HasC.set (HasC.drewN (HasC.set hC _ _) _) _ _) _ _)
    · repeat (first | with_reducible exact hR | with_reducible refine HasC.far ?_ _ _ (by simp) | with_reducible refine HasC.drewN ?_ _ | with_reducible refine HasC.drew ?_)
    · repeat (first | with_reducible exact hB | with_reducible refine Below.setCell ?_ (by simp) _ | with_reducible refine bel_drewN ?_ _ | with_reducible refine Below.drew ?_)
  clear hC hR hB q0 q1 q2 q3 z0 z1 z2 z3
  have e0 : ∀ i : InC (fun W => HasC W w.heap.size 30 (cells4 ⟨a2, b1, c1, v.d⟩) ∧ HasC W (w.heap.size + 1) 30 (cells4 ⟨0#64, 0#64, 0#64, 0#64⟩) ∧ Below w.heap.size w W), i.w.cell? ⟨w.heap.size, 0, none⟩ = some (.int .u64 (n64 a2)) := fun i => i.h.1.cell 0
  have e1 : ∀ i : InC (fun W => HasC W w.heap.size 30 (cells4 ⟨a2, b1, c1, v.d⟩) ∧ HasC W (w.heap.size + 1) 30 (cells4 ⟨0#64, 0#64, 0#64, 0#64⟩) ∧ Below w.heap.size w W), i.w.cell? ⟨w.heap.size, 1, none⟩ = some (.int .u64 (n64 b1)) := fun i => i.h.1.cell 1
  have e2 : ∀ i : InC (fun W => HasC W w.heap.size 30 (cells4 ⟨a2, b1, c1, v.d⟩) ∧ HasC W (w.heap.size + 1) 30 (cells4 ⟨0#64, 0#64, 0#64, 0#64⟩) ∧ Below w.heap.size w W), i.w.cell? ⟨w.heap.size, 2, none⟩ = some (.int .u64 (n64 c1)) := fun i => i.h.1.cell 2
  have e3 : ∀ i : InC (fun W => HasC W w.heap.size 30 (cells4 ⟨a2, b1, c1, v.d⟩) ∧ HasC W (w.heap.size + 1) 30 (cells4 ⟨0#64, 0#64, 0#64, 0#64⟩) ∧ Below w.heap.size w W), i.w.cell? ⟨w.heap.size, 3, none⟩ = some (.int .u64 (n64 v.d)) := fun i => i.h.1.cell 3
  have hcl : ∀ (i : InC (fun W => HasC W w.heap.size 30 (cells4 ⟨a2, b1, c1, v.d⟩) ∧ HasC W (w.heap.size + 1) 30 (cells4 ⟨0#64, 0#64, 0#64, 0#64⟩) ∧ Below w.heap.size w W)) (n : Nat), (fun W => HasC W w.heap.size 30 (cells4 ⟨a2, b1, c1, v.d⟩) ∧ HasC W (w.heap.size + 1) 30 (cells4 ⟨0#64, 0#64, 0#64, 0#64⟩) ∧ Below w.heap.size w W) (i.w.drewN n) := fun i n => ⟨i.h.1.drewN n, i.h.2.1.drewN n, bel_drewN i.h.2.2 n⟩
  intro hne
  simp only [List.take_succ_cons, List.take_zero, List.drop_succ_cons, List.drop_zero]
  repeat (go_big_quiet_step ((go_at_call 27; refine (turn16 _ _).mono ?_; rintro e w' ⟨rfl, nq, rfl⟩; exact ⟨rfl, ⟨_, hcl _ nq⟩, rfl⟩)))
  refine wpQuiet_nil ?_
  clear e0 e1 e2 e3 hcl hne
  rintro ⟨w1, hC, hR, hB⟩
  dsimp only
  have q0 : w1.cell? ⟨w.heap.size, 0, none⟩ = some (.int .u64 (n64 a2)) := hC.cell 0
  have q1 : w1.cell? ⟨w.heap.size, 1, none⟩ = some (.int .u64 (n64 b1)) := hC.cell 1
  have q2 : w1.cell? ⟨w.heap.size, 2, none⟩ = some (.int .u64 (n64 c1)) := hC.cell 2
  have q3 : w1.cell? ⟨w.heap.size, 3, none⟩ = some (.int .u64 (n64 v.d)) := hC.cell 3
  have z0 := hC.frozen 0
  have z1 := hC.frozen 1
  have z2 := hC.frozen 2
  have z3 := hC.frozen 3
  go_upto_region 7 with fail
  refine region_tail 7 (fun W => HasC W w.heap.size 30 (cells4 ⟨a3, b1, c1, d1⟩) ∧ HasC W (w.heap.size + 1) 30 (cells4 ⟨0#64, 0#64, 0#64, 0#64⟩) ∧ Below w.heap.size w W) (by kernel_rfl) (by kernel_rfl) ?_ ?_
  · refine ⟨?_, ?_, ?_⟩
    · exact HasC.drew (HasC.set (HasC.set hC _ _) _ _)
    · repeat (first | with_reducible exact hR | with_reducible refine HasC.far ?_ _ _ (by simp) | with_reducible refine HasC.drewN ?_ _ | with_reducible refine HasC.drew ?_)
    · repeat (first | with_reducible exact hB | with_reducible refine Below.setCell ?_ (by simp) _ | with_reducible refine bel_drewN ?_ _ | with_reducible refine Below.drew ?_)
  clear hC hR hB q0 q1 q2 q3 z0 z1 z2 z3
  have e0 : ∀ i : InC (fun W => HasC W w.heap.size 30 (cells4 ⟨a3, b1, c1, d1⟩) ∧ HasC W (w.heap.size + 1) 30 (cells4 ⟨0#64, 0#64, 0#64, 0#64⟩) ∧ Below w.heap.size w W), i.w.cell? ⟨w.heap.size, 0, none⟩ = some (.int .u64 (n64 a3)) := fun i => i.h.1.cell 0
  have e1 : ∀ i : InC (fun W => HasC W w.heap.size 30 (cells4 ⟨a3, b1, c1, d1⟩) ∧ HasC W (w.heap.size + 1) 30 (cells4 ⟨0#64, 0#64, 0#64, 0#64⟩) ∧ Below w.heap.size w W), i.w.cell? ⟨w.heap.size, 1, none⟩ = some (.int .u64 (n64 b1)) := fun i => i.h.1.cell 1
  have e2 : ∀ i : InC (fun W => HasC W w.heap.size 30 (cells4 ⟨a3, b1, c1, d1⟩) ∧ HasC W (w.heap.size + 1) 30 (cells4 ⟨0#64, 0#64, 0#64, 0#64⟩) ∧ Below w.heap.size w W), i.w.cell? ⟨w.heap.size, 2, none⟩ = some (.int .u64 (n64 c1)) := fun i => i.h.1.cell 2
  have e3 : ∀ i : InC (fun W => HasC W w.heap.size 30 (cells4 ⟨a3, b1, c1, d1⟩) ∧ HasC W (w.heap.size + 1) 30 (cells4 ⟨0#64, 0#64, 0#64, 0#64⟩) ∧ Below w.heap.size w W), i.w.cell? ⟨w.heap.size, 3, none⟩ = some (.int .u64 (n64 d1)) := fun i => i.h.1.cell 3
  have hcl : ∀ (i : InC (fun W => HasC W w.heap.size 30 (cells4 ⟨a3, b1, c1, d1⟩) ∧ HasC W (w.heap.size + 1) 30 (cells4 ⟨0#64, 0#64, 0#64, 0#64⟩) ∧ Below w.heap.size w W)) (n : Nat), (fun W => HasC W w.heap.size 30 (cells4 ⟨a3, b1, c1, d1⟩) ∧ HasC W (w.heap.size + 1) 30 (cells4 ⟨0#64, 0#64, 0#64, 0#64⟩) ∧ Below w.heap.size w W) (i.w.drewN n) := fun i n => ⟨i.h.1.drewN n, i.h.2.1.drewN n, bel_drewN i.h.2.2 n⟩
  intro hne
  simp only [List.take_succ_cons, List.take_zero, List.drop_succ_cons, List.drop_zero]
  repeat (go_big_quiet_step ((go_at_call 27; refine (turn21 _ _).mono ?_; rintro e w' ⟨rfl, nq, rfl⟩; exact ⟨rfl, ⟨_, hcl _ nq⟩, rfl⟩)))
  refine wpQuiet_nil ?_
  clear e0 e1 e2 e3 hcl hne
  rintro ⟨w2, hC, hR, hB⟩
  dsimp only
  have q0 : w2.cell? ⟨w.heap.size, 0, none⟩ = some (.int .u64 (n64 a3)) := hC.cell 0
  have q1 : w2.cell? ⟨w.heap.size, 1, none⟩ = some (.int .u64 (n64 b1)) := hC.cell 1
  have q2 : w2.cell? ⟨w.heap.size, 2, none⟩ = some (.int .u64 (n64 c1)) := hC.cell 2
  have q3 : w2.cell? ⟨w.heap.size, 3, none⟩ = some (.int .u64 (n64 d1)) := hC.cell 3
  have z0 := hC.frozen 0
  have z1 := hC.frozen 1
  have z2 := hC.frozen 2
  have z3 := hC.frozen 3
  go_upto_region 9 with fail
  refine region_tail 7 (fun W => HasC W w.heap.size 30 (cells4 ⟨a3, b1, c2, d2⟩) ∧ HasC W (w.heap.size + 1) 30 (cells4 ⟨0#64, 0#64, 0#64, 0#64⟩) ∧ Below w.heap.size w W) (by kernel_rfl) (by kernel_rfl) ?_ ?_
  · refine ⟨?_, ?_, ?_⟩
    · exact HasC.drew (HasC.set (HasC.set hC _ _) _ _)
    · repeat (first | with_reducible exact hR | with_reducible refine HasC.far ?_ _ _ (by simp) | with_reducible refine HasC.drewN ?_ _ | with_reducible refine HasC.drew ?_)
    · repeat (first | with_reducible exact hB | with_reducible refine Below.setCell ?_ (by simp) _ | with_reducible refine bel_drewN ?_ _ | with_reducible refine Below.drew ?_)
  clear hC hR hB q0 q1 q2 q3 z0 z1 z2 z3
  have e0 : ∀ i : InC (fun W => HasC W w.heap.size 30 (cells4 ⟨a3, b1, c2, d2⟩) ∧ HasC W (w.heap.size + 1) 30 (cells4 ⟨0#64, 0#64, 0#64, 0#64⟩) ∧ Below w.heap.size w W), i.w.cell? ⟨w.heap.size, 0, none⟩ = some (.int .u64 (n64 a3)) := fun i => i.h.1.cell 0
  have e1 : ∀ i : InC (fun W => HasC W w.heap.size 30 (cells4 ⟨a3, b1, c2, d2⟩) ∧ HasC W (w.heap.size + 1) 30 (cells4 ⟨0#64, 0#64, 0#64, 0#64⟩) ∧ Below w.heap.size w W), i.w.cell? ⟨w.heap.size, 1, none⟩ = some (.int .u64 (n64 b1)) := fun i => i.h.1.cell 1
  have e2 : ∀ i : InC (fun W => HasC W w.heap.size 30 (cells4 ⟨a3, b1, c2, d2⟩) ∧ HasC W (w.heap.size + 1) 30 (cells4 ⟨0#64, 0#64, 0#64, 0#64⟩) ∧ Below w.heap.size w W), i.w.cell? ⟨w.heap.size, 2, none⟩ = some (.int .u64 (n64 c2)) := fun i => i.h.1.cell 2
  have e3 : ∀ i : InC (fun W => HasC W w.heap.size 30 (cells4 ⟨a3, b1, c2, d2⟩) ∧ HasC W (w.heap.size + 1) 30 (cells4 ⟨0#64, 0#64, 0#64, 0#64⟩) ∧ Below w.heap.size w W), i.w.cell? ⟨w.heap.size, 3, none⟩ = some (.int .u64 (n64 d2)) := fun i => i.h.1.cell 3
  have hcl : ∀ (i : InC (fun W => HasC W w.heap.size 30 (cells4 ⟨a3, b1, c2, d2⟩) ∧ HasC W (w.heap.size + 1) 30 (cells4 ⟨0#64, 0#64, 0#64, 0#64⟩) ∧ Below w.heap.size w W)) (n : Nat), (fun W => HasC W w.heap.size 30 (cells4 ⟨a3, b1, c2, d2⟩) ∧ HasC W (w.heap.size + 1) 30 (cells4 ⟨0#64, 0#64, 0#64, 0#64⟩) ∧ Below w.heap.size w W) (i.w.drewN n) := fun i n => ⟨i.h.1.drewN n, i.h.2.1.drewN n, bel_drewN i.h.2.2 n⟩
  intro hne
  simp only [List.take_succ_cons, List.take_zero, List.drop_succ_cons, List.drop_zero]
  repeat (go_big_quiet_step ((go_at_call 27; refine (turn17 _ _).mono ?_; rintro e w' ⟨rfl, nq, rfl⟩; exact ⟨rfl, ⟨_, hcl _ nq⟩, rfl⟩)))
  refine wpQuiet_nil ?_
  clear e0 e1 e2 e3 hcl hne
  rintro ⟨w3, hC, hR, hB⟩
  dsimp only
  have q0 : w3.cell? ⟨w.heap.size, 0, none⟩ = some (.int .u64 (n64 a3)) := hC.cell 0
  have q1 : w3.cell? ⟨w.heap.size, 1, none⟩ = some (.int .u64 (n64 b1)) := hC.cell 1
  have q2 : w3.cell? ⟨w.heap.size, 2, none⟩ = some (.int .u64 (n64 c2)) := hC.cell 2
  have q3 : w3.cell? ⟨w.heap.size, 3, none⟩ = some (.int .u64 (n64 d2)) := hC.cell 3
  have z0 := hC.frozen 0
  have z1 := hC.frozen 1
  have z2 := hC.frozen 2
  have z3 := hC.frozen 3
  have f0 : w3.cell? ⟨w.heap.size + 1, 0, none⟩ = some (.int .u64 (n64 0#64)) := hR.cell 0
  have y0 := hR.frozen 0
  have f1 : w3.cell? ⟨w.heap.size + 1, 1, none⟩ = some (.int .u64 (n64 0#64)) := hR.cell 1
  have y1 := hR.frozen 1
  have f2 : w3.cell? ⟨w.heap.size + 1, 2, none⟩ = some (.int .u64 (n64 0#64)) := hR.cell 2
  have y2 := hR.frozen 2
  have f3 : w3.cell? ⟨w.heap.size + 1, 3, none⟩ = some (.int .u64 (n64 0#64)) := hR.cell 3
  have y3 := hR.frozen 3
  go_wp2_with ((go_at_call 27; refine (turn32 _ _).mono ?_; rintro e w' ⟨rfl, nq, rfl⟩))
  exact bodyPost_ret (v := .agg #[.int .u64 (n64 a3), .int .u64 (n64 b2), .int .u64 (n64 c3), .int .u64 (n64 d2)]) (by simp [results, Try.results17, go_sem, f0, f1, f2, f3]) rfl ⟨rfl, by repeat (first | with_reducible exact hB | with_reducible refine Below.setCell ?_ (by simp) _ | with_reducible refine bel_drewN ?_ _ | with_reducible refine Below.drew ?_)⟩
set_option maxHeartbeats 4000000 in
theorem refBack (v : Q4) (w : World) : Calls Try.prog 19 #[.agg (cells4 v)] w fun e w' => e = .returned (.agg (cells4 (bck v))) ∧ Below w.heap.size w w' := by
  obtain ⟨B, hB0⟩ : ∃ B, B = w.heap.size := ⟨_, rfl⟩
  have HB : Hid (B = w.heap.size) := hB0
  clear hB0
  obtain ⟨c2, hc2⟩ : ∃ x, rot v.c 32 = x := ⟨_, rfl⟩
  obtain ⟨b1, hb1⟩ : ∃ x, rot (v.b ^^^ c2) 47 = x := ⟨_, rfl⟩
  obtain ⟨c1, hc1⟩ : ∃ x, c2 - b1 = x := ⟨_, rfl⟩
  obtain ⟨d1, hd1⟩ : ∃ x, rot (v.d ^^^ v.a) 43 = x := ⟨_, rfl⟩
  obtain ⟨a2, ha2⟩ : ∃ x, v.a - d1 = x := ⟨_, rfl⟩
  obtain ⟨d0, hd0⟩ : ∃ x, rot (d1 ^^^ c1) 48 = x := ⟨_, rfl⟩
  obtain ⟨c0, hc0⟩ : ∃ x, c1 - d0 = x := ⟨_, rfl⟩
  obtain ⟨a1, ha1⟩ : ∃ x, rot a2 32 = x := ⟨_, rfl⟩
  obtain ⟨b0, hb0⟩ : ∃ x, rot (b1 ^^^ a1) 51 = x := ⟨_, rfl⟩
  obtain ⟨a0, ha0⟩ : ∃ x, a1 - b0 = x := ⟨_, rfl⟩
  have hfin : bck v = ⟨a0, b0, c0, d0⟩ := by subst ha0 hb0 ha1 hc0 hd0 ha2 hd1 hc1 hb1 hc2; rfl
  have Hfin := Lib.hid hfin
  rw [hfin]
  clear hfin
  unfold cells4
  go_enter Try.func19, Try.ntmps19
  go_upto_region 1 with fail
  go_cut [1, 2] (fun s1 s2 wx => s1 = .pointer (some ⟨B, 0, none⟩) ∧ s2 = .pointer (some ⟨B + 1, 0, none⟩) ∧ HasC wx B 30 (cells4 ⟨v.a, v.b, c2, v.d⟩) ∧ HasC wx (B + 1) 30 (cells4 ⟨0#64, 0#64, 0#64, 0#64⟩) ∧ Below B w wx)
  case first =>
    go_wp2_with fail
    refine (turn32 _ _).mono ?_
    rintro e w' ⟨rfl, nq, rfl⟩
    go_wp2_with fail
    go_meet
    obtain rfl := HB.out
    refine ⟨rfl, rfl, ?_, ?_, ?_⟩
    · exact HasC.eq (HasC.set (HasC.drewN (HasC.alloc (HasC.new _ _ _) _) _) _ _) rfl
    · exact HasC.eq (HasC.far (HasC.drewN (HasC.at_ _ _ _ (by simp)) _) _ _ (by simp)) rfl
    · exact (bel_drewN (((Below.refl _ _).alloc (Nat.le_refl _) _).alloc (by simp) _) _).setCell (by simp) _
  case rest =>
    obtain ⟨rfl, rfl, hC, hR, hB⟩ := hcut
    have e0 : wc.cell? ⟨B, 0, none⟩ = some (.int .u64 (n64 v.a)) := hC.cell 0
    have e1 : wc.cell? ⟨B, 1, none⟩ = some (.int .u64 (n64 v.b)) := hC.cell 1
    have e2 : wc.cell? ⟨B, 2, none⟩ = some (.int .u64 (n64 c2)) := hC.cell 2
    have e3 : wc.cell? ⟨B, 3, none⟩ = some (.int .u64 (n64 v.d)) := hC.cell 3
    have z0 := hC.frozen 0
    have z1 := hC.frozen 1
    have z2 := hC.frozen 2
    have z3 := hC.frozen 3
    have HC := Lib.hid hC
    clear hC
    go_upto_region 2 with fail
    go_cut [1, 2] (fun s1 s2 wx => s1 = .pointer (some ⟨B, 0, none⟩) ∧ s2 = .pointer (some ⟨B + 1, 0, none⟩) ∧ HasC wx B 30 (cells4 ⟨v.a, b1, c2, v.d⟩) ∧ HasC wx (B + 1) 30 (cells4 ⟨0#64, 0#64, 0#64, 0#64⟩) ∧ Below B w wx)
    case first =>
      go_wp2_with fail
      refine (turn47 _ _).mono ?_
      rintro e w' ⟨rfl, nq, rfl⟩
      go_wp2_with fail
      go_meet
      have hC := HC.out
      refine ⟨rfl, rfl, ?_, ?_, ?_⟩
      · first
          | exact HasC.eq (HasC.set (HasC.drewN hC _) _ _) rfl
          | exact HasC.eq (HasC.set (HasC.drewN (HasC.set hC _ _) _) _ _) rfl
      · repeat (first | with_reducible exact hR | with_reducible refine HasC.far ?_ _ _ (by simp) | with_reducible refine HasC.drewN ?_ _ | with_reducible refine HasC.drew ?_)
      · repeat (first | with_reducible exact hB | with_reducible refine Below.setCell ?_ (by simp) _ | with_reducible refine bel_drewN ?_ _ | with_reducible refine Below.drew ?_)
    case rest =>
      clear hR hB e0 e1 e2 e3 z0 z1 z2 z3 HC
      obtain ⟨rfl, rfl, hC, hR, hB⟩ := hcut
      have e0 : wc.cell? ⟨B, 0, none⟩ = some (.int .u64 (n64 v.a)) := hC.cell 0
      have e1 : wc.cell? ⟨B, 1, none⟩ = some (.int .u64 (n64 b1)) := hC.cell 1
      have e2 : wc.cell? ⟨B, 2, none⟩ = some (.int .u64 (n64 c2)) := hC.cell 2
      have e3 : wc.cell? ⟨B, 3, none⟩ = some (.int .u64 (n64 v.d)) := hC.cell 3
      have z0 := hC.frozen 0
      have z1 := hC.frozen 1
      have z2 := hC.frozen 2
      have z3 := hC.frozen 3
      have HC := Lib.hid hC
      clear hC
      go_upto_region 4 with fail
      go_cut [1, 2] (fun s1 s2 wx => s1 = .pointer (some ⟨B, 0, none⟩) ∧ s2 = .pointer (some ⟨B + 1, 0, none⟩) ∧ HasC wx B 30 (cells4 ⟨v.a, b1, c1, d1⟩) ∧ HasC wx (B + 1) 30 (cells4 ⟨0#64, 0#64, 0#64, 0#64⟩) ∧ Below B w wx)
      case first =>
        go_wp2_with fail
        refine (turn43 _ _).mono ?_
        rintro e w' ⟨rfl, nq, rfl⟩
        go_wp2_with fail
        go_meet
        have hC := HC.out
        refine ⟨rfl, rfl, ?_, ?_, ?_⟩
        · first
            | exact HasC.eq (HasC.set (HasC.drewN hC _) _ _) rfl
            | exact HasC.eq (HasC.set (HasC.drewN (HasC.set hC _ _) _) _ _) rfl
        · repeat (first | with_reducible exact hR | with_reducible refine HasC.far ?_ _ _ (by simp) | with_reducible refine HasC.drewN ?_ _ | with_reducible refine HasC.drew ?_)
        · repeat (first | with_reducible exact hB | with_reducible refine Below.setCell ?_ (by simp) _ | with_reducible refine bel_drewN ?_ _ | with_reducible refine Below.drew ?_)
      case rest =>
        clear hR hB e0 e1 e2 e3 z0 z1 z2 z3 HC
        obtain ⟨rfl, rfl, hC, hR, hB⟩ := hcut
        have e0 : wc.cell? ⟨B, 0, none⟩ = some (.int .u64 (n64 v.a)) := hC.cell 0
        have e1 : wc.cell? ⟨B, 1, none⟩ = some (.int .u64 (n64 b1)) := hC.cell 1
        have e2 : wc.cell? ⟨B, 2, none⟩ = some (.int .u64 (n64 c1)) := hC.cell 2
        have e3 : wc.cell? ⟨B, 3, none⟩ = some (.int .u64 (n64 d1)) := hC.cell 3
        have z0 := hC.frozen 0
        have z1 := hC.frozen 1
        have z2 := hC.frozen 2
        have z3 := hC.frozen 3
        have HC := Lib.hid hC
        clear hC
        go_upto_region 6 with fail
        go_cut [1, 2] (fun s1 s2 wx => s1 = .pointer (some ⟨B, 0, none⟩) ∧ s2 = .pointer (some ⟨B + 1, 0, none⟩) ∧ HasC wx B 30 (cells4 ⟨a2, b1, c1, d0⟩) ∧ HasC wx (B + 1) 30 (cells4 ⟨0#64, 0#64, 0#64, 0#64⟩) ∧ Below B w wx)
        case first =>
          go_wp2_with fail
          refine (turn48 _ _).mono ?_
          rintro e w' ⟨rfl, nq, rfl⟩
          go_wp2_with fail
          go_meet
          have hC := HC.out
          refine ⟨rfl, rfl, ?_, ?_, ?_⟩
          · first
              | exact HasC.eq (HasC.set (HasC.drewN hC _) _ _) rfl
              | exact HasC.eq (HasC.set (HasC.drewN (HasC.set hC _ _) _) _ _) rfl
          · repeat (first | with_reducible exact hR | with_reducible refine HasC.far ?_ _ _ (by simp) | with_reducible refine HasC.drewN ?_ _ | with_reducible refine HasC.drew ?_)
          · repeat (first | with_reducible exact hB | with_reducible refine Below.setCell ?_ (by simp) _ | with_reducible refine bel_drewN ?_ _ | with_reducible refine Below.drew ?_)
        case rest =>
          clear hR hB e0 e1 e2 e3 z0 z1 z2 z3 HC
          obtain ⟨rfl, rfl, hC, hR, hB⟩ := hcut
          have e0 : wc.cell? ⟨B, 0, none⟩ = some (.int .u64 (n64 a2)) := hC.cell 0
          have e1 : wc.cell? ⟨B, 1, none⟩ = some (.int .u64 (n64 b1)) := hC.cell 1
          have e2 : wc.cell? ⟨B, 2, none⟩ = some (.int .u64 (n64 c1)) := hC.cell 2
          have e3 : wc.cell? ⟨B, 3, none⟩ = some (.int .u64 (n64 d0)) := hC.cell 3
          have z0 := hC.frozen 0
          have z1 := hC.frozen 1
          have z2 := hC.frozen 2
          have z3 := hC.frozen 3
          have HC := Lib.hid hC
          clear hC
          go_upto_region 8 with fail
          go_cut [1, 2] (fun s1 s2 wx => s1 = .pointer (some ⟨B, 0, none⟩) ∧ s2 = .pointer (some ⟨B + 1, 0, none⟩) ∧ HasC wx B 30 (cells4 ⟨a1, b1, c0, d0⟩) ∧ HasC wx (B + 1) 30 (cells4 ⟨0#64, 0#64, 0#64, 0#64⟩) ∧ Below B w wx)
          case first =>
            go_wp2_with fail
            refine (turn32 _ _).mono ?_
            rintro e w' ⟨rfl, nq, rfl⟩
            go_wp2_with fail
            go_meet
            have hC := HC.out
            refine ⟨rfl, rfl, ?_, ?_, ?_⟩
            · first
                | exact HasC.eq (HasC.set (HasC.drewN hC _) _ _) rfl
                | exact HasC.eq (HasC.set (HasC.drewN (HasC.set hC _ _) _) _ _) rfl
            · repeat (first | with_reducible exact hR | with_reducible refine HasC.far ?_ _ _ (by simp) | with_reducible refine HasC.drewN ?_ _ | with_reducible refine HasC.drew ?_)
            · repeat (first | with_reducible exact hB | with_reducible refine Below.setCell ?_ (by simp) _ | with_reducible refine bel_drewN ?_ _ | with_reducible refine Below.drew ?_)
          case rest =>
            clear hR hB e0 e1 e2 e3 z0 z1 z2 z3 HC
            obtain ⟨rfl, rfl, hC, hR, hB⟩ := hcut
            have e0 : wc.cell? ⟨B, 0, none⟩ = some (.int .u64 (n64 a1)) := hC.cell 0
            have e1 : wc.cell? ⟨B, 1, none⟩ = some (.int .u64 (n64 b1)) := hC.cell 1
            have e2 : wc.cell? ⟨B, 2, none⟩ = some (.int .u64 (n64 c0)) := hC.cell 2
            have e3 : wc.cell? ⟨B, 3, none⟩ = some (.int .u64 (n64 d0)) := hC.cell 3
            have z0 := hC.frozen 0
            have z1 := hC.frozen 1
            have z2 := hC.frozen 2
            have z3 := hC.frozen 3
            have HC := Lib.hid hC
            clear hC
            go_upto_region 9 with fail
            go_cut [1, 2] (fun s1 s2 wx => s1 = .pointer (some ⟨B, 0, none⟩) ∧ s2 = .pointer (some ⟨B + 1, 0, none⟩) ∧ HasC wx B 30 (cells4 ⟨a1, b0, c0, d0⟩) ∧ HasC wx (B + 1) 30 (cells4 ⟨0#64, 0#64, 0#64, 0#64⟩) ∧ Below B w wx)
            case first =>
              go_wp2_with fail
              refine (turn51 _ _).mono ?_
              rintro e w' ⟨rfl, nq, rfl⟩
              go_wp2_with fail
              go_meet
              have hC := HC.out
              refine ⟨rfl, rfl, ?_, ?_, ?_⟩
              · first
                  | exact HasC.eq (HasC.set (HasC.drewN hC _) _ _) rfl
                  | exact HasC.eq (HasC.set (HasC.drewN (HasC.set hC _ _) _) _ _) rfl
              · repeat (first | with_reducible exact hR | with_reducible refine HasC.far ?_ _ _ (by simp) | with_reducible refine HasC.drewN ?_ _ | with_reducible refine HasC.drew ?_)
              · repeat (first | with_reducible exact hB | with_reducible refine Below.setCell ?_ (by simp) _ | with_reducible refine bel_drewN ?_ _ | with_reducible refine Below.drew ?_)
            case rest =>
              clear hR hB e0 e1 e2 e3 z0 z1 z2 z3 HC
              obtain ⟨rfl, rfl, hC, hR, hB⟩ := hcut
              have e0 : wc.cell? ⟨B, 0, none⟩ = some (.int .u64 (n64 a1)) := hC.cell 0
              have e1 : wc.cell? ⟨B, 1, none⟩ = some (.int .u64 (n64 b0)) := hC.cell 1
              have e2 : wc.cell? ⟨B, 2, none⟩ = some (.int .u64 (n64 c0)) := hC.cell 2
              have e3 : wc.cell? ⟨B, 3, none⟩ = some (.int .u64 (n64 d0)) := hC.cell 3
              have z0 := hC.frozen 0
              have z1 := hC.frozen 1
              have z2 := hC.frozen 2
              have z3 := hC.frozen 3
              have HC := Lib.hid hC
              clear hC
              have f0 : wc.cell? ⟨B + 1, 0, none⟩ = some (.int .u64 (n64 0#64)) := hR.cell 0
              have y0 := hR.frozen 0
              have f1 : wc.cell? ⟨B + 1, 1, none⟩ = some (.int .u64 (n64 0#64)) := hR.cell 1
              have y1 := hR.frozen 1
              have f2 : wc.cell? ⟨B + 1, 2, none⟩ = some (.int .u64 (n64 0#64)) := hR.cell 2
              have y2 := hR.frozen 2
              have f3 : wc.cell? ⟨B + 1, 3, none⟩ = some (.int .u64 (n64 0#64)) := hR.cell 3
              have y3 := hR.frozen 3
              go_wp2_with fail
              obtain rfl := HB.out
              exact bodyPost_ret (v := .agg #[.int .u64 (n64 a0), .int .u64 (n64 b0), .int .u64 (n64 c0), .int .u64 (n64 d0)]) (by simp [results, Try.results19, go_sem, f0, f1, f2, f3]) rfl ⟨rfl, by repeat (first | with_reducible exact hB | with_reducible refine Below.setCell ?_ (by simp) _ | with_reducible refine bel_drewN ?_ _ | with_reducible refine Below.drew ?_)⟩

end Go.Proofs.Ytkhlfgbfgebdeaa
