/- The statements on rounds: what each comes to. -/
import Derived.Test.YtkhlfgbfgebdeaaSmall
import Derived.Test.YtkhlfgbfgebdeaaRef
import Derived.Deep.RegionWith
namespace Go.Proofs.Ytkhlfgbfgebdeaa
open Go.RowKit Go.Shelf

theorem roundX (v : Q4) (w : World) : Calls Try.prog 16 #[.agg #[.int .u64 (n64 v.a), .int .u64 (n64 v.b), .int .u64 (n64 v.c), .int .u64 (n64 v.d)]] w fun e w' =>
    e = .returned (.agg #[.int .u64 (n64 (rnd v).a), .int .u64 (n64 (rnd v).b), .int .u64 (n64 (rnd v).c), .int .u64 (n64 (rnd v).d)]) ∧ Below w.heap.size w w' := round_any v w
theorem refRoundX (v : Q4) (w : World) : Calls Try.prog 17 #[.agg #[.int .u64 (n64 v.a), .int .u64 (n64 v.b), .int .u64 (n64 v.c), .int .u64 (n64 v.d)]] w fun e w' =>
    e = .returned (.agg #[.int .u64 (n64 (rnd v).a), .int .u64 (n64 (rnd v).b), .int .u64 (n64 (rnd v).c), .int .u64 (n64 (rnd v).d)]) ∧ Below w.heap.size w w' := refRound v w
theorem backX (v : Q4) (w : World) : Calls Try.prog 19 #[.agg #[.int .u64 (n64 v.a), .int .u64 (n64 v.b), .int .u64 (n64 v.c), .int .u64 (n64 v.d)]] w fun e w' =>
    e = .returned (.agg #[.int .u64 (n64 (bck v).a), .int .u64 (n64 (bck v).b), .int .u64 (n64 (bck v).c), .int .u64 (n64 (bck v).d)]) ∧ Below w.heap.size w w' := refBack v w
theorem backRound (v : Q4) (w : World) : Calls Try.prog 19 #[.agg #[.int .u64 (n64 (rnd v).a), .int .u64 (n64 (rnd v).b), .int .u64 (n64 (rnd v).c), .int .u64 (n64 (rnd v).d)]] w fun e w' =>
    e = .returned (.agg #[.int .u64 (n64 v.a), .int .u64 (n64 v.b), .int .u64 (n64 v.c), .int .u64 (n64 v.d)]) ∧ Below w.heap.size w w' := by
  have h := backX (rnd v) w
  rw [bck_rnd] at h
  exact h
theorem roundBack (v : Q4) (w : World) : Calls Try.prog 16 #[.agg #[.int .u64 (n64 (bck v).a), .int .u64 (n64 (bck v).b), .int .u64 (n64 (bck v).c), .int .u64 (n64 (bck v).d)]] w fun e w' =>
    e = .returned (.agg #[.int .u64 (n64 v.a), .int .u64 (n64 v.b), .int .u64 (n64 v.c), .int .u64 (n64 v.d)]) ∧ Below w.heap.size w w' := by
  have h := roundX (bck v) w
  rw [rnd_bck] at h
  exact h

/-- Four numbers in their block, and what lies below it. -/
def FourAt (w : World) (v : Q4) (V : World) : Prop := HasC V w.heap.size 30 (cells4 v) ∧ Below w.heap.size w V
theorem FourAt.on {w V V' : World} {v : Q4} (h : FourAt w v V) (hb : Below V.heap.size V V') : FourAt w v V' :=
  ⟨h.1.below hb h.1.lt, h.2.trans (hb.mono h.2.size)⟩

theorem eqQ (v : Q4) (W : World) : (Op.equalIn 10000 30 (.agg #[.int .u64 (n64 v.a), .int .u64 (n64 v.b), .int .u64 (n64 v.c), .int .u64 (n64 v.d)]) (.agg #[.int .u64 (n64 v.a), .int .u64 (n64 v.b), .int .u64 (n64 v.c), .int .u64 (n64 v.d)])).run Try.prog W = .ok true W := by
  rw [eql_arr4 (P := Try.prog) W 30 22 _ _ _ _ _ _ _ _ Try.underlying30 Try.underlying22 (by kernel_rfl)]
  simp

set_option maxHeartbeats 1000000 in
theorem back_walk (v : Q4) (w : World) : Calls Try.prog 6 #[.agg #[.int .u64 (n64 v.a), .int .u64 (n64 v.b), .int .u64 (n64 v.c), .int .u64 (n64 v.d)]] w fun e w' => e = .returned (.bool true) ∧ Below w.heap.size w w' := by
  have heq := eqQ v
  go_enter Try.func6, Try.ntmps6
  go_wp2_with fail
  refine (shown_any _).mono ?_
  rintro e w1 ⟨rfl, hb1⟩
  go_wp2_with fail
  have hF : FourAt w v w1 := FourAt.on (V := w.alloc (.cells (cells4 v) 30)) ⟨HasC.new _ _ _, (Below.refl _ _).alloc (Nat.le_refl _) _⟩ hb1
  clear hb1
  refine region_class (FourAt w v) (by kernel_rfl) (by kernel_rfl) ⟨hF.1.drew, hF.2.drew⟩ ?_
  intro hne
  have e0 : ∀ i : InC (FourAt w v), i.w.cell? ⟨w.heap.size, 0, none⟩ = some (.int .u64 (n64 v.a)) := fun i => i.h.1.cell 0
  have e1 : ∀ i : InC (FourAt w v), i.w.cell? ⟨w.heap.size, 1, none⟩ = some (.int .u64 (n64 v.b)) := fun i => i.h.1.cell 1
  have e2 : ∀ i : InC (FourAt w v), i.w.cell? ⟨w.heap.size, 2, none⟩ = some (.int .u64 (n64 v.c)) := fun i => i.h.1.cell 2
  have e3 : ∀ i : InC (FourAt w v), i.w.cell? ⟨w.heap.size, 3, none⟩ = some (.int .u64 (n64 v.d)) := fun i => i.h.1.cell 3
  repeat (go_big_quiet_step ((first
    | (go_at_call_of 16 (Value.agg #[.int .u64 (n64 v.a), .int .u64 (n64 v.b), .int .u64 (n64 v.c), .int .u64 (n64 v.d)]); refine (roundX v _).mono ?_; rintro e w' ⟨rfl, hb⟩; exact ⟨rfl, ⟨_, FourAt.on (InC.h _) hb⟩, rfl⟩)
    | (go_at_call_of 19 (Value.agg #[.int .u64 (n64 v.a), .int .u64 (n64 v.b), .int .u64 (n64 v.c), .int .u64 (n64 v.d)]); refine (backX v _).mono ?_; rintro e w' ⟨rfl, hb⟩; exact ⟨rfl, ⟨_, FourAt.on (InC.h _) hb⟩, rfl⟩)
    | (go_at_call 16; refine (roundBack v _).mono ?_; rintro e w' ⟨rfl, hb⟩; exact ⟨rfl, ⟨_, FourAt.on (InC.h _) hb⟩, rfl⟩)
    | (go_at_call 19; refine (backRound v _).mono ?_; rintro e w' ⟨rfl, hb⟩; exact ⟨rfl, ⟨_, FourAt.on (InC.h _) hb⟩, rfl⟩))))
  refine wpQuiet_nil ?_
  clear e0 e1 e2 e3 hne hF
  rintro ⟨w2, hF2⟩
  dsimp only
  go_wp2_with fail
  go_ret
  exact ⟨rfl, hF2.2⟩
end Go.Proofs.Ytkhlfgbfgebdeaa
