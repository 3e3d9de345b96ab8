/- SipApart and SipRounds: what each comes to. -/
import Derived.Test.YtkhlfgbfgebdeaaLawsQ
namespace Go.Proofs.Ytkhlfgbfgebdeaa
open Go.RowKit Go.Shelf

theorem eqQ2 (v q : Q4) (W : World) : (Op.equalIn 10000 30 (.agg #[.int .u64 (n64 v.a), .int .u64 (n64 v.b), .int .u64 (n64 v.c), .int .u64 (n64 v.d)]) (.agg #[.int .u64 (n64 q.a), .int .u64 (n64 q.b), .int .u64 (n64 q.c), .int .u64 (n64 q.d)])).run Try.prog W =
    .ok (decide (v.a = q.a ∧ v.b = q.b ∧ v.c = q.c ∧ v.d = q.d)) W := by
  rw [eql_arr4 (P := Try.prog) W 30 22 _ _ _ _ _ _ _ _ Try.underlying30 Try.underlying22 (by kernel_rfl)]
  simp only [n64_beq]
  congr 1
  by_cases h0 : v.a = q.a <;> by_cases h1 : v.b = q.b <;> by_cases h2 : v.c = q.c <;> by_cases h3 : v.d = q.d <;> simp [h0, h1, h2, h3]
theorem eqQ_no (v q : Q4) (h : v ≠ q) (W : World) : (Op.equalIn 10000 30 (.agg #[.int .u64 (n64 v.a), .int .u64 (n64 v.b), .int .u64 (n64 v.c), .int .u64 (n64 v.d)]) (.agg #[.int .u64 (n64 q.a), .int .u64 (n64 q.b), .int .u64 (n64 q.c), .int .u64 (n64 q.d)])).run Try.prog W = .ok false W := by
  rw [eqQ2, decide_eq_false]
  rintro ⟨h0, h1, h2, h3⟩
  refine h ?_
  obtain ⟨a, b, c, d⟩ := v
  obtain ⟨a', b', c', d'⟩ := q
  simp at h0 h1 h2 h3
  rw [h0, h1, h2, h3]

/-- Two blocks of four numbers, and what lies below them. -/
def TwoAt (w : World) (v q : Q4) (V : World) : Prop := HasC V w.heap.size 30 (cells4 v) ∧ HasC V (w.heap.size + 1) 30 (cells4 q) ∧ Below w.heap.size w V
theorem TwoAt.on {w V V' : World} {v q : Q4} (h : TwoAt w v q V) (hb : Below V.heap.size V V') : TwoAt w v q V' :=
  ⟨h.1.below hb h.1.lt, h.2.1.below hb h.2.1.lt, h.2.2.trans (hb.mono h.2.2.size)⟩

set_option maxHeartbeats 1000000 in
theorem apart_same (v : Q4) (w : World) : Calls Try.prog 7 #[.agg #[.int .u64 (n64 v.a), .int .u64 (n64 v.b), .int .u64 (n64 v.c), .int .u64 (n64 v.d)], .agg #[.int .u64 (n64 v.a), .int .u64 (n64 v.b), .int .u64 (n64 v.c), .int .u64 (n64 v.d)]] w fun e w' => e = .returned (.bool true) ∧ Below w.heap.size w w' := by
  have heq := eqQ v
  have heq2 := eqQ (rnd v)
  go_enter Try.func7, Try.ntmps7
  go_wp2_with fail
  refine (shown_any _).mono ?_
  rintro e w1 ⟨rfl, hb1⟩
  go_wp2_with fail
  have hF : TwoAt w v v w1 := TwoAt.on (V := (w.alloc (.cells (cells4 v) 30)).alloc (.cells (cells4 v) 30)) ⟨HasC.alloc (HasC.new _ _ _) _, HasC.at_ _ _ _ (by simp), ((Below.refl _ _).alloc (Nat.le_refl _) _).alloc (by simp) _⟩ hb1
  clear hb1
  refine region_class (TwoAt w v v) (by kernel_rfl) (by kernel_rfl) ⟨hF.1.drew, hF.2.1.drew, hF.2.2.drew⟩ ?_
  intro hne
  have e0 : ∀ i : InC (TwoAt w v v), i.w.cell? ⟨w.heap.size, 0, none⟩ = some (.int .u64 (n64 v.a)) := fun i => i.h.1.cell 0
  have e1 : ∀ i : InC (TwoAt w v v), i.w.cell? ⟨w.heap.size, 1, none⟩ = some (.int .u64 (n64 v.b)) := fun i => i.h.1.cell 1
  have e2 : ∀ i : InC (TwoAt w v v), i.w.cell? ⟨w.heap.size, 2, none⟩ = some (.int .u64 (n64 v.c)) := fun i => i.h.1.cell 2
  have e3 : ∀ i : InC (TwoAt w v v), i.w.cell? ⟨w.heap.size, 3, none⟩ = some (.int .u64 (n64 v.d)) := fun i => i.h.1.cell 3
  have f0 : ∀ i : InC (TwoAt w v v), i.w.cell? ⟨w.heap.size + 1, 0, none⟩ = some (.int .u64 (n64 v.a)) := fun i => i.h.2.1.cell 0
  have f1 : ∀ i : InC (TwoAt w v v), i.w.cell? ⟨w.heap.size + 1, 1, none⟩ = some (.int .u64 (n64 v.b)) := fun i => i.h.2.1.cell 1
  have f2 : ∀ i : InC (TwoAt w v v), i.w.cell? ⟨w.heap.size + 1, 2, none⟩ = some (.int .u64 (n64 v.c)) := fun i => i.h.2.1.cell 2
  have f3 : ∀ i : InC (TwoAt w v v), i.w.cell? ⟨w.heap.size + 1, 3, none⟩ = some (.int .u64 (n64 v.d)) := fun i => i.h.2.1.cell 3
  repeat (go_big_quiet_step ((go_at_call 16; refine (roundX v _).mono ?_; rintro e w' ⟨rfl, hb⟩; exact ⟨rfl, ⟨_, TwoAt.on (InC.h _) hb⟩, rfl⟩)))
  refine wpQuiet_nil ?_
  clear e0 e1 e2 e3 f0 f1 f2 f3 hne hF
  rintro ⟨w2, hF2⟩
  dsimp only
  go_wp2_with fail
  go_ret
  exact ⟨rfl, hF2.2.2⟩

set_option maxHeartbeats 1000000 in
theorem apart_other (v q : Q4) (h : v ≠ q) (w : World) : Calls Try.prog 7 #[.agg #[.int .u64 (n64 v.a), .int .u64 (n64 v.b), .int .u64 (n64 v.c), .int .u64 (n64 v.d)], .agg #[.int .u64 (n64 q.a), .int .u64 (n64 q.b), .int .u64 (n64 q.c), .int .u64 (n64 q.d)]] w fun e w' => e = .returned (.bool true) ∧ Below w.heap.size w w' := by
  have heq := eqQ_no v q h
  have heq2 := eqQ_no (rnd v) (rnd q) (fun e => h (rnd_inj e))
  clear h
  go_enter Try.func7, Try.ntmps7
  go_wp2_with fail
  refine (shown_any _).mono ?_
  rintro e w1 ⟨rfl, hb1⟩
  go_wp2_with fail
  have hF : TwoAt w v q w1 := TwoAt.on (V := (w.alloc (.cells (cells4 v) 30)).alloc (.cells (cells4 q) 30)) ⟨HasC.alloc (HasC.new _ _ _) _, HasC.at_ _ _ _ (by simp), ((Below.refl _ _).alloc (Nat.le_refl _) _).alloc (by simp) _⟩ hb1
  clear hb1
  refine region_class (TwoAt w v q) (by kernel_rfl) (by kernel_rfl) ⟨hF.1.drew, hF.2.1.drew, hF.2.2.drew⟩ ?_
  intro hne
  have e0 : ∀ i : InC (TwoAt w v q), i.w.cell? ⟨w.heap.size, 0, none⟩ = some (.int .u64 (n64 v.a)) := fun i => i.h.1.cell 0
  have e1 : ∀ i : InC (TwoAt w v q), i.w.cell? ⟨w.heap.size, 1, none⟩ = some (.int .u64 (n64 v.b)) := fun i => i.h.1.cell 1
  have e2 : ∀ i : InC (TwoAt w v q), i.w.cell? ⟨w.heap.size, 2, none⟩ = some (.int .u64 (n64 v.c)) := fun i => i.h.1.cell 2
  have e3 : ∀ i : InC (TwoAt w v q), i.w.cell? ⟨w.heap.size, 3, none⟩ = some (.int .u64 (n64 v.d)) := fun i => i.h.1.cell 3
  have f0 : ∀ i : InC (TwoAt w v q), i.w.cell? ⟨w.heap.size + 1, 0, none⟩ = some (.int .u64 (n64 q.a)) := fun i => i.h.2.1.cell 0
  have f1 : ∀ i : InC (TwoAt w v q), i.w.cell? ⟨w.heap.size + 1, 1, none⟩ = some (.int .u64 (n64 q.b)) := fun i => i.h.2.1.cell 1
  have f2 : ∀ i : InC (TwoAt w v q), i.w.cell? ⟨w.heap.size + 1, 2, none⟩ = some (.int .u64 (n64 q.c)) := fun i => i.h.2.1.cell 2
  have f3 : ∀ i : InC (TwoAt w v q), i.w.cell? ⟨w.heap.size + 1, 3, none⟩ = some (.int .u64 (n64 q.d)) := fun i => i.h.2.1.cell 3
  repeat (go_big_quiet_step ((first
    | (go_at_call_of 16 (Value.agg #[.int .u64 (n64 v.a), .int .u64 (n64 v.b), .int .u64 (n64 v.c), .int .u64 (n64 v.d)]); refine (roundX v _).mono ?_; rintro e w' ⟨rfl, hb⟩; exact ⟨rfl, ⟨_, TwoAt.on (InC.h _) hb⟩, rfl⟩)
    | (go_at_call 16; refine (roundX q _).mono ?_; rintro e w' ⟨rfl, hb⟩; exact ⟨rfl, ⟨_, TwoAt.on (InC.h _) hb⟩, rfl⟩))))
  refine wpQuiet_nil ?_
  clear e0 e1 e2 e3 f0 f1 f2 f3 hne hF
  rintro ⟨w2, hF2⟩
  dsimp only
  go_wp2_with fail
  go_ret
  exact ⟨rfl, hF2.2.2⟩

theorem apart_walk (v q : Q4) (w : World) : Calls Try.prog 7 #[.agg #[.int .u64 (n64 v.a), .int .u64 (n64 v.b), .int .u64 (n64 v.c), .int .u64 (n64 v.d)], .agg #[.int .u64 (n64 q.a), .int .u64 (n64 q.b), .int .u64 (n64 q.c), .int .u64 (n64 q.d)]] w fun e w' => e = .returned (.bool true) ∧ Below w.heap.size w w' := by
  by_cases h : v = q
  · rw [← h]
    exact apart_same v w
  · exact apart_other v q h w

set_option maxHeartbeats 1000000 in
theorem rounds_walk (v : Q4) (b : Bool) (hb : (n64 v.a == n64 v.b) = b) (w : World) : Calls Try.prog 5 #[.agg #[.int .u64 (n64 v.a), .int .u64 (n64 v.b), .int .u64 (n64 v.c), .int .u64 (n64 v.d)]] w fun e w' => e = .returned (.bool true) ∧ Below w.heap.size w w' := by
  have heq := eqQ (rnd v)
  have hsm : ∀ W, Calls Try.prog 18 #[.int .u64 (n64 v.a), .int .u64 (n64 v.b)] W fun e w' => e = .returned (.bool b) ∧ Below W.heap.size W w' := fun W => by
    rw [← hb, n64_beq]
    exact same_any _ _ W
  have hsm2 : ∀ W, Calls Try.prog 18 #[.int .u64 (n64 v.c), .int .u64 (n64 v.c)] W fun e w' => e = .returned (.bool true) ∧ Below W.heap.size W w' := fun W => by
    have := same_any v.c v.c W
    simpa using this
  have HS := Lib.hid hsm
  have HS2 := Lib.hid hsm2
  clear hsm hsm2
  go_enter Try.func5, Try.ntmps5
  go_wp2_with fail
  refine (shown_any _).mono ?_
  rintro e w1 ⟨rfl, hb1⟩
  go_wp2_with fail
  have hF : FourAt w v w1 := FourAt.on (V := w.alloc (.cells (cells4 v) 30)) ⟨HasC.new _ _ _, (Below.refl _ _).alloc (Nat.le_refl _) _⟩ hb1
  clear hb1
  refine region_class (FourAt w v) (by kernel_rfl) (by kernel_rfl) ⟨hF.1.drew, hF.2.drew⟩ ?_
  intro hne
  have e0 : ∀ i : InC (FourAt w v), i.w.cell? ⟨w.heap.size, 0, none⟩ = some (.int .u64 (n64 v.a)) := fun i => i.h.1.cell 0
  have e1 : ∀ i : InC (FourAt w v), i.w.cell? ⟨w.heap.size, 1, none⟩ = some (.int .u64 (n64 v.b)) := fun i => i.h.1.cell 1
  have e2 : ∀ i : InC (FourAt w v), i.w.cell? ⟨w.heap.size, 2, none⟩ = some (.int .u64 (n64 v.c)) := fun i => i.h.1.cell 2
  have e3 : ∀ i : InC (FourAt w v), i.w.cell? ⟨w.heap.size, 3, none⟩ = some (.int .u64 (n64 v.d)) := fun i => i.h.1.cell 3
  cases b
  all_goals
    repeat (go_big_quiet_step ((first
      | (go_at_call 16; refine (roundX v _).mono ?_; rintro e w' ⟨rfl, hb⟩; exact ⟨rfl, ⟨_, FourAt.on (InC.h _) hb⟩, rfl⟩)
      | (go_at_call 17; refine (refRoundX v _).mono ?_; rintro e w' ⟨rfl, hb⟩; exact ⟨rfl, ⟨_, FourAt.on (InC.h _) hb⟩, rfl⟩)
      | (go_at_call_of 18 (Value.int .u64 (n64 v.a)); refine (HS.out _).mono ?_; rintro e w' ⟨rfl, hb⟩; exact ⟨rfl, ⟨_, FourAt.on (InC.h _) hb⟩, rfl⟩)
      | (go_at_call 18; refine (HS2.out _).mono ?_; rintro e w' ⟨rfl, hb⟩; exact ⟨rfl, ⟨_, FourAt.on (InC.h _) hb⟩, rfl⟩))))
    refine wpQuiet_nil ?_
    clear e0 e1 e2 e3 hne hF
    rintro ⟨w2, hF2⟩
    dsimp only
    go_wp2_with fail
    go_ret
    exact ⟨rfl, hF2.2⟩
end Go.Proofs.Ytkhlfgbfgebdeaa
