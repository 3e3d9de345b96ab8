/- The page's own answers for layer 9: Bounds. -/
import Derived.Test.YtpdedogdffolnaaGRef2
namespace Go.Proofs.Ytpdedogdffolnaa
open Go.RowKit

theorem drew_drew9 (w : World) (n m : Nat) : ∃ k, (w.drewN n).drewN m = w.drewN k := ⟨n + m, by simp [World.drewN, Nat.add_assoc]⟩
theorem lo_long9 (n p : Nat) (hl : n ≤ p / 2 ^ n) : loP n (p + 1) = (p % 2 ^ n + 2 ^ n) * 2 ^ (p / 2 ^ n - n) ∧ hiP n (p + 1) = (p % 2 ^ n + 2 ^ n) * 2 ^ (p / 2 ^ n - n) + (2 ^ (p / 2 ^ n - n) - 1) := by
  unfold loP hiP expP firP
  rw [Nat.add_sub_cancel, if_neg (Nat.succ_ne_zero p), if_neg (Nat.succ_ne_zero p), if_neg (by omega), if_neg (by omega)]
  exact ⟨rfl, rfl⟩
theorem ok_long9 (n p : Nat) (hp : p < 64 * 2 ^ n) (hl : n ≤ p / 2 ^ n) : okP n (p + 1) = true := by
  unfold okP expP
  rw [Nat.add_sub_cancel, decide_eq_true (show p + 1 ≤ 64 * 2 ^ n by omega), decide_eq_true hl]
  simp
theorem val_long9 (n p m : Nat) (hm : m = 2 ^ n) (hp : p < 64 * 2 ^ n) (hl : n ≤ p / 2 ^ n) :
    IntKind.u64.wrap (((p : Int) % (m : Int) + (m : Int)) * 2 ^ (p / m - n)) = ((loP n (p + 1) : Nat) : Int) ∧
    IntKind.u64.wrap (((loP n (p + 1) : Nat) : Int) + IntKind.u64.wrap (IntKind.u64.wrap (2 ^ (p / m - n)) - 1)) = ((hiP n (p + 1) : Nat) : Int) := by
  obtain ⟨h1, h2⟩ := lo_long9 n p hl
  have h3 := hi_lt (ok_long9 n p hp hl)
  have h3' : hiP n (p + 1) < 18446744073709551616 := h3
  subst hm
  obtain ⟨P, hP⟩ : ∃ P, P = 2 ^ (p / 2 ^ n - n) := ⟨_, rfl⟩
  obtain ⟨A, hA⟩ : ∃ A, A = p % 2 ^ n + 2 ^ n := ⟨_, rfl⟩
  have hP0 : 0 < P := by rw [hP]; exact Nat.two_pow_pos _
  have hA0 : 1 ≤ A := by rw [hA]; have := Nat.two_pow_pos n; omega
  rw [← hP, ← hA] at h1 h2
  have hPA : P ≤ A * P := Nat.le_mul_of_pos_left P hA0
  have e1 : (((p : Int) % ((2 ^ n : Nat) : Int) + ((2 ^ n : Nat) : Int)) * 2 ^ (p / 2 ^ n - n)) = ((A * P : Nat) : Int) := by rw [hA, hP]; push_cast; rfl
  have e2 : ((2 : Int) ^ (p / 2 ^ n - n)) = (P : Int) := by rw [hP]; push_cast; rfl
  obtain ⟨L, hL⟩ : ∃ L, L = A * P := ⟨_, rfl⟩
  rw [e1, e2, h1, h2, ← hL]
  rw [← hL] at h1 h2 hPA
  rw [h2] at h3'
  constructor
  · rw [wrapU9]; omega
  · rw [wrapU9, wrapU9, wrapU9]; omega
set_option maxHeartbeats 4000000 in
set_option maxRecDepth 100000 in
theorem pBounds_long (n p : Nat) (w : World) (hn : n ≤ 3) (hp : p < 64 * 2 ^ n) (hl : n ≤ p / 2 ^ n) :
    Calls Try.prog 14 #[.int .i64 (n : Int), .int .i64 ((p + 1 : Nat) : Int)] w fun e w' => e = .returned (.tuple #[gV (loP n (p + 1)), gV (hiP n (p + 1)), .bool true]) ∧ ∃ k, w' = w.drewN k := by
  have h4 : n = 0 ∨ n = 1 ∨ n = 2 ∨ n = 3 := by omega
  rcases h4 with rfl | rfl | rfl | rfl
  · have hv := val_long9 0 p 1 rfl hp hl
    have hv1 : IntKind.u64.wrap (2 ^ p) = ((loP 0 (p + 1) : Nat) : Int) := by simpa [Int.emod_one] using hv.1
    have hv2 : IntKind.u64.wrap (((loP 0 (p + 1) : Nat) : Int) + IntKind.u64.wrap (IntKind.u64.wrap (2 ^ p) - 1)) = ((hiP 0 (p + 1) : Nat) : Int) := by simpa using hv.2
    have HV1 := Lib.hid hv1
    have HV2 := Lib.hid hv2
    clear hv hv1 hv2
    go_enter Try.func14, Try.ntmps14
    go_wp2_with fail
    go_quiet (fail)
    go_wp2_with fail
    go_quiet (fail)
    go_wp2_with fail
    go_ret3
    refine ⟨?_, drew_drew9 _ _ _⟩
    unfold gV
    rw [← HV2.out, ← HV1.out]
    rfl
  · have hv := val_long9 1 p 2 rfl hp hl
    simp only [show ((2 : Nat) : Int) = 2 from rfl] at hv
    have HV := Lib.hid hv
    clear hv
    go_enter Try.func14, Try.ntmps14
    go_wp2_with fail
    go_quiet (fail)
    go_wp2_with fail
    go_quiet (fail)
    go_wp2_with fail
    go_ret3
    refine ⟨?_, drew_drew9 _ _ _⟩
    unfold gV
    rw [← HV.out.2, ← HV.out.1]
    rfl
  · have hv := val_long9 2 p 4 rfl hp hl
    simp only [show ((4 : Nat) : Int) = 4 from rfl] at hv
    have HV := Lib.hid hv
    clear hv
    go_enter Try.func14, Try.ntmps14
    go_wp2_with fail
    go_quiet (fail)
    go_wp2_with fail
    go_quiet (fail)
    go_wp2_with fail
    go_ret3
    refine ⟨?_, drew_drew9 _ _ _⟩
    unfold gV
    rw [← HV.out.2, ← HV.out.1]
    rfl
  · have hv := val_long9 3 p 8 rfl hp hl
    simp only [show ((8 : Nat) : Int) = 8 from rfl] at hv
    have HV := Lib.hid hv
    clear hv
    go_enter Try.func14, Try.ntmps14
    go_wp2_with fail
    go_quiet (fail)
    go_wp2_with fail
    go_quiet (fail)
    go_wp2_with fail
    go_ret3
    refine ⟨?_, drew_drew9 _ _ _⟩
    unfold gV
    rw [← HV.out.2, ← HV.out.1]
    rfl
set_option maxHeartbeats 8000000 in
set_option maxRecDepth 100000 in
theorem pBounds_short1 (p : Nat) (w : World) (hp : p < 2) :
    Calls Try.prog 14 #[.int .i64 1, .int .i64 ((p + 1 : Nat) : Int)] w fun e w' => e = .returned (.tuple #[gV (boundsI 1 ((p + 1 : Nat) : Int)).1, gV (boundsI 1 ((p + 1 : Nat) : Int)).2.1, .bool (boundsI 1 ((p + 1 : Nat) : Int)).2.2]) ∧ ∃ k, w' = w.drewN k := by
  have hc : p = 0 ∨ p = 1 := by omega
  rcases hc with rfl | rfl
  · have B1 : Hid (∀ W, Calls Try.prog 18 #[.int .i64 1, .int .u64 1] W fun e w' => e = .returned (.int .i64 1) ∧ w' = W) := fun W => by
      have h := pBucket_any 1 1 W (by decide)
      rw [show bucketI 1 1 = 1 by decide +kernel] at h
      exact h
    rw [show boundsI 1 ((0 + 1 : Nat) : Int) = (1, 1, true) by decide +kernel]
    show Calls Try.prog 14 #[.int .i64 1, .int .i64 1] w _
    go_enter Try.func14, Try.ntmps14
    go_wp2_with fail
    go_quiet (fail)
    go_wp2_with fail
    with_reducible refine (B1.out _).mono ?_
    rintro e w1 ⟨rfl, rfl⟩
    go_wp2_with fail
    go_ret3
    exact ⟨rfl, _, rfl⟩
  · have B1 : Hid (∀ W, Calls Try.prog 18 #[.int .i64 1, .int .u64 1] W fun e w' => e = .returned (.int .i64 1) ∧ w' = W) := fun W => by
      have h := pBucket_any 1 1 W (by decide)
      rw [show bucketI 1 1 = 1 by decide +kernel] at h
      exact h
    rw [show boundsI 1 ((1 + 1 : Nat) : Int) = (0, 0, false) by decide +kernel]
    show Calls Try.prog 14 #[.int .i64 1, .int .i64 2] w _
    go_enter Try.func14, Try.ntmps14
    go_wp2_with fail
    go_quiet (fail)
    go_wp2_with fail
    with_reducible refine (B1.out _).mono ?_
    rintro e w1 ⟨rfl, rfl⟩
    go_wp2_with fail
    go_ret3
    exact ⟨rfl, _, rfl⟩
set_option maxHeartbeats 8000000 in
set_option maxRecDepth 100000 in
theorem pBounds_short2 (p : Nat) (w : World) (hp : p < 8) :
    Calls Try.prog 14 #[.int .i64 2, .int .i64 ((p + 1 : Nat) : Int)] w fun e w' => e = .returned (.tuple #[gV (boundsI 2 ((p + 1 : Nat) : Int)).1, gV (boundsI 2 ((p + 1 : Nat) : Int)).2.1, .bool (boundsI 2 ((p + 1 : Nat) : Int)).2.2]) ∧ ∃ k, w' = w.drewN k := by
  have hc : p = 0 ∨ p = 1 ∨ p = 2 ∨ p = 3 ∨ p = 4 ∨ p = 5 ∨ p = 6 ∨ p = 7 := by omega
  rcases hc with rfl | rfl | rfl | rfl | rfl | rfl | rfl | rfl
  · have B1 : Hid (∀ W, Calls Try.prog 18 #[.int .i64 2, .int .u64 1] W fun e w' => e = .returned (.int .i64 1) ∧ w' = W) := fun W => by
      have h := pBucket_any 2 1 W (by decide)
      rw [show bucketI 2 1 = 1 by decide +kernel] at h
      exact h
    rw [show boundsI 2 ((0 + 1 : Nat) : Int) = (1, 1, true) by decide +kernel]
    show Calls Try.prog 14 #[.int .i64 2, .int .i64 1] w _
    go_enter Try.func14, Try.ntmps14
    go_wp2_with fail
    go_quiet (fail)
    go_wp2_with fail
    with_reducible refine (B1.out _).mono ?_
    rintro e w1 ⟨rfl, rfl⟩
    go_wp2_with fail
    go_ret3
    exact ⟨rfl, _, rfl⟩
  · have B1 : Hid (∀ W, Calls Try.prog 18 #[.int .i64 2, .int .u64 1] W fun e w' => e = .returned (.int .i64 1) ∧ w' = W) := fun W => by
      have h := pBucket_any 2 1 W (by decide)
      rw [show bucketI 2 1 = 1 by decide +kernel] at h
      exact h
    rw [show boundsI 2 ((1 + 1 : Nat) : Int) = (0, 0, false) by decide +kernel]
    show Calls Try.prog 14 #[.int .i64 2, .int .i64 2] w _
    go_enter Try.func14, Try.ntmps14
    go_wp2_with fail
    go_quiet (fail)
    go_wp2_with fail
    with_reducible refine (B1.out _).mono ?_
    rintro e w1 ⟨rfl, rfl⟩
    go_wp2_with fail
    go_ret3
    exact ⟨rfl, _, rfl⟩
  · have B1 : Hid (∀ W, Calls Try.prog 18 #[.int .i64 2, .int .u64 1] W fun e w' => e = .returned (.int .i64 1) ∧ w' = W) := fun W => by
      have h := pBucket_any 2 1 W (by decide)
      rw [show bucketI 2 1 = 1 by decide +kernel] at h
      exact h
    rw [show boundsI 2 ((2 + 1 : Nat) : Int) = (0, 0, false) by decide +kernel]
    show Calls Try.prog 14 #[.int .i64 2, .int .i64 3] w _
    go_enter Try.func14, Try.ntmps14
    go_wp2_with fail
    go_quiet (fail)
    go_wp2_with fail
    with_reducible refine (B1.out _).mono ?_
    rintro e w1 ⟨rfl, rfl⟩
    go_wp2_with fail
    go_ret3
    exact ⟨rfl, _, rfl⟩
  · have B1 : Hid (∀ W, Calls Try.prog 18 #[.int .i64 2, .int .u64 1] W fun e w' => e = .returned (.int .i64 1) ∧ w' = W) := fun W => by
      have h := pBucket_any 2 1 W (by decide)
      rw [show bucketI 2 1 = 1 by decide +kernel] at h
      exact h
    rw [show boundsI 2 ((3 + 1 : Nat) : Int) = (0, 0, false) by decide +kernel]
    show Calls Try.prog 14 #[.int .i64 2, .int .i64 4] w _
    go_enter Try.func14, Try.ntmps14
    go_wp2_with fail
    go_quiet (fail)
    go_wp2_with fail
    with_reducible refine (B1.out _).mono ?_
    rintro e w1 ⟨rfl, rfl⟩
    go_wp2_with fail
    go_ret3
    exact ⟨rfl, _, rfl⟩
  · have B1 : Hid (∀ W, Calls Try.prog 18 #[.int .i64 2, .int .u64 2] W fun e w' => e = .returned (.int .i64 5) ∧ w' = W) := fun W => by
      have h := pBucket_any 2 2 W (by decide)
      rw [show bucketI 2 2 = 5 by decide +kernel] at h
      exact h
    rw [show boundsI 2 ((4 + 1 : Nat) : Int) = (2, 2, true) by decide +kernel]
    show Calls Try.prog 14 #[.int .i64 2, .int .i64 5] w _
    go_enter Try.func14, Try.ntmps14
    go_wp2_with fail
    go_quiet (fail)
    go_wp2_with fail
    with_reducible refine (B1.out _).mono ?_
    rintro e w1 ⟨rfl, rfl⟩
    go_wp2_with fail
    go_ret3
    exact ⟨rfl, _, rfl⟩
  · have B1 : Hid (∀ W, Calls Try.prog 18 #[.int .i64 2, .int .u64 2] W fun e w' => e = .returned (.int .i64 5) ∧ w' = W) := fun W => by
      have h := pBucket_any 2 2 W (by decide)
      rw [show bucketI 2 2 = 5 by decide +kernel] at h
      exact h
    rw [show boundsI 2 ((5 + 1 : Nat) : Int) = (0, 0, false) by decide +kernel]
    show Calls Try.prog 14 #[.int .i64 2, .int .i64 6] w _
    go_enter Try.func14, Try.ntmps14
    go_wp2_with fail
    go_quiet (fail)
    go_wp2_with fail
    with_reducible refine (B1.out _).mono ?_
    rintro e w1 ⟨rfl, rfl⟩
    go_wp2_with fail
    go_ret3
    exact ⟨rfl, _, rfl⟩
  · have B1 : Hid (∀ W, Calls Try.prog 18 #[.int .i64 2, .int .u64 3] W fun e w' => e = .returned (.int .i64 7) ∧ w' = W) := fun W => by
      have h := pBucket_any 2 3 W (by decide)
      rw [show bucketI 2 3 = 7 by decide +kernel] at h
      exact h
    rw [show boundsI 2 ((6 + 1 : Nat) : Int) = (3, 3, true) by decide +kernel]
    show Calls Try.prog 14 #[.int .i64 2, .int .i64 7] w _
    go_enter Try.func14, Try.ntmps14
    go_wp2_with fail
    go_quiet (fail)
    go_wp2_with fail
    with_reducible refine (B1.out _).mono ?_
    rintro e w1 ⟨rfl, rfl⟩
    go_wp2_with fail
    go_ret3
    exact ⟨rfl, _, rfl⟩
  · have B1 : Hid (∀ W, Calls Try.prog 18 #[.int .i64 2, .int .u64 3] W fun e w' => e = .returned (.int .i64 7) ∧ w' = W) := fun W => by
      have h := pBucket_any 2 3 W (by decide)
      rw [show bucketI 2 3 = 7 by decide +kernel] at h
      exact h
    rw [show boundsI 2 ((7 + 1 : Nat) : Int) = (0, 0, false) by decide +kernel]
    show Calls Try.prog 14 #[.int .i64 2, .int .i64 8] w _
    go_enter Try.func14, Try.ntmps14
    go_wp2_with fail
    go_quiet (fail)
    go_wp2_with fail
    with_reducible refine (B1.out _).mono ?_
    rintro e w1 ⟨rfl, rfl⟩
    go_wp2_with fail
    go_ret3
    exact ⟨rfl, _, rfl⟩
set_option maxHeartbeats 8000000 in
set_option maxRecDepth 100000 in
theorem pBounds_short3 (p : Nat) (w : World) (hp : p < 24) :
    Calls Try.prog 14 #[.int .i64 3, .int .i64 ((p + 1 : Nat) : Int)] w fun e w' => e = .returned (.tuple #[gV (boundsI 3 ((p + 1 : Nat) : Int)).1, gV (boundsI 3 ((p + 1 : Nat) : Int)).2.1, .bool (boundsI 3 ((p + 1 : Nat) : Int)).2.2]) ∧ ∃ k, w' = w.drewN k := by
  have hc : p = 0 ∨ p = 1 ∨ p = 2 ∨ p = 3 ∨ p = 4 ∨ p = 5 ∨ p = 6 ∨ p = 7 ∨ p = 8 ∨ p = 9 ∨ p = 10 ∨ p = 11 ∨ p = 12 ∨ p = 13 ∨ p = 14 ∨ p = 15 ∨ p = 16 ∨ p = 17 ∨ p = 18 ∨ p = 19 ∨ p = 20 ∨ p = 21 ∨ p = 22 ∨ p = 23 := by omega
  rcases hc with rfl | rfl | rfl | rfl | rfl | rfl | rfl | rfl | rfl | rfl | rfl | rfl | rfl | rfl | rfl | rfl | rfl | rfl | rfl | rfl | rfl | rfl | rfl | rfl
  · have B1 : Hid (∀ W, Calls Try.prog 18 #[.int .i64 3, .int .u64 1] W fun e w' => e = .returned (.int .i64 1) ∧ w' = W) := fun W => by
      have h := pBucket_any 3 1 W (by decide)
      rw [show bucketI 3 1 = 1 by decide +kernel] at h
      exact h
    rw [show boundsI 3 ((0 + 1 : Nat) : Int) = (1, 1, true) by decide +kernel]
    show Calls Try.prog 14 #[.int .i64 3, .int .i64 1] w _
    go_enter Try.func14, Try.ntmps14
    go_wp2_with fail
    go_quiet (fail)
    go_wp2_with fail
    with_reducible refine (B1.out _).mono ?_
    rintro e w1 ⟨rfl, rfl⟩
    go_wp2_with fail
    go_ret3
    exact ⟨rfl, _, rfl⟩
  · have B1 : Hid (∀ W, Calls Try.prog 18 #[.int .i64 3, .int .u64 1] W fun e w' => e = .returned (.int .i64 1) ∧ w' = W) := fun W => by
      have h := pBucket_any 3 1 W (by decide)
      rw [show bucketI 3 1 = 1 by decide +kernel] at h
      exact h
    rw [show boundsI 3 ((1 + 1 : Nat) : Int) = (0, 0, false) by decide +kernel]
    show Calls Try.prog 14 #[.int .i64 3, .int .i64 2] w _
    go_enter Try.func14, Try.ntmps14
    go_wp2_with fail
    go_quiet (fail)
    go_wp2_with fail
    with_reducible refine (B1.out _).mono ?_
    rintro e w1 ⟨rfl, rfl⟩
    go_wp2_with fail
    go_ret3
    exact ⟨rfl, _, rfl⟩
  · have B1 : Hid (∀ W, Calls Try.prog 18 #[.int .i64 3, .int .u64 1] W fun e w' => e = .returned (.int .i64 1) ∧ w' = W) := fun W => by
      have h := pBucket_any 3 1 W (by decide)
      rw [show bucketI 3 1 = 1 by decide +kernel] at h
      exact h
    rw [show boundsI 3 ((2 + 1 : Nat) : Int) = (0, 0, false) by decide +kernel]
    show Calls Try.prog 14 #[.int .i64 3, .int .i64 3] w _
    go_enter Try.func14, Try.ntmps14
    go_wp2_with fail
    go_quiet (fail)
    go_wp2_with fail
    with_reducible refine (B1.out _).mono ?_
    rintro e w1 ⟨rfl, rfl⟩
    go_wp2_with fail
    go_ret3
    exact ⟨rfl, _, rfl⟩
  · have B1 : Hid (∀ W, Calls Try.prog 18 #[.int .i64 3, .int .u64 1] W fun e w' => e = .returned (.int .i64 1) ∧ w' = W) := fun W => by
      have h := pBucket_any 3 1 W (by decide)
      rw [show bucketI 3 1 = 1 by decide +kernel] at h
      exact h
    rw [show boundsI 3 ((3 + 1 : Nat) : Int) = (0, 0, false) by decide +kernel]
    show Calls Try.prog 14 #[.int .i64 3, .int .i64 4] w _
    go_enter Try.func14, Try.ntmps14
    go_wp2_with fail
    go_quiet (fail)
    go_wp2_with fail
    with_reducible refine (B1.out _).mono ?_
    rintro e w1 ⟨rfl, rfl⟩
    go_wp2_with fail
    go_ret3
    exact ⟨rfl, _, rfl⟩
  · have B1 : Hid (∀ W, Calls Try.prog 18 #[.int .i64 3, .int .u64 1] W fun e w' => e = .returned (.int .i64 1) ∧ w' = W) := fun W => by
      have h := pBucket_any 3 1 W (by decide)
      rw [show bucketI 3 1 = 1 by decide +kernel] at h
      exact h
    rw [show boundsI 3 ((4 + 1 : Nat) : Int) = (0, 0, false) by decide +kernel]
    show Calls Try.prog 14 #[.int .i64 3, .int .i64 5] w _
    go_enter Try.func14, Try.ntmps14
    go_wp2_with fail
    go_quiet (fail)
    go_wp2_with fail
    with_reducible refine (B1.out _).mono ?_
    rintro e w1 ⟨rfl, rfl⟩
    go_wp2_with fail
    go_ret3
    exact ⟨rfl, _, rfl⟩
  · have B1 : Hid (∀ W, Calls Try.prog 18 #[.int .i64 3, .int .u64 1] W fun e w' => e = .returned (.int .i64 1) ∧ w' = W) := fun W => by
      have h := pBucket_any 3 1 W (by decide)
      rw [show bucketI 3 1 = 1 by decide +kernel] at h
      exact h
    rw [show boundsI 3 ((5 + 1 : Nat) : Int) = (0, 0, false) by decide +kernel]
    show Calls Try.prog 14 #[.int .i64 3, .int .i64 6] w _
    go_enter Try.func14, Try.ntmps14
    go_wp2_with fail
    go_quiet (fail)
    go_wp2_with fail
    with_reducible refine (B1.out _).mono ?_
    rintro e w1 ⟨rfl, rfl⟩
    go_wp2_with fail
    go_ret3
    exact ⟨rfl, _, rfl⟩
  · have B1 : Hid (∀ W, Calls Try.prog 18 #[.int .i64 3, .int .u64 1] W fun e w' => e = .returned (.int .i64 1) ∧ w' = W) := fun W => by
      have h := pBucket_any 3 1 W (by decide)
      rw [show bucketI 3 1 = 1 by decide +kernel] at h
      exact h
    rw [show boundsI 3 ((6 + 1 : Nat) : Int) = (0, 0, false) by decide +kernel]
    show Calls Try.prog 14 #[.int .i64 3, .int .i64 7] w _
    go_enter Try.func14, Try.ntmps14
    go_wp2_with fail
    go_quiet (fail)
    go_wp2_with fail
    with_reducible refine (B1.out _).mono ?_
    rintro e w1 ⟨rfl, rfl⟩
    go_wp2_with fail
    go_ret3
    exact ⟨rfl, _, rfl⟩
  · have B1 : Hid (∀ W, Calls Try.prog 18 #[.int .i64 3, .int .u64 1] W fun e w' => e = .returned (.int .i64 1) ∧ w' = W) := fun W => by
      have h := pBucket_any 3 1 W (by decide)
      rw [show bucketI 3 1 = 1 by decide +kernel] at h
      exact h
    rw [show boundsI 3 ((7 + 1 : Nat) : Int) = (0, 0, false) by decide +kernel]
    show Calls Try.prog 14 #[.int .i64 3, .int .i64 8] w _
    go_enter Try.func14, Try.ntmps14
    go_wp2_with fail
    go_quiet (fail)
    go_wp2_with fail
    with_reducible refine (B1.out _).mono ?_
    rintro e w1 ⟨rfl, rfl⟩
    go_wp2_with fail
    go_ret3
    exact ⟨rfl, _, rfl⟩
  · have B1 : Hid (∀ W, Calls Try.prog 18 #[.int .i64 3, .int .u64 2] W fun e w' => e = .returned (.int .i64 9) ∧ w' = W) := fun W => by
      have h := pBucket_any 3 2 W (by decide)
      rw [show bucketI 3 2 = 9 by decide +kernel] at h
      exact h
    rw [show boundsI 3 ((8 + 1 : Nat) : Int) = (2, 2, true) by decide +kernel]
    show Calls Try.prog 14 #[.int .i64 3, .int .i64 9] w _
    go_enter Try.func14, Try.ntmps14
    go_wp2_with fail
    go_quiet (fail)
    go_wp2_with fail
    with_reducible refine (B1.out _).mono ?_
    rintro e w1 ⟨rfl, rfl⟩
    go_wp2_with fail
    go_ret3
    exact ⟨rfl, _, rfl⟩
  · have B1 : Hid (∀ W, Calls Try.prog 18 #[.int .i64 3, .int .u64 2] W fun e w' => e = .returned (.int .i64 9) ∧ w' = W) := fun W => by
      have h := pBucket_any 3 2 W (by decide)
      rw [show bucketI 3 2 = 9 by decide +kernel] at h
      exact h
    rw [show boundsI 3 ((9 + 1 : Nat) : Int) = (0, 0, false) by decide +kernel]
    show Calls Try.prog 14 #[.int .i64 3, .int .i64 10] w _
    go_enter Try.func14, Try.ntmps14
    go_wp2_with fail
    go_quiet (fail)
    go_wp2_with fail
    with_reducible refine (B1.out _).mono ?_
    rintro e w1 ⟨rfl, rfl⟩
    go_wp2_with fail
    go_ret3
    exact ⟨rfl, _, rfl⟩
  · have B1 : Hid (∀ W, Calls Try.prog 18 #[.int .i64 3, .int .u64 2] W fun e w' => e = .returned (.int .i64 9) ∧ w' = W) := fun W => by
      have h := pBucket_any 3 2 W (by decide)
      rw [show bucketI 3 2 = 9 by decide +kernel] at h
      exact h
    rw [show boundsI 3 ((10 + 1 : Nat) : Int) = (0, 0, false) by decide +kernel]
    show Calls Try.prog 14 #[.int .i64 3, .int .i64 11] w _
    go_enter Try.func14, Try.ntmps14
    go_wp2_with fail
    go_quiet (fail)
    go_wp2_with fail
    with_reducible refine (B1.out _).mono ?_
    rintro e w1 ⟨rfl, rfl⟩
    go_wp2_with fail
    go_ret3
    exact ⟨rfl, _, rfl⟩
  · have B1 : Hid (∀ W, Calls Try.prog 18 #[.int .i64 3, .int .u64 2] W fun e w' => e = .returned (.int .i64 9) ∧ w' = W) := fun W => by
      have h := pBucket_any 3 2 W (by decide)
      rw [show bucketI 3 2 = 9 by decide +kernel] at h
      exact h
    rw [show boundsI 3 ((11 + 1 : Nat) : Int) = (0, 0, false) by decide +kernel]
    show Calls Try.prog 14 #[.int .i64 3, .int .i64 12] w _
    go_enter Try.func14, Try.ntmps14
    go_wp2_with fail
    go_quiet (fail)
    go_wp2_with fail
    with_reducible refine (B1.out _).mono ?_
    rintro e w1 ⟨rfl, rfl⟩
    go_wp2_with fail
    go_ret3
    exact ⟨rfl, _, rfl⟩
  · have B1 : Hid (∀ W, Calls Try.prog 18 #[.int .i64 3, .int .u64 3] W fun e w' => e = .returned (.int .i64 13) ∧ w' = W) := fun W => by
      have h := pBucket_any 3 3 W (by decide)
      rw [show bucketI 3 3 = 13 by decide +kernel] at h
      exact h
    rw [show boundsI 3 ((12 + 1 : Nat) : Int) = (3, 3, true) by decide +kernel]
    show Calls Try.prog 14 #[.int .i64 3, .int .i64 13] w _
    go_enter Try.func14, Try.ntmps14
    go_wp2_with fail
    go_quiet (fail)
    go_wp2_with fail
    with_reducible refine (B1.out _).mono ?_
    rintro e w1 ⟨rfl, rfl⟩
    go_wp2_with fail
    go_ret3
    exact ⟨rfl, _, rfl⟩
  · have B1 : Hid (∀ W, Calls Try.prog 18 #[.int .i64 3, .int .u64 3] W fun e w' => e = .returned (.int .i64 13) ∧ w' = W) := fun W => by
      have h := pBucket_any 3 3 W (by decide)
      rw [show bucketI 3 3 = 13 by decide +kernel] at h
      exact h
    rw [show boundsI 3 ((13 + 1 : Nat) : Int) = (0, 0, false) by decide +kernel]
    show Calls Try.prog 14 #[.int .i64 3, .int .i64 14] w _
    go_enter Try.func14, Try.ntmps14
    go_wp2_with fail
    go_quiet (fail)
    go_wp2_with fail
    with_reducible refine (B1.out _).mono ?_
    rintro e w1 ⟨rfl, rfl⟩
    go_wp2_with fail
    go_ret3
    exact ⟨rfl, _, rfl⟩
  · have B1 : Hid (∀ W, Calls Try.prog 18 #[.int .i64 3, .int .u64 3] W fun e w' => e = .returned (.int .i64 13) ∧ w' = W) := fun W => by
      have h := pBucket_any 3 3 W (by decide)
      rw [show bucketI 3 3 = 13 by decide +kernel] at h
      exact h
    rw [show boundsI 3 ((14 + 1 : Nat) : Int) = (0, 0, false) by decide +kernel]
    show Calls Try.prog 14 #[.int .i64 3, .int .i64 15] w _
    go_enter Try.func14, Try.ntmps14
    go_wp2_with fail
    go_quiet (fail)
    go_wp2_with fail
    with_reducible refine (B1.out _).mono ?_
    rintro e w1 ⟨rfl, rfl⟩
    go_wp2_with fail
    go_ret3
    exact ⟨rfl, _, rfl⟩
  · have B1 : Hid (∀ W, Calls Try.prog 18 #[.int .i64 3, .int .u64 3] W fun e w' => e = .returned (.int .i64 13) ∧ w' = W) := fun W => by
      have h := pBucket_any 3 3 W (by decide)
      rw [show bucketI 3 3 = 13 by decide +kernel] at h
      exact h
    rw [show boundsI 3 ((15 + 1 : Nat) : Int) = (0, 0, false) by decide +kernel]
    show Calls Try.prog 14 #[.int .i64 3, .int .i64 16] w _
    go_enter Try.func14, Try.ntmps14
    go_wp2_with fail
    go_quiet (fail)
    go_wp2_with fail
    with_reducible refine (B1.out _).mono ?_
    rintro e w1 ⟨rfl, rfl⟩
    go_wp2_with fail
    go_ret3
    exact ⟨rfl, _, rfl⟩
  · have B1 : Hid (∀ W, Calls Try.prog 18 #[.int .i64 3, .int .u64 4] W fun e w' => e = .returned (.int .i64 17) ∧ w' = W) := fun W => by
      have h := pBucket_any 3 4 W (by decide)
      rw [show bucketI 3 4 = 17 by decide +kernel] at h
      exact h
    rw [show boundsI 3 ((16 + 1 : Nat) : Int) = (4, 4, true) by decide +kernel]
    show Calls Try.prog 14 #[.int .i64 3, .int .i64 17] w _
    go_enter Try.func14, Try.ntmps14
    go_wp2_with fail
    go_quiet (fail)
    go_wp2_with fail
    with_reducible refine (B1.out _).mono ?_
    rintro e w1 ⟨rfl, rfl⟩
    go_wp2_with fail
    go_ret3
    exact ⟨rfl, _, rfl⟩
  · have B1 : Hid (∀ W, Calls Try.prog 18 #[.int .i64 3, .int .u64 4] W fun e w' => e = .returned (.int .i64 17) ∧ w' = W) := fun W => by
      have h := pBucket_any 3 4 W (by decide)
      rw [show bucketI 3 4 = 17 by decide +kernel] at h
      exact h
    rw [show boundsI 3 ((17 + 1 : Nat) : Int) = (0, 0, false) by decide +kernel]
    show Calls Try.prog 14 #[.int .i64 3, .int .i64 18] w _
    go_enter Try.func14, Try.ntmps14
    go_wp2_with fail
    go_quiet (fail)
    go_wp2_with fail
    with_reducible refine (B1.out _).mono ?_
    rintro e w1 ⟨rfl, rfl⟩
    go_wp2_with fail
    go_ret3
    exact ⟨rfl, _, rfl⟩
  · have B1 : Hid (∀ W, Calls Try.prog 18 #[.int .i64 3, .int .u64 5] W fun e w' => e = .returned (.int .i64 19) ∧ w' = W) := fun W => by
      have h := pBucket_any 3 5 W (by decide)
      rw [show bucketI 3 5 = 19 by decide +kernel] at h
      exact h
    rw [show boundsI 3 ((18 + 1 : Nat) : Int) = (5, 5, true) by decide +kernel]
    show Calls Try.prog 14 #[.int .i64 3, .int .i64 19] w _
    go_enter Try.func14, Try.ntmps14
    go_wp2_with fail
    go_quiet (fail)
    go_wp2_with fail
    with_reducible refine (B1.out _).mono ?_
    rintro e w1 ⟨rfl, rfl⟩
    go_wp2_with fail
    go_ret3
    exact ⟨rfl, _, rfl⟩
  · have B1 : Hid (∀ W, Calls Try.prog 18 #[.int .i64 3, .int .u64 5] W fun e w' => e = .returned (.int .i64 19) ∧ w' = W) := fun W => by
      have h := pBucket_any 3 5 W (by decide)
      rw [show bucketI 3 5 = 19 by decide +kernel] at h
      exact h
    rw [show boundsI 3 ((19 + 1 : Nat) : Int) = (0, 0, false) by decide +kernel]
    show Calls Try.prog 14 #[.int .i64 3, .int .i64 20] w _
    go_enter Try.func14, Try.ntmps14
    go_wp2_with fail
    go_quiet (fail)
    go_wp2_with fail
    with_reducible refine (B1.out _).mono ?_
    rintro e w1 ⟨rfl, rfl⟩
    go_wp2_with fail
    go_ret3
    exact ⟨rfl, _, rfl⟩
  · have B1 : Hid (∀ W, Calls Try.prog 18 #[.int .i64 3, .int .u64 6] W fun e w' => e = .returned (.int .i64 21) ∧ w' = W) := fun W => by
      have h := pBucket_any 3 6 W (by decide)
      rw [show bucketI 3 6 = 21 by decide +kernel] at h
      exact h
    rw [show boundsI 3 ((20 + 1 : Nat) : Int) = (6, 6, true) by decide +kernel]
    show Calls Try.prog 14 #[.int .i64 3, .int .i64 21] w _
    go_enter Try.func14, Try.ntmps14
    go_wp2_with fail
    go_quiet (fail)
    go_wp2_with fail
    with_reducible refine (B1.out _).mono ?_
    rintro e w1 ⟨rfl, rfl⟩
    go_wp2_with fail
    go_ret3
    exact ⟨rfl, _, rfl⟩
  · have B1 : Hid (∀ W, Calls Try.prog 18 #[.int .i64 3, .int .u64 6] W fun e w' => e = .returned (.int .i64 21) ∧ w' = W) := fun W => by
      have h := pBucket_any 3 6 W (by decide)
      rw [show bucketI 3 6 = 21 by decide +kernel] at h
      exact h
    rw [show boundsI 3 ((21 + 1 : Nat) : Int) = (0, 0, false) by decide +kernel]
    show Calls Try.prog 14 #[.int .i64 3, .int .i64 22] w _
    go_enter Try.func14, Try.ntmps14
    go_wp2_with fail
    go_quiet (fail)
    go_wp2_with fail
    with_reducible refine (B1.out _).mono ?_
    rintro e w1 ⟨rfl, rfl⟩
    go_wp2_with fail
    go_ret3
    exact ⟨rfl, _, rfl⟩
  · have B1 : Hid (∀ W, Calls Try.prog 18 #[.int .i64 3, .int .u64 7] W fun e w' => e = .returned (.int .i64 23) ∧ w' = W) := fun W => by
      have h := pBucket_any 3 7 W (by decide)
      rw [show bucketI 3 7 = 23 by decide +kernel] at h
      exact h
    rw [show boundsI 3 ((22 + 1 : Nat) : Int) = (7, 7, true) by decide +kernel]
    show Calls Try.prog 14 #[.int .i64 3, .int .i64 23] w _
    go_enter Try.func14, Try.ntmps14
    go_wp2_with fail
    go_quiet (fail)
    go_wp2_with fail
    with_reducible refine (B1.out _).mono ?_
    rintro e w1 ⟨rfl, rfl⟩
    go_wp2_with fail
    go_ret3
    exact ⟨rfl, _, rfl⟩
  · have B1 : Hid (∀ W, Calls Try.prog 18 #[.int .i64 3, .int .u64 7] W fun e w' => e = .returned (.int .i64 23) ∧ w' = W) := fun W => by
      have h := pBucket_any 3 7 W (by decide)
      rw [show bucketI 3 7 = 23 by decide +kernel] at h
      exact h
    rw [show boundsI 3 ((23 + 1 : Nat) : Int) = (0, 0, false) by decide +kernel]
    show Calls Try.prog 14 #[.int .i64 3, .int .i64 24] w _
    go_enter Try.func14, Try.ntmps14
    go_wp2_with fail
    go_quiet (fail)
    go_wp2_with fail
    with_reducible refine (B1.out _).mono ?_
    rintro e w1 ⟨rfl, rfl⟩
    go_wp2_with fail
    go_ret3
    exact ⟨rfl, _, rfl⟩
end Go.Proofs.Ytpdedogdffolnaa
