/- The page's own answers for layer 9: Bounds, of whatever. -/
import Derived.Test.YtpdedogdffolnaaGRef3
namespace Go.Proofs.Ytpdedogdffolnaa
open Go.RowKit

/-- What Bounds tells, as values. -/
def bndV (P : Nat × Nat × Bool) : Value := .tuple #[gV P.1, gV P.2.1, .bool P.2.2]
theorem bounds_long {n p : Nat} (hn : n ≤ 3) (hp : p < 64 * 2 ^ n) (hl : n ≤ p / 2 ^ n) : boundsI (n : Int) ((p + 1 : Nat) : Int) = (loP n (p + 1), hiP n (p + 1), true) := by
  unfold boundsI okI
  rw [fineB_of hn, Int.toNat_natCast, Int.toNat_natCast, ok_long9 n p hp hl, decide_eq_true (by omega)]
  rfl
set_option maxHeartbeats 4000000 in
set_option maxRecDepth 100000 in
theorem pBounds_any (f a : Int) (w : World) : Calls Try.prog 14 #[.int .i64 f, .int .i64 a] w fun e w' => e = .returned (bndV (boundsI f a)) ∧ ∃ k, w' = w.drewN k := by
  by_cases hlo : f < 0
  · have hb : boundsI f a = (0, 0, false) := by unfold boundsI fineB; rw [decide_eq_false (by omega)]; rfl
    rw [hb]
    clear hb
    go_enter Try.func14, Try.ntmps14
    go_wp2_with fail
    go_ret3
    exact ⟨rfl, 0, rfl⟩
  · by_cases hhi : 3 < f
    · have hb : boundsI f a = (0, 0, false) := by unfold boundsI fineB; rw [decide_eq_false (show ¬ f ≤ 3 by omega), Bool.and_false]; rfl
      rw [hb]
      clear hb
      go_enter Try.func14, Try.ntmps14
      go_wp2_with fail
      go_ret3
      exact ⟨rfl, 0, rfl⟩
    · obtain ⟨n, rfl⟩ : ∃ n : Nat, f = (n : Int) := ⟨f.toNat, by omega⟩
      have hn3 : n ≤ 3 := by omega
      by_cases ha : a < 0
      · have hb : boundsI (n : Int) a = (0, 0, false) := by unfold boundsI okI; rw [decide_eq_false (show ¬ 0 ≤ a by omega), Bool.false_and, Bool.and_false]; rfl
        rw [hb]
        clear hb
        go_enter Try.func14, Try.ntmps14
        go_wp2_with fail
        go_ret3
        exact ⟨rfl, 0, rfl⟩
      · obtain ⟨b, rfl⟩ : ∃ b : Nat, a = (b : Int) := ⟨a.toNat, by omega⟩
        by_cases hb0 : b = 0
        · subst hb0
          have hb : boundsI (n : Int) ((0 : Nat) : Int) = (0, 0, true) := by unfold boundsI; rw [fineB_of hn3]; rfl
          rw [hb]
          have h4 : n = 0 ∨ n = 1 ∨ n = 2 ∨ n = 3 := by omega
          clear hb
          rcases h4 with rfl | rfl | rfl | rfl
          all_goals
            go_enter Try.func14, Try.ntmps14
            go_wp2_with fail
            go_ret3
            exact ⟨rfl, 0, rfl⟩
        · obtain ⟨p, rfl⟩ : ∃ p, b = p + 1 := ⟨b - 1, by omega⟩
          by_cases hp : p < 64 * 2 ^ n
          · by_cases hl : n ≤ p / 2 ^ n
            · rw [bounds_long hn3 hp hl]
              exact pBounds_long n p w hn3 hp hl
            · have hl' : p < n * 2 ^ n := (Nat.div_lt_iff_lt_mul (Nat.two_pow_pos n)).1 (by omega)
              have h4 : n = 0 ∨ n = 1 ∨ n = 2 ∨ n = 3 := by omega
              rcases h4 with rfl | rfl | rfl | rfl
              · omega
              · exact pBounds_short1 p w (by omega)
              · exact pBounds_short2 p w (by omega)
              · exact pBounds_short3 p w (by omega)
          · have hb : boundsI (n : Int) ((p + 1 : Nat) : Int) = (0, 0, false) := by
              unfold boundsI okI okP
              rw [Int.toNat_natCast, Int.toNat_natCast, decide_eq_false (show ¬ p + 1 = 0 by omega), decide_eq_false (show ¬ p + 1 ≤ 64 * 2 ^ n by omega), Bool.false_and, Bool.false_or, Bool.and_false, Bool.and_false]
              rfl
            rw [hb]
            have h4 : n = 0 ∨ n = 1 ∨ n = 2 ∨ n = 3 := by omega
            clear hb
            rcases h4 with rfl | rfl | rfl | rfl
            all_goals
              go_enter Try.func14, Try.ntmps14
              go_wp2_with fail
              go_ret3
              exact ⟨rfl, 0, rfl⟩
end Go.Proofs.Ytpdedogdffolnaa
