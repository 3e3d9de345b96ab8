/- Counters in memory (stage 8); the page's own: is, Right, Plus. -/
import Derived.Test.YthhlofcmhnkcmaaCMath
import Derived.Test.YthhlofcmhnkcmaaERef
import Derived.Laws.ResultCell
import Derived.BigQuiet
import Derived.OwnWalk
import Derived.OwnWalkIn
namespace Go.Proofs.Ythhlofcmhnkcmaa
open Go.RowKit

/-- Counters, as a value. -/
abbrev cV (r c : Int) (v : Value) : Value := .agg #[.int .i64 r, .int .i64 c, v]
/-- Counters in a cell, and a number: what is returned. -/
theorem results_cms {fn : Func} {p u : Tmp} (h : fn.results = #[.cell p 24, .tmp u]) (tmps : Array Value) (w : World) (g : Nat) (a b d : Value)
    (hp : tmps.getD p undef = .pointer (some ⟨g, 0, none⟩)) (hg : HasC w g 24 #[a, b, d]) : (results fn tmps).run Try.prog w = .ok (.tuple #[.agg #[a, b, d], tmps.getD u undef]) w := by
  rw [results_cell_tmp h, hp]
  simp only [asAddr, Sem.run_pure, Result.andThen_ok]
  rw [run_loadVar_row w g 24 24 #[a, b, d] (0, 0) _ hg Try.underlying24 rfl (by kernel_rfl)]
  rfl
theorem wrap_u64c (x : Int) : IntKind.u64.wrap x = x % 18446744073709551616 := by simp [IntKind.wrap, IntKind.signed, IntKind.bits]
theorem wrap_i64c (x : Int) (h0 : -9223372036854775808 ≤ x) (h1 : x < 9223372036854775808) : wrap64 x = x := by unfold wrap64; omega
set_option maxRecDepth 100000 in
theorem pIs_any (r c : Int) (w : World) : Calls Try.prog 32 #[.int .i64 r, .int .i64 c] w fun e w' => e = .returned (.bool (okC r c)) ∧ w = w' := by
  unfold okC
  by_cases h1 : 1 ≤ r
  · by_cases h2 : r ≤ 4
    · rw [decide_eq_true h1, decide_eq_true h2, Bool.true_and, Bool.true_and]
      by_cases c4 : c = 4
      · subst c4
        go_enter Try.func32, Try.ntmps32
        go_wp2
        go_ret
        exact ⟨by first | rfl | simp, rfl⟩
      · have d4 : (c == 4) = false := by simp [c4]
        rw [decide_eq_false c4, Bool.false_or]
        by_cases c8 : c = 8
        · subst c8
          go_enter Try.func32, Try.ntmps32
          go_wp2
          go_ret
          exact ⟨by first | rfl | simp, rfl⟩
        · have d8 : (c == 8) = false := by simp [c8]
          rw [decide_eq_false c8, Bool.false_or]
          by_cases c16 : c = 16
          · subst c16
            go_enter Try.func32, Try.ntmps32
            go_wp2
            go_ret
            exact ⟨by first | rfl | simp, rfl⟩
          · have d16 : (c == 16) = false := by simp [c16]
            rw [decide_eq_false c16, Bool.false_or]
            by_cases c32 : c = 32
            · subst c32
              go_enter Try.func32, Try.ntmps32
              go_wp2
              go_ret
              exact ⟨by first | rfl | simp, rfl⟩
            · have d32 : (c == 32) = false := by simp [c32]
              rw [decide_eq_false c32]
              clear c4 c8 c16 c32
              go_enter Try.func32, Try.ntmps32
              go_wp2
              go_ret
              exact ⟨by first | rfl | simp, rfl⟩
    · rw [decide_eq_false h2, Bool.false_and, Bool.and_false]
      go_enter Try.func32, Try.ntmps32
      go_wp2
      go_ret
      exact ⟨by first | rfl | simp, rfl⟩
  · rw [decide_eq_false h1, Bool.false_and]
    go_enter Try.func32, Try.ntmps32
    go_wp2
    go_ret
    exact ⟨by first | rfl | simp, rfl⟩
set_option maxRecDepth 100000 in
theorem pPlus_any (a b : Nat) (w : World) (hb : b ≤ topN) : Calls Try.prog 29 #[nV a, nV b] w fun e w' => e = .returned (nV (plusS a b)) ∧ w = w' := by
  have ht : topN = 18446744073709551615 := rfl
  have e1 : IntKind.u64.wrap (18446744073709551615 - (b : Int)) = 18446744073709551615 - (b : Int) := by rw [wrap_u64c]; omega
  by_cases h : 18446744073709551615 - (b : Int) < (a : Int)
  · have hv : plusS a b = 18446744073709551615 := by unfold plusS; omega
    have HV := Lib.hid hv
    clear hv hb ht
    go_enter Try.func29, Try.ntmps29
    go_wp2
    go_ret
    exact ⟨by rw [HV.out]; rfl, rfl⟩
  · have hv : plusS a b = a + b := by unfold plusS; omega
    have e2 : IntKind.u64.wrap ((a : Int) + (b : Int)) = ((a + b : Nat) : Int) := by rw [wrap_u64c]; omega
    have HV := Lib.hid hv
    have E2 := Lib.hid e2
    clear hv hb e2 ht
    go_enter Try.func29, Try.ntmps29
    go_wp2
    go_ret
    exact ⟨by rw [HV.out]; first | rfl | (rw [← E2.out]; rfl), rfl⟩
set_option maxHeartbeats 1000000 in
set_option maxRecDepth 100000 in
theorem pRight8_any (r c : Int) (L : List Nat) (v : Value) (w : World) (h : NumSl w v L) :
    Calls Try.prog 17 #[cV r c v] w fun e w' => e = .returned (.bool (rightC r c L)) ∧ w' = w.alloc (Obj.cells #[.int .i64 r, .int .i64 c, v] 24) := by
  have I1 := Lib.hid (fun W => pIs_any r c W)
  have hx0 := HasC.new w 24 #[.int .i64 r, .int .i64 c, v]
  obtain ⟨ao, cp, rfl, _⟩ := h.shape
  obtain ⟨m, hm⟩ : ∃ m, m = L.length := ⟨_, rfl⟩
  have HM := Lib.hid hm
  rw [← hm] at hx0 ⊢
  clear h hm
  unfold cV
  cases hq : okC r c with
  | false =>
    rw [hq] at I1
    have hv : rightC r c L = false := by unfold rightC; rw [hq]; rfl
    have HV := Lib.hid hv
    clear hq hv hx0
    go_enter Try.func17, Try.ntmps17
    go_wp2_with fail
    with_reducible refine (I1.out _).mono ?_
    rintro e w1 ⟨rfl, rfl⟩
    go_wp2_with fail
    go_ret
    exact ⟨by rw [HV.out]; rfl, rfl⟩
  | true =>
    rw [hq] at I1
    obtain ⟨a, b, rfl, rfl, h1, h2, h3⟩ := okC_nat hq
    have hab : a * b ≤ 128 := Nat.mul_le_mul h2 (show b ≤ 32 by omega)
    obtain ⟨p, hp⟩ : ∃ p, p = a * b := ⟨_, rfl⟩
    have hw : wrap64 ((a : Int) * (b : Int)) = (p : Int) := by
      have e : ((a : Int) * (b : Int)) = (p : Int) := by rw [hp]; push_cast; rfl
      rw [e]
      exact wrap_i64c _ (by omega) (by omega)
    obtain ⟨res, hres⟩ : ∃ res, ((m : Int) == (p : Int)) = res := ⟨_, rfl⟩
    have hv : rightC (a : Int) (b : Int) L = res := by
      unfold rightC
      rw [hq, Bool.true_and, ← HM.out, ← hres, hp]
      by_cases hh : m = a * b
      · rw [decide_eq_true (by rw [hh]; push_cast; rfl), hh]; simp
      · rw [decide_eq_false (fun e => hh (Int.ofNat.inj (by simpa using e)))]
        symm
        simp
        intro e
        exact hh (Int.ofNat.inj (by simpa using e))
    have HV := Lib.hid hv
    clear hq hv hp hab h1 h2 h3 hx0
    go_enter Try.func17, Try.ntmps17
    go_wp2_with fail
    with_reducible refine (I1.out _).mono ?_
    rintro e w1 ⟨rfl, rfl⟩
    go_wp2_with fail
    go_ret
    exact ⟨by rw [HV.out]; rfl, rfl⟩
end Go.Proofs.Ythhlofcmhnkcmaa
