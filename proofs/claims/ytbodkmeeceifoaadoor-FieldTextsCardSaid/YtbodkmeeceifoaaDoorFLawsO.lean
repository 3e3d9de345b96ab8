/- FieldOrders and FieldOne: what each comes to. -/
import Derived.Test.YtbodkmeeceifoaaDoorFLaws
import Derived.Test.YtbodkmeeceifoaaDoorFOrd
namespace Go.Proofs.YtbodkmeeceifoaaDoor
open Go.RowKit Go.Lib

theorem least_put (n m : Nat) (r : Int) (h : compareBytes (putL n) (putL m) = r) (W : World) : Calls Tryd.prog 16 #[.string (putB n), .string (putB m)] W fun e w' => e = .returned (.int .i64 r) ∧ W = w' := by
  have := least_any (putB n) (putB m) W
  rwa [putB_list, putB_list, h] at this

set_option maxHeartbeats 1000000 in
set_option maxRecDepth 100000 in
theorem orders_walk {am af : Addr} {N : Nat} (n m : Nat) (hn : n < 18446744073709551616) (hm : m < 18446744073709551616) (w : World) (hS : Sent am af N w) :
    Calls Tryd.prog 7 #[.int .u64 (n : Int), .int .u64 (m : Int)] w fun e w' => e = .returned (.bool true) ∧ Below w.heap.size w w' := by
  have H1 : Hid (n ≤ 18446744073709551615) := by show n ≤ _; omega
  have H2 : Hid (m ≤ 18446744073709551615) := by show m ≤ _; omega
  obtain ⟨lo, hi, r, hlo, hhi, hr, hle, hl9, hc⟩ : ∃ lo hi : Nat, ∃ r : Int, min (n : Int) m = lo ∧ max (n : Int) m = hi ∧ compareBytes (putL n) (putL m) = r ∧ (putL lo).length ≤ (putL hi).length ∧ lo ≤ 18446744073709551615 ∧
      ((n < m ∧ r = -1) ∨ (m < n ∧ r = 1) ∨ (n = m ∧ r = 0)) := by
    by_cases h1 : n < m
    · exact ⟨n, m, -1, by omega, by omega, cmp_put n m h1 hm, len_mono n m h1 hm, by omega, .inl ⟨h1, rfl⟩⟩
    · by_cases h2 : m < n
      · refine ⟨m, n, 1, by omega, by omega, ?_, len_mono m n h2 hn, by omega, .inr (.inl ⟨h2, rfl⟩)⟩
        rw [cmp_swap, cmp_put m n h2 hn]
        rfl
      · obtain rfl : n = m := by omega
        exact ⟨n, n, 0, by omega, by omega, cmp_self _, Nat.le_refl _, by omega, .inr (.inr ⟨rfl, rfl⟩)⟩
  have hh9 : hi ≤ 18446744073709551615 := by omega
  rw [← putB_size, ← putB_size] at hle
  have HLO := Lib.hid hlo
  have HHI := Lib.hid hhi
  have HR := Lib.hid hr
  have HL9 := Lib.hid hl9
  have HH9 := Lib.hid hh9
  clear hlo hhi hr hl9 hh9 hn hm
  rcases hc with ⟨hc, rfl⟩ | ⟨hc, rfl⟩ | ⟨rfl, rfl⟩
  all_goals
    go_enter Tryd.func7, Tryd.ntmps7
    go_wp2_with fail
    refine (shown_any _ hS).mono ?_
    rintro e w1 ⟨rfl, hb1⟩
    go_wp2_with fail
    refine (put_int _ n rfl H1.out _).mono ?_
    rintro e w2 ⟨rfl, hb2⟩
    have hb2' : Below w.heap.size w w2 := hb1.trans (hb2.mono hb1.size)
    clear hb1 hb2
    go_wp2_with fail
    refine (put_int _ _ rfl (by first | exact H2.out | exact H1.out) _).mono ?_
    rintro e w3 ⟨rfl, hb3⟩
    have hb3' : Below w.heap.size w w3 := hb2'.trans (hb3.mono hb2'.size)
    clear hb2' hb3
    go_wp2_with fail
    refine (least_put _ _ _ HR.out _).mono ?_
    rintro e w4 ⟨rfl, rfl⟩
    go_wp2_with fail
    refine (put_int _ lo (by first | exact HLO.out | (have := HLO.out; omega)) HL9.out _).mono ?_
    rintro e w5 ⟨rfl, hb5⟩
    have hb5' : Below w.heap.size w w5 := hb3'.trans (hb5.mono hb3'.size)
    clear hb3' hb5
    go_wp2_with fail
    refine (put_int _ hi (by first | exact HHI.out | (have := HHI.out; omega)) HH9.out _).mono ?_
    rintro e w6 ⟨rfl, hb6⟩
    go_wp2_with fail
    go_ret
    exact ⟨rfl, hb5'.trans (hb6.mono hb5'.size)⟩
end Go.Proofs.YtbodkmeeceifoaaDoor
