/- slices.Equal over lists of numbers; package cms: Same, Col. -/
import Derived.Test.YthhlofcmhnkcmaaCCAd
namespace Go.Proofs.Ythhlofcmhnkcmaa
open Go.RowKit Go.Shelf

set_option maxHeartbeats 2000000 in
set_option maxRecDepth 100000 in
theorem xSame0_any (A B : List Nat) (va vb : Value) (w : World) (hA : NumSl w va A) (hB : NumSl w vb B) (hna : A.length ≤ 1000) (hnb : B.length ≤ 1000) :
    Calls Try.prog 41 #[va, vb] w fun e w' => e = .returned (.bool (decide (A = B))) ∧ Below w.heap.size w w' := by
  obtain ⟨ao, ca, rfl, hca⟩ := hA.shape
  obtain ⟨bo, cb, rfl, hcb⟩ := hB.shape
  obtain ⟨n, hnn⟩ : ∃ n, n = A.length := ⟨_, rfl⟩
  obtain ⟨m, hmm⟩ : ∃ m, m = B.length := ⟨_, rfl⟩
  have HCA := Lib.hid hca
  have HCB := Lib.hid hcb
  have HN := Lib.hid hnn
  have HM := Lib.hid hmm
  rw [← hnn] at hna ⊢
  rw [← hmm] at hnb ⊢
  by_cases hnm : n = m
  · obtain ⟨r, hr⟩ : ∃ r, decide (A = B) = r := ⟨_, rfl⟩
    have h0 : Hid (decide (A.drop 0 = B.drop 0) = r) := by show decide (A.drop 0 = B.drop 0) = r; rw [List.drop_zero, List.drop_zero, hr]
    rw [hr]
    subst hnm
    clear hca hcb hnn hmm hA hB hr
    go_enter Try.func41, Try.ntmps41
    go_wp2_with fail
    go_loopw [13] (fun i wr => ∃ k : Nat, k ≤ n ∧ i = .int .i64 k ∧ Hid (decide (A.drop k = B.drop k) = r) ∧ Below w.heap.size w wr) (fun i _ => n - (intOf i).toNat)
    case atStart => exact ⟨0, Nat.zero_le _, rfl, h0, Below.refl _ _⟩
    case round =>
      obtain ⟨k, hk, rfl, hs, hbel⟩ := hrel
      by_cases hlt : k < n
      · have hka : k < A.length := by have := HN.out; omega
        have hkb : k < B.length := by have := HM.out; omega
        obtain ⟨g, o, rfl, hc0⟩ := HCA.out k hka
        obtain ⟨g', o', rfl, hc1⟩ := HCB.out k hkb
        have c0 := hc0 wr hbel
        have c1 := hc1 wr hbel
        have hst := nums_drop A B k hka hkb
        obtain ⟨x, hx⟩ : ∃ x, A[k] = x := ⟨_, rfl⟩
        obtain ⟨y, hy⟩ : ∃ y, B[k] = y := ⟨_, rfl⟩
        rw [hx] at c0 hst
        rw [hy] at c1 hst
        have HS := Lib.hid hst
        clear hst hx hy hc0 hc1
        by_cases hxy : x = y
        · have hs2 : Hid (decide (A.drop (k + 1) = B.drop (k + 1)) = r) := by
            show decide (A.drop (k + 1) = B.drop (k + 1)) = r
            rw [← hs.out]
            exact decide_eq_decide.2 ⟨fun h => HS.out.2 ⟨hxy, h⟩, fun h => (HS.out.1 h).2⟩
          have hne : ¬ (x : Int) ≠ (y : Int) := by omega
          subst hxy
          go_wp2_with fail
          go_quiet (fail)
          have hbel1 : Below w.heap.size w (wr.drewN nq) := bel_drewN hbel _
          clear c0 c1 hbel
          go_wp2_with fail
          go_roundw
          case rel => exact ⟨k + 1, by omega, by go_num, hs2, hbel1⟩
          case measure => simp [intOf]; omega
        · have hv : r = false := by
            rw [← hs.out]
            exact decide_eq_false fun h => hxy (HS.out.1 h).1
          have hne : ¬ (x : Int) = (y : Int) := by omega
          have HV := Lib.hid hv
          clear hv
          go_wp2_with fail
          go_quiet (fail)
          have hbel1 : Below w.heap.size w (wr.drewN nq) := bel_drewN hbel _
          clear c0 c1 hbel
          go_wp2_with fail
          go_ret
          exact ⟨by rw [HV.out]; rfl, hbel1⟩
      · have hv : r = true := by
          rw [← hs.out]
          refine decide_eq_true ?_
          rw [List.drop_eq_nil_of_le (by have := HN.out; omega), List.drop_eq_nil_of_le (by have := HM.out; omega)]
        have HV := Lib.hid hv
        clear hv
        go_wp2_with fail
        go_ret
        exact ⟨by rw [HV.out]; rfl, hbel⟩
  · have hv : decide (A = B) = false := decide_eq_false fun h => hnm (by rw [hnn, hmm, h])
    have hne : ¬ (n : Int) = (m : Int) := by omega
    rw [hv]
    clear hca hcb hnn hmm hA hB hv
    go_enter Try.func41, Try.ntmps41
    go_wp2_with fail
    go_ret
    exact ⟨rfl, Below.refl _ _⟩
set_option maxHeartbeats 2000000 in
set_option maxRecDepth 100000 in
theorem cSame_any (r c : Int) (L : List Nat) (v : Value) (r2 c2 : Int) (K : List Nat) (u : Value) (w : World) (hv : NumSl w v L) (hu : NumSl w u K) (hn : L.length ≤ 200) (hm : K.length ≤ 200) :
    Calls Try.prog 27 #[cV r c v, cV r2 c2 u] w fun e w' => e = .returned (.bool (sameCm r c L r2 c2 K)) ∧ Below w.heap.size w w' := by
  have hb0 := ((Below.refl w.heap.size w).alloc (Nat.le_refl _) (Obj.cells #[.int .i64 r, .int .i64 c, v] 24)).alloc (by simp) (Obj.cells #[.int .i64 r2, .int .i64 c2, u] 24)
  have hx0 := (HasC.new w 24 #[.int .i64 r, .int .i64 c, v]).alloc (Obj.cells #[.int .i64 r2, .int .i64 c2, u] 24)
  have hy0 : HasC ((w.alloc (Obj.cells #[.int .i64 r, .int .i64 c, v] 24)).alloc (Obj.cells #[.int .i64 r2, .int .i64 c2, u] 24)) (w.heap.size + 1) 24 #[.int .i64 r2, .int .i64 c2, u] := HasC.at_ _ _ _ (by simp)
  have N1 := Lib.hid (xSame0_any L K v u _ (hv.below hb0) (hu.below hb0) (by omega) (by omega))
  have HB := Lib.hid hb0
  have k2 := hx0.cell 2
  have l2 := hy0.cell 2
  obtain ⟨ao, cp, rfl, _⟩ := hv.shape
  obtain ⟨bo, dp, rfl, _⟩ := hu.shape
  obtain ⟨q, hq⟩ : ∃ q, decide (L = K) = q := ⟨_, rfl⟩
  have hS : sameCm r c L r2 c2 K = (decide (r = r2) && (decide (c = c2) && q)) := by unfold sameCm; rw [hq]
  rw [hS]
  rw [hq] at N1
  obtain ⟨m, hmm⟩ : ∃ m, m = L.length := ⟨_, rfl⟩
  obtain ⟨p, hpp⟩ : ∃ p, p = K.length := ⟨_, rfl⟩
  rw [← hmm, ← hpp] at N1 HB k2 l2 ⊢
  clear hb0 hx0 hy0 hv hu hq hS hmm hpp hn hm
  unfold cV
  by_cases h1 : r = r2
  · subst h1
    by_cases h2 : c = c2
    · subst h2
      rw [decide_eq_true rfl, decide_eq_true rfl, Bool.true_and, Bool.true_and]
      go_enter Try.func27, Try.ntmps27
      go_wp2_with fail
      with_reducible refine (N1.out).mono ?_
      rintro e w1 ⟨rfl, hb⟩
      have hb1 := HB.out.trans (hb.mono HB.out.size)
      go_wp2_with fail
      go_ret
      exact ⟨by simp, hb1⟩
    · have hc : (c == c2) = false := by simp [h2]
      rw [decide_eq_false h2, Bool.false_and, Bool.and_false]
      clear h2
      go_enter Try.func27, Try.ntmps27
      go_wp2_with fail
      go_ret
      exact ⟨by simp, HB.out⟩
  · have hc : (r == r2) = false := by simp [h1]
    rw [decide_eq_false h1, Bool.false_and]
    clear h1
    go_enter Try.func27, Try.ntmps27
    go_wp2_with fail
    go_ret
    exact ⟨by simp, HB.out⟩
set_option maxHeartbeats 2000000 in
set_option maxRecDepth 100000 in
theorem cCol_any (r c : Int) (L : List Nat) (v : Value) (row : Int) (h : Nat) (w : World) (hv : NumSl w v L) (hn : L.length ≤ 200) (hh : h ≤ topN) :
    Calls Try.prog 19 #[cV r c v, .int .i64 row, nV h] w fun e w' => e = .returned (.int .i64 (colCm r c L row h : Int)) ∧ Below w.heap.size w w' := by
  have hb0 := (Below.refl w.heap.size w).alloc (Nat.le_refl _) (Obj.cells #[.int .i64 r, .int .i64 c, v] 24)
  have hx0 := HasC.new w 24 #[.int .i64 r, .int .i64 c, v]
  have R1 := Lib.hid (cRight_any r c L v _ (hv.below hb0) hn)
  have HX := Lib.hid hx0
  have HB := Lib.hid hb0
  obtain ⟨ao, cp, rfl, _⟩ := hv.shape
  obtain ⟨m, hm⟩ : ∃ m, m = L.length := ⟨_, rfl⟩
  rw [← hm] at R1 HX HB ⊢
  clear hb0 hx0 hv hm
  unfold cV at R1 ⊢
  cases hq : rightC r c L with
  | false =>
    rw [hq] at R1
    have hv : colCm r c L row h = 0 := by unfold colCm; rw [hq]; rfl
    have HV := Lib.hid hv
    clear hq hv
    go_enter Try.func19, Try.ntmps19
    go_wp2_with fail
    with_reducible refine (R1.out).mono ?_
    rintro e w1 ⟨rfl, hb⟩
    have hb1 := HB.out.trans (hb.mono HB.out.size)
    go_wp2_with fail
    go_ret
    exact ⟨by rw [HV.out]; rfl, hb1⟩
  | true =>
    rw [hq] at R1
    obtain ⟨a, b, rfl, rfl, h1, h2, h3, _⟩ := rightC_nat hq
    by_cases hr0 : 0 ≤ row
    case neg =>
      have hv : colCm (a : Int) (b : Int) L row h = 0 := by unfold colCm; rw [decide_eq_false hr0, Bool.false_and, Bool.and_false]; rfl
      have HV := Lib.hid hv
      have hr1 : row < 0 := by omega
      clear hq hv hr0
      go_enter Try.func19, Try.ntmps19
      go_wp2_with fail
      with_reducible refine (R1.out).mono ?_
      rintro e w1 ⟨rfl, hb⟩
      have hb1 := HB.out.trans (hb.mono HB.out.size)
      go_wp2_with fail
      go_ret
      exact ⟨by rw [HV.out]; rfl, hb1⟩
    case pos =>
      by_cases hr2 : row < (a : Int)
      case neg =>
        have hv : colCm (a : Int) (b : Int) L row h = 0 := by unfold colCm; rw [decide_eq_false hr2, Bool.and_false, Bool.and_false]; rfl
        have HV := Lib.hid hv
        have hr1 : ¬ row < 0 := by omega
        have hr3 : (a : Int) ≤ row := by omega
        clear hq hv
        go_enter Try.func19, Try.ntmps19
        go_wp2_with fail
        with_reducible refine (R1.out).mono ?_
        rintro e w1 ⟨rfl, hb⟩
        have hb1 := HB.out.trans (hb.mono HB.out.size)
        have c0 := (HX.out.below hb HX.out.lt).cell 0
        go_wp2_with fail
        go_ret
        exact ⟨by rw [HV.out]; rfl, hb1⟩
      case pos =>
        obtain ⟨k, rfl⟩ : ∃ k : Nat, row = (k : Int) := ⟨row.toNat, by omega⟩
        have hv : colCm (a : Int) (b : Int) L (k : Int) h = colC b k h := by unfold colCm; rw [hq, decide_eq_true hr0, decide_eq_true hr2]; rfl
        have hr1 : ¬ (k : Int) < 0 := by omega
        have hr3 : ¬ (a : Int) ≤ (k : Int) := by omega
        have K1 := Lib.hid (fun W => column_any b k h W (by omega) (by omega) (by omega) hh)
        obtain ⟨d, hd⟩ : ∃ d, d = colC b k h := ⟨_, rfl⟩
        rw [← hd] at hv K1
        have HV := Lib.hid hv
        clear hq hv hd h1 h2 h3 hr0
        go_enter Try.func19, Try.ntmps19
        go_wp2_with fail
        with_reducible refine (R1.out).mono ?_
        rintro e w1 ⟨rfl, hb⟩
        have hb1 := HB.out.trans (hb.mono HB.out.size)
        have c0 := (HX.out.below hb HX.out.lt).cell 0
        have c1 := (HX.out.below hb HX.out.lt).cell 1
        go_wp2_with fail
        with_reducible refine (K1.out _).mono ?_
        rintro e w2 ⟨rfl, rfl⟩
        go_wp2_with fail
        go_ret
        exact ⟨by rw [HV.out]; rfl, hb1⟩
end Go.Proofs.Ythhlofcmhnkcmaa
