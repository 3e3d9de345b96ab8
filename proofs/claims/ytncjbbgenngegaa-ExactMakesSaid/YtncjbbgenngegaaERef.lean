
/- The page's own answers for layer 6: Right, Has, Count, Numbers. -/
import Derived.Test.YtncjbbgenngegaaEBase
namespace Go.Proofs.Ytncjbbgenngegaa
open Go.RowKit

theorem rise_drop {L : List Nat} {k : Nat} (hk : k + 1 < L.length) : riseB (L.drop k) = (decide (L[k] < L[k + 1]) && riseB (L.drop (k + 1))) := by
  rw [List.drop_eq_getElem_cons (by omega), List.drop_eq_getElem_cons hk]
  rfl
theorem rise_end {L : List Nat} {k : Nat} (hk : L.length ≤ k + 1) : riseB (L.drop k) = true := by
  have : (L.drop k).length ≤ 1 := by rw [List.length_drop]; omega
  cases h : L.drop k with
  | nil => rfl
  | cons a t =>
    cases t with
    | nil => rfl
    | cons b t => rw [h] at this; simp at this
/-- A sketch in a box of its own. -/
theorem box_new (w : World) (v : Value) (T : Nat) : ∃ w1, w.alloc (Obj.cells #[v] T) = w1 ∧ Below w.heap.size w w1 ∧ ∀ W, Below w1.heap.size w1 W → W.cell? ⟨w.heap.size, 0, none⟩ = some v :=
  ⟨_, rfl, (Below.refl w.heap.size w).alloc (Nat.le_refl _) _, fun W hb => (hb.cell (p := ⟨w.heap.size, 0, none⟩) (by simp)).trans (World.cell?_alloc_at _ _ _ _ rfl)⟩
set_option maxHeartbeats 2000000 in
set_option maxRecDepth 100000 in
theorem eRight_any (L : List Nat) (v : Value) (w : World) (h : NumSl w v L) (hn : L.length ≤ 1000) :
    Calls Try.prog 17 #[.agg #[v]] w fun e w' => e = .returned (.bool (rightN L)) ∧ Below w.heap.size w w' := by
  obtain ⟨ao, c, rfl, hc⟩ := h.shape
  obtain ⟨n, hnn⟩ : ∃ n, n = L.length := ⟨_, rfl⟩
  obtain ⟨r, hr⟩ : ∃ r, rightN L = r := ⟨_, rfl⟩
  have HR := Lib.hid hr
  have HC := Lib.hid hc
  have HN := Lib.hid hnn
  rw [hr]
  rw [← hnn] at hn ⊢
  clear hc hnn h hr
  go_enter Try.func17, Try.ntmps17
  go_wp2_with fail
  obtain ⟨w1, hw1, hb1, hbox⟩ := box_new w (.slice ao n c) 24
  rw [hw1]
  have HX := Lib.hid hbox
  have HB := Lib.hid hb1
  clear hbox hw1 hb1
  go_loopw [3] (fun i wr => ∃ k : Nat, (k + 1 ≤ n ∨ k = 0) ∧ i = .int .i64 (k + 1 : Nat) ∧ Hid (riseB (L.drop k) = riseB L) ∧ Below w1.heap.size w1 wr) (fun i _ => n + 1 - (intOf i).toNat)
  case atStart => exact ⟨0, .inr rfl, rfl, rfl, Below.refl _ _⟩
  case round =>
    obtain ⟨k, hk, rfl, hs, hbel⟩ := hrel
    have cb := HX.out wr hbel
    have hbw : Below w.heap.size w wr := HB.out.trans (hbel.mono HB.out.size)
    by_cases hlt : k + 1 < n
    · have hkl : k + 1 < L.length := by have := HN.out; omega
      obtain ⟨g, o, rfl, hc0⟩ := HC.out k (by omega)
      obtain ⟨g', o', he, hc1⟩ := HC.out (k + 1) hkl
      obtain ⟨rfl, rfl⟩ : g = g' ∧ o = o' := by simpa using he
      have c0 := hc0 wr hbw
      have c1 := hc1 wr hbw
      have hst := rise_drop hkl
      obtain ⟨x, hx⟩ : ∃ x, L[k] = x := ⟨_, rfl⟩
      obtain ⟨y, hy⟩ : ∃ y, L[k + 1] = y := ⟨_, rfl⟩
      rw [hx] at c0 hst
      rw [hy] at c1 hst
      have HS := Lib.hid hst
      clear hst hx hy hc0 hc1 he
      by_cases hxy : x < y
      · have hs2 : Hid (riseB (L.drop (k + 1)) = riseB L) := by
          show riseB (L.drop (k + 1)) = riseB L
          rw [← hs.out, HS.out, decide_eq_true hxy, Bool.true_and]
        go_wp2_with fail
        go_quiet (fail)
        have hbel1 : Below w1.heap.size w1 (wr.drewN nq) := bel_drewN hbel _
        clear c0 c1 cb hbel hbw
        go_wp2_with fail
        go_roundw
        case rel => exact ⟨k + 1, by omega, by go_num, hs2, hbel1⟩
        case measure => simp [intOf]; omega
      · have hv : r = false := by
          rw [← HR.out]
          unfold rightN
          rw [← hs.out, HS.out, decide_eq_false hxy]
          rfl
        have HV := Lib.hid hv
        clear hv
        go_wp2_with fail
        go_quiet (fail)
        have hbw1 : Below w.heap.size w (wr.drewN nq) := bel_drewN hbw _
        clear c0 c1 cb hbel hbw
        go_wp2_with fail
        go_ret
        exact ⟨by rw [HV.out]; rfl, hbw1⟩
    · have hv : r = decide ((n : Int) ≤ 64) := by
        rw [← HR.out]
        unfold rightN
        rw [← hs.out, rise_end (by have := HN.out; omega), ← HN.out, Bool.true_and]
        exact decide_eq_decide.2 (by omega)
      have HV := Lib.hid hv
      clear hv
      go_wp2_with fail
      go_ret
      exact ⟨by rw [HV.out]; rfl, hbw⟩
theorem nums_drop (A B : List Nat) (k : Nat) (ha : k < A.length) (hb : k < B.length) : (A.drop k = B.drop k) ↔ (A[k] = B[k] ∧ A.drop (k + 1) = B.drop (k + 1)) := by
  rw [List.drop_eq_getElem_cons ha, List.drop_eq_getElem_cons hb]
  exact List.cons_eq_cons
set_option maxHeartbeats 2000000 in
set_option maxRecDepth 100000 in
theorem eNums_any (A B : List Nat) (va vb : Value) (w : World) (hA : NumSl w va A) (hB : NumSl w vb B) (hna : A.length ≤ 1000) (hnb : B.length ≤ 1000) :
    Calls Try.prog 15 #[va, vb] w fun e w' => e = .returned (.bool (decide (A = B))) ∧ Below w.heap.size w w' := by
  obtain ⟨ao, ca, rfl, hca⟩ := hA.shape
  obtain ⟨bo, cb, rfl, hcb⟩ := hB.shape
  obtain ⟨n, hnn⟩ : ∃ n, n = A.length := ⟨_, rfl⟩
  obtain ⟨m, hmm⟩ : ∃ m, m = B.length := ⟨_, rfl⟩
  have HCA := Lib.hid hca
  have HCB := Lib.hid hcb
  have HN := Lib.hid hnn
  have HM := Lib.hid hmm
  rw [← hnn] at hna ⊢
  rw [← hmm] at hnb ⊢
  by_cases hnm : n = m
  · obtain ⟨r, hr⟩ : ∃ r, decide (A = B) = r := ⟨_, rfl⟩
    have h0 : Hid (decide (A.drop 0 = B.drop 0) = r) := by show decide (A.drop 0 = B.drop 0) = r; rw [List.drop_zero, List.drop_zero, hr]
    rw [hr]
    subst hnm
    clear hca hcb hnn hmm hA hB hr
    go_enter Try.func15, Try.ntmps15
    go_wp2_with fail
    go_loopw [5] (fun i wr => ∃ k : Nat, k ≤ n ∧ i = .int .i64 k ∧ Hid (decide (A.drop k = B.drop k) = r) ∧ Below w.heap.size w wr) (fun i _ => n - (intOf i).toNat)
    case atStart => exact ⟨0, Nat.zero_le _, rfl, h0, Below.refl _ _⟩
    case round =>
      obtain ⟨k, hk, rfl, hs, hbel⟩ := hrel
      by_cases hlt : k < n
      · have hka : k < A.length := by have := HN.out; omega
        have hkb : k < B.length := by have := HM.out; omega
        obtain ⟨g, o, rfl, hc0⟩ := HCA.out k hka
        obtain ⟨g', o', rfl, hc1⟩ := HCB.out k hkb
        have c0 := hc0 wr hbel
        have c1 := hc1 wr hbel
        have hst := nums_drop A B k hka hkb
        obtain ⟨x, hx⟩ : ∃ x, A[k] = x := ⟨_, rfl⟩
        obtain ⟨y, hy⟩ : ∃ y, B[k] = y := ⟨_, rfl⟩
        rw [hx] at c0 hst
        rw [hy] at c1 hst
        have HS := Lib.hid hst
        clear hst hx hy hc0 hc1
        by_cases hxy : x = y
        · have hs2 : Hid (decide (A.drop (k + 1) = B.drop (k + 1)) = r) := by
            show decide (A.drop (k + 1) = B.drop (k + 1)) = r
            rw [← hs.out]
            exact decide_eq_decide.2 ⟨fun h => HS.out.2 ⟨hxy, h⟩, fun h => (HS.out.1 h).2⟩
          have hne : ¬ (x : Int) ≠ (y : Int) := by omega
          subst hxy
          go_wp2_with fail
          go_quiet (fail)
          have hbel1 : Below w.heap.size w (wr.drewN nq) := bel_drewN hbel _
          clear c0 c1 hbel
          go_wp2_with fail
          go_roundw
          case rel => exact ⟨k + 1, by omega, by go_num, hs2, hbel1⟩
          case measure => simp [intOf]; omega
        · have hv : r = false := by
            rw [← hs.out]
            exact decide_eq_false fun h => hxy (HS.out.1 h).1
          have hne : ¬ (x : Int) = (y : Int) := by omega
          have HV := Lib.hid hv
          clear hv
          go_wp2_with fail
          go_quiet (fail)
          have hbel1 : Below w.heap.size w (wr.drewN nq) := bel_drewN hbel _
          clear c0 c1 hbel
          go_wp2_with fail
          go_ret
          exact ⟨by rw [HV.out]; rfl, hbel1⟩
      · have hv : r = true := by
          rw [← hs.out]
          refine decide_eq_true ?_
          rw [List.drop_eq_nil_of_le (by have := HN.out; omega), List.drop_eq_nil_of_le (by have := HM.out; omega)]
        have HV := Lib.hid hv
        clear hv
        go_wp2_with fail
        go_ret
        exact ⟨by rw [HV.out]; rfl, hbel⟩
  · have hv : decide (A = B) = false := decide_eq_false fun h => hnm (by rw [hnn, hmm, h])
    have hne : ¬ (n : Int) = (m : Int) := by omega
    rw [hv]
    clear hca hcb hnn hmm hA hB hv
    go_enter Try.func15, Try.ntmps15
    go_wp2_with fail
    go_ret
    exact ⟨rfl, Below.refl _ _⟩
theorem has_drop {L : List Nat} {k : Nat} (n : Nat) (hk : k < L.length) : decide (n ∈ L.drop k) = (decide (L[k] = n) || decide (n ∈ L.drop (k + 1))) := by
  rw [List.drop_eq_getElem_cons hk, ← Bool.decide_or]
  exact decide_eq_decide.2 ⟨fun h => by rcases List.mem_cons.1 h with h | h; exact .inl h.symm; exact .inr h, fun h => by rcases h with h | h; exact List.mem_cons.2 (.inl h.symm); exact List.mem_cons.2 (.inr h)⟩
set_option maxHeartbeats 2000000 in
set_option maxRecDepth 100000 in
theorem eHas_any (L : List Nat) (x : Nat) (v : Value) (w : World) (h : NumSl w v L) (hn : L.length ≤ 1000) :
    Calls Try.prog 19 #[.agg #[v], nV x] w fun e w' => e = .returned (.bool (hasB L x)) ∧ Below w.heap.size w w' := by
  have R1 := Lib.hid (fun W a h => eRight_any L a W h hn)
  have HV0 := Lib.hid h
  obtain ⟨ao, c, rfl, hc⟩ := h.shape
  obtain ⟨n, hnn⟩ : ∃ n, n = L.length := ⟨_, rfl⟩
  obtain ⟨rr, hrr⟩ : ∃ r, rightN L = r := ⟨_, rfl⟩
  obtain ⟨r, hr⟩ : ∃ r, hasB L x = r := ⟨_, rfl⟩
  rw [hrr] at R1
  have h0 : Hid ((decide (x ∈ L.drop 0) && rr) = r) := by show (decide (x ∈ L.drop 0) && rr) = r; rw [List.drop_zero, ← hr, ← hrr]; rfl
  have HC := Lib.hid hc
  have HN := Lib.hid hnn
  rw [hr]
  rw [← hnn] at hn ⊢
  rw [← hnn] at HV0
  clear hc hnn h hr hrr
  go_enter Try.func19, Try.ntmps19
  go_wp2_with fail
  obtain ⟨w1, hw1, hb1, hbox⟩ := box_new w (.slice ao n c) 24
  rw [hw1]
  have HX := Lib.hid hbox
  have HB := Lib.hid hb1
  clear hbox hw1 hb1
  go_loopw [5] (fun i wr => ∃ k : Nat, k ≤ n ∧ i = .int .i64 k ∧ Hid ((decide (x ∈ L.drop k) && rr) = r) ∧ Below w1.heap.size w1 wr) (fun i _ => n - (intOf i).toNat)
  case atStart => exact ⟨0, Nat.zero_le _, rfl, h0, Below.refl _ _⟩
  case round =>
    obtain ⟨k, hk, rfl, hs, hbel⟩ := hrel
    have cb := HX.out wr hbel
    have hbw : Below w.heap.size w wr := HB.out.trans (hbel.mono HB.out.size)
    by_cases hlt : k < n
    · have hkl : k < L.length := by have := HN.out; omega
      obtain ⟨g, o, rfl, hc0⟩ := HC.out k hkl
      have c0 := hc0 wr hbw
      have hst := has_drop x hkl
      obtain ⟨y, hy⟩ : ∃ y, L[k] = y := ⟨_, rfl⟩
      rw [hy] at c0 hst
      have HS := Lib.hid hst
      clear hst hy hc0
      by_cases hxy : y = x
      · have hv : r = rr := by rw [← hs.out, HS.out, decide_eq_true hxy]; rfl
        have HV := Lib.hid hv
        have hvr := HV0.out.below hbw
        subst hxy
        clear hv
        go_wp2_with fail
        with_reducible refine (R1.out _ _ hvr).mono ?_
        rintro e w2 ⟨rfl, hb⟩
        have hb2 := hbw.trans (hb.mono hbw.size)
        go_wp2_with fail
        go_ret
        exact ⟨by rw [HV.out]; rfl, hb2⟩
      · have hs2 : Hid ((decide (x ∈ L.drop (k + 1)) && rr) = r) := by
          show (decide (x ∈ L.drop (k + 1)) && rr) = r
          rw [← hs.out, HS.out, decide_eq_false hxy, Bool.false_or]
        have hne : ¬ (y : Int) = (x : Int) := by omega
        go_wp2_with fail
        go_roundw
        case rel => exact ⟨k + 1, by omega, by go_num, hs2, hbel⟩
        case measure => simp [intOf]; omega
    · have hv : r = false := by
        rw [← hs.out, List.drop_eq_nil_of_le (by have := HN.out; omega)]
        rfl
      have HV := Lib.hid hv
      clear hv
      go_wp2_with fail
      go_ret
      exact ⟨by rw [HV.out]; rfl, hbw⟩
end Go.Proofs.Ytncjbbgenngegaa
