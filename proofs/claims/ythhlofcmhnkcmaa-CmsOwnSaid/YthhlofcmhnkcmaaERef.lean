
/- The page's own answers for layer 6: Right, Has, Count, Numbers. -/
import Derived.Test.YthhlofcmhnkcmaaEBase
namespace Go.Proofs.Ythhlofcmhnkcmaa
open Go.RowKit

theorem rise_drop {L : List Nat} {k : Nat} (hk : k + 1 < L.length) : riseB (L.drop k) = (decide (L[k] < L[k + 1]) && riseB (L.drop (k + 1))) := by
  rw [List.drop_eq_getElem_cons (by omega), List.drop_eq_getElem_cons hk]
  rfl
theorem rise_end {L : List Nat} {k : Nat} (hk : L.length ≤ k + 1) : riseB (L.drop k) = true := by
  have : (L.drop k).length ≤ 1 := by rw [List.length_drop]; omega
  cases h : L.drop k with
  | nil => rfl
  | cons a t =>
    cases t with
    | nil => rfl
    | cons b t => rw [h] at this; simp at this
/-- A sketch in a box of its own. -/
theorem box_new (w : World) (v : Value) (T : Nat) : ∃ w1, w.alloc (Obj.cells #[v] T) = w1 ∧ Below w.heap.size w w1 ∧ ∀ W, Below w1.heap.size w1 W → W.cell? ⟨w.heap.size, 0, none⟩ = some v :=
  ⟨_, rfl, (Below.refl w.heap.size w).alloc (Nat.le_refl _) _, fun W hb => (hb.cell (p := ⟨w.heap.size, 0, none⟩) (by simp)).trans (World.cell?_alloc_at _ _ _ _ rfl)⟩
theorem nums_drop (A B : List Nat) (k : Nat) (ha : k < A.length) (hb : k < B.length) : (A.drop k = B.drop k) ↔ (A[k] = B[k] ∧ A.drop (k + 1) = B.drop (k + 1)) := by
  rw [List.drop_eq_getElem_cons ha, List.drop_eq_getElem_cons hb]
  exact List.cons_eq_cons
set_option maxHeartbeats 2000000 in
set_option maxRecDepth 100000 in
theorem eNums_any (A B : List Nat) (va vb : Value) (w : World) (hA : NumSl w va A) (hB : NumSl w vb B) (hna : A.length ≤ 1000) (hnb : B.length ≤ 1000) :
    Calls Try.prog 36 #[va, vb] w fun e w' => e = .returned (.bool (decide (A = B))) ∧ Below w.heap.size w w' := by
  obtain ⟨ao, ca, rfl, hca⟩ := hA.shape
  obtain ⟨bo, cb, rfl, hcb⟩ := hB.shape
  obtain ⟨n, hnn⟩ : ∃ n, n = A.length := ⟨_, rfl⟩
  obtain ⟨m, hmm⟩ : ∃ m, m = B.length := ⟨_, rfl⟩
  have HCA := Lib.hid hca
  have HCB := Lib.hid hcb
  have HN := Lib.hid hnn
  have HM := Lib.hid hmm
  rw [← hnn] at hna ⊢
  rw [← hmm] at hnb ⊢
  by_cases hnm : n = m
  · obtain ⟨r, hr⟩ : ∃ r, decide (A = B) = r := ⟨_, rfl⟩
    have h0 : Hid (decide (A.drop 0 = B.drop 0) = r) := by show decide (A.drop 0 = B.drop 0) = r; rw [List.drop_zero, List.drop_zero, hr]
    rw [hr]
    subst hnm
    clear hca hcb hnn hmm hA hB hr
    go_enter Try.func36, Try.ntmps36
    go_wp2_with fail
    go_loopw [5] (fun i wr => ∃ k : Nat, k ≤ n ∧ i = .int .i64 k ∧ Hid (decide (A.drop k = B.drop k) = r) ∧ Below w.heap.size w wr) (fun i _ => n - (intOf i).toNat)
    case atStart => exact ⟨0, Nat.zero_le _, rfl, h0, Below.refl _ _⟩
    case round =>
      obtain ⟨k, hk, rfl, hs, hbel⟩ := hrel
      by_cases hlt : k < n
      · have hka : k < A.length := by have := HN.out; omega
        have hkb : k < B.length := by have := HM.out; omega
        obtain ⟨g, o, rfl, hc0⟩ := HCA.out k hka
        obtain ⟨g', o', rfl, hc1⟩ := HCB.out k hkb
        have c0 := hc0 wr hbel
        have c1 := hc1 wr hbel
        have hst := nums_drop A B k hka hkb
        obtain ⟨x, hx⟩ : ∃ x, A[k] = x := ⟨_, rfl⟩
        obtain ⟨y, hy⟩ : ∃ y, B[k] = y := ⟨_, rfl⟩
        rw [hx] at c0 hst
        rw [hy] at c1 hst
        have HS := Lib.hid hst
        clear hst hx hy hc0 hc1
        by_cases hxy : x = y
        · have hs2 : Hid (decide (A.drop (k + 1) = B.drop (k + 1)) = r) := by
            show decide (A.drop (k + 1) = B.drop (k + 1)) = r
            rw [← hs.out]
            exact decide_eq_decide.2 ⟨fun h => HS.out.2 ⟨hxy, h⟩, fun h => (HS.out.1 h).2⟩
          have hne : ¬ (x : Int) ≠ (y : Int) := by omega
          subst hxy
          go_wp2_with fail
          go_quiet (fail)
          have hbel1 : Below w.heap.size w (wr.drewN nq) := bel_drewN hbel _
          clear c0 c1 hbel
          go_wp2_with fail
          go_roundw
          case rel => exact ⟨k + 1, by omega, by go_num, hs2, hbel1⟩
          case measure => simp [intOf]; omega
        · have hv : r = false := by
            rw [← hs.out]
            exact decide_eq_false fun h => hxy (HS.out.1 h).1
          have hne : ¬ (x : Int) = (y : Int) := by omega
          have HV := Lib.hid hv
          clear hv
          go_wp2_with fail
          go_quiet (fail)
          have hbel1 : Below w.heap.size w (wr.drewN nq) := bel_drewN hbel _
          clear c0 c1 hbel
          go_wp2_with fail
          go_ret
          exact ⟨by rw [HV.out]; rfl, hbel1⟩
      · have hv : r = true := by
          rw [← hs.out]
          refine decide_eq_true ?_
          rw [List.drop_eq_nil_of_le (by have := HN.out; omega), List.drop_eq_nil_of_le (by have := HM.out; omega)]
        have HV := Lib.hid hv
        clear hv
        go_wp2_with fail
        go_ret
        exact ⟨by rw [HV.out]; rfl, hbel⟩
  · have hv : decide (A = B) = false := decide_eq_false fun h => hnm (by rw [hnn, hmm, h])
    have hne : ¬ (n : Int) = (m : Int) := by omega
    rw [hv]
    clear hca hcb hnn hmm hA hB hv
    go_enter Try.func36, Try.ntmps36
    go_wp2_with fail
    go_ret
    exact ⟨rfl, Below.refl _ _⟩
theorem has_drop {L : List Nat} {k : Nat} (n : Nat) (hk : k < L.length) : decide (n ∈ L.drop k) = (decide (L[k] = n) || decide (n ∈ L.drop (k + 1))) := by
  rw [List.drop_eq_getElem_cons hk, ← Bool.decide_or]
  exact decide_eq_decide.2 ⟨fun h => by rcases List.mem_cons.1 h with h | h; exact .inl h.symm; exact .inr h, fun h => by rcases h with h | h; exact List.mem_cons.2 (.inl h.symm); exact List.mem_cons.2 (.inr h)⟩
end Go.Proofs.Ythhlofcmhnkcmaa
