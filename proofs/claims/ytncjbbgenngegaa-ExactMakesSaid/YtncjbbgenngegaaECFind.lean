/- Package exact: Same; a place in a sketch (slices.BinarySearch); Has, Count. -/
import Derived.Test.YtncjbbgenngegaaECCheck
namespace Go.Proofs.Ytncjbbgenngegaa
open Go.RowKit Go.Shelf

set_option maxHeartbeats 2000000 in
set_option maxRecDepth 100000 in
theorem xSame0_any (A B : List Nat) (va vb : Value) (w : World) (hA : NumSl w va A) (hB : NumSl w vb B) (hna : A.length ≤ 1000) (hnb : B.length ≤ 1000) :
    Calls Try.prog 33 #[va, vb] w fun e w' => e = .returned (.bool (decide (A = B))) ∧ Below w.heap.size w w' := by
  obtain ⟨ao, ca, rfl, hca⟩ := hA.shape
  obtain ⟨bo, cb, rfl, hcb⟩ := hB.shape
  obtain ⟨n, hnn⟩ : ∃ n, n = A.length := ⟨_, rfl⟩
  obtain ⟨m, hmm⟩ : ∃ m, m = B.length := ⟨_, rfl⟩
  have HCA := Lib.hid hca
  have HCB := Lib.hid hcb
  have HN := Lib.hid hnn
  have HM := Lib.hid hmm
  rw [← hnn] at hna ⊢
  rw [← hmm] at hnb ⊢
  by_cases hnm : n = m
  · obtain ⟨r, hr⟩ : ∃ r, decide (A = B) = r := ⟨_, rfl⟩
    have h0 : Hid (decide (A.drop 0 = B.drop 0) = r) := by show decide (A.drop 0 = B.drop 0) = r; rw [List.drop_zero, List.drop_zero, hr]
    rw [hr]
    subst hnm
    clear hca hcb hnn hmm hA hB hr
    go_enter Try.func33, Try.ntmps33
    go_wp2_with fail
    go_loopw [13] (fun i wr => ∃ k : Nat, k ≤ n ∧ i = .int .i64 k ∧ Hid (decide (A.drop k = B.drop k) = r) ∧ Below w.heap.size w wr) (fun i _ => n - (intOf i).toNat)
    case atStart => exact ⟨0, Nat.zero_le _, rfl, h0, Below.refl _ _⟩
    case round =>
      obtain ⟨k, hk, rfl, hs, hbel⟩ := hrel
      by_cases hlt : k < n
      · have hka : k < A.length := by have := HN.out; omega
        have hkb : k < B.length := by have := HM.out; omega
        obtain ⟨g, o, rfl, hc0⟩ := HCA.out k hka
        obtain ⟨g', o', rfl, hc1⟩ := HCB.out k hkb
        have c0 := hc0 wr hbel
        have c1 := hc1 wr hbel
        have hst := nums_drop A B k hka hkb
        obtain ⟨x, hx⟩ : ∃ x, A[k] = x := ⟨_, rfl⟩
        obtain ⟨y, hy⟩ : ∃ y, B[k] = y := ⟨_, rfl⟩
        rw [hx] at c0 hst
        rw [hy] at c1 hst
        have HS := Lib.hid hst
        clear hst hx hy hc0 hc1
        by_cases hxy : x = y
        · have hs2 : Hid (decide (A.drop (k + 1) = B.drop (k + 1)) = r) := by
            show decide (A.drop (k + 1) = B.drop (k + 1)) = r
            rw [← hs.out]
            exact decide_eq_decide.2 ⟨fun h => HS.out.2 ⟨hxy, h⟩, fun h => (HS.out.1 h).2⟩
          have hne : ¬ (x : Int) ≠ (y : Int) := by omega
          subst hxy
          go_wp2_with fail
          go_quiet (fail)
          have hbel1 : Below w.heap.size w (wr.drewN nq) := bel_drewN hbel _
          clear c0 c1 hbel
          go_wp2_with fail
          go_roundw
          case rel => exact ⟨k + 1, by omega, by go_num, hs2, hbel1⟩
          case measure => simp [intOf]; omega
        · have hv : r = false := by
            rw [← hs.out]
            exact decide_eq_false fun h => hxy (HS.out.1 h).1
          have hne : ¬ (x : Int) = (y : Int) := by omega
          have HV := Lib.hid hv
          clear hv
          go_wp2_with fail
          go_quiet (fail)
          have hbel1 : Below w.heap.size w (wr.drewN nq) := bel_drewN hbel _
          clear c0 c1 hbel
          go_wp2_with fail
          go_ret
          exact ⟨by rw [HV.out]; rfl, hbel1⟩
      · have hv : r = true := by
          rw [← hs.out]
          refine decide_eq_true ?_
          rw [List.drop_eq_nil_of_le (by have := HN.out; omega), List.drop_eq_nil_of_le (by have := HM.out; omega)]
        have HV := Lib.hid hv
        clear hv
        go_wp2_with fail
        go_ret
        exact ⟨by rw [HV.out]; rfl, hbel⟩
  · have hv : decide (A = B) = false := decide_eq_false fun h => hnm (by rw [hnn, hmm, h])
    have hne : ¬ (n : Int) = (m : Int) := by omega
    rw [hv]
    clear hca hcb hnn hmm hA hB hv
    go_enter Try.func33, Try.ntmps33
    go_wp2_with fail
    go_ret
    exact ⟨rfl, Below.refl _ _⟩
set_option maxHeartbeats 2000000 in
set_option maxRecDepth 100000 in
theorem xSame_any (A B : List Nat) (va vb : Value) (w : World) (hA : NumSl w va A) (hB : NumSl w vb B) (hna : A.length ≤ 900) (hnb : B.length ≤ 900) :
    Calls Try.prog 22 #[.agg #[va], .agg #[vb]] w fun e w' => e = .returned (.bool (decide (A = B))) ∧ Below w.heap.size w w' := by
  have hb := ((Below.refl w.heap.size w).alloc (Nat.le_refl _) (.cells #[va] 24)).alloc (by simp) (.cells #[vb] 24)
  have S := Lib.hid (xSame0_any A B va vb _ (hA.below hb) (hB.below hb) (by omega) (by omega))
  have HB := Lib.hid hb
  obtain ⟨ao, ca, rfl, _⟩ := hA.shape
  obtain ⟨bo, cb, rfl, _⟩ := hB.shape
  obtain ⟨n, hnn⟩ : ∃ n, n = A.length := ⟨_, rfl⟩
  obtain ⟨m, hmm⟩ : ∃ m, m = B.length := ⟨_, rfl⟩
  rw [← hnn, ← hmm] at S HB ⊢
  clear hA hB hnn hmm hna hnb hb
  go_enter Try.func22, Try.ntmps22
  go_wp2_with fail
  with_reducible refine (S.out).mono ?_
  rintro e w2 ⟨rfl, hb⟩
  go_wp2_with fail
  go_ret
  exact ⟨rfl, HB.out.trans (hb.mono HB.out.size)⟩

set_option maxRecDepth 100000 in
theorem isNaN1_any (x : Nat) (w : World) : Calls Try.prog 40 #[nV x] w fun e w' => e = .returned (.bool false) ∧ w = w' := by
  go_enter Try.func40, Try.ntmps40
  go_wp2
  go_ret
  exact ⟨rfl, rfl⟩
set_option maxRecDepth 100000 in
theorem isNaN2_any (x : Nat) (w : World) : Calls Try.prog 38 #[nV x] w fun e w' => e = .returned (.bool false) ∧ w = w' := by
  go_enter Try.func38, Try.ntmps38
  go_wp2
  go_ret
  exact ⟨rfl, rfl⟩
set_option maxRecDepth 100000 in
theorem less_any (x y : Nat) (w : World) : Calls Try.prog 37 #[nV x, nV y] w fun e w' => e = .returned (.bool (decide (x < y))) ∧ w = w' := by
  go_enter Try.func37, Try.ntmps37
  go_wp2
  go_ret
  exact ⟨rfl, rfl⟩
/-- All before place k are less than x. -/
def LoB (L : List Nat) (x k : Nat) : Prop := ∀ j (hj : j < L.length), j < k → L[j] < x
/-- None from place k on is less than x. -/
def HiB (L : List Nat) (x k : Nat) : Prop := ∀ j (hj : j < L.length), k ≤ j → x ≤ L[j]
theorem rise_at : ∀ {L : List Nat}, riseB L = true → ∀ i j (hi : i < L.length) (hj : j < L.length), i < j → L[i] < L[j] := by
  intro L
  induction L with
  | nil => intro _ i j hi; exact absurd hi (by simp)
  | cons a t ih =>
    intro h i j hi hj hij
    cases j with
    | zero => omega
    | succ j =>
      cases i with
      | zero => exact rise_lt h _ (List.getElem_mem _)
      | succ i => exact ih (rise_tail h) i j (by simpa using hi) (by simpa using hj) (by omega)
theorem lo_step {L : List Nat} (h : riseB L = true) {x k : Nat} (hk : k < L.length) (hx : L[k] < x) : LoB L x (k + 1) := fun j hj hjk => by
  rcases Nat.lt_or_ge j k with hl | hl
  · exact Nat.lt_trans (rise_at h j k hj hk hl) hx
  · obtain rfl : j = k := by omega
    exact hx
theorem hi_step {L : List Nat} (h : riseB L = true) {x k : Nat} (hk : k < L.length) (hx : ¬ L[k] < x) : HiB L x k := fun j hj hjk => by
  rcases Nat.lt_or_ge k j with hl | hl
  · have := rise_at h k j hk hj hl; omega
  · obtain rfl : j = k := by omega
    omega
theorem find_mem {L : List Nat} {x p : Nat} (hlo : LoB L x p) (hhi : HiB L x p) (hr : riseB L = true) (hp : p < L.length) : x ∈ L ↔ L[p] = x := by
  constructor
  · intro h
    obtain ⟨j, hj, e⟩ := List.mem_iff_getElem.1 h
    rcases Nat.lt_trichotomy j p with hl | rfl | hl
    · have := hlo j hj hl; omega
    · exact e
    · have := rise_at hr p j hp hj hl; have := hhi p hp (Nat.le_refl _); omega
  · rintro rfl
    exact List.getElem_mem hp
set_option maxHeartbeats 2000000 in
set_option maxRecDepth 100000 in
theorem find_any (L : List Nat) (x : Nat) (v : Value) (w : World) (hL : NumSl w v L) (hr : riseB L = true) (hn : L.length ≤ 1000) :
    Calls Try.prog 32 #[v, nV x] w fun e w' => (∃ p : Nat, e = .returned (.tuple #[.int .i64 (p : Int), .bool (decide (x ∈ L))]) ∧ p ≤ L.length ∧ LoB L x p ∧ HiB L x p) ∧ Below w.heap.size w w' := by
  obtain ⟨ao, c, rfl, hc⟩ := hL.shape
  obtain ⟨n, hnn⟩ : ∃ n, n = L.length := ⟨_, rfl⟩
  have HC := Lib.hid hc
  have HN := Lib.hid hnn
  have HR := Lib.hid hr
  rw [← hnn] at hn ⊢
  clear hc hnn hr hL
  go_enter Try.func32, Try.ntmps32
  go_wp2_with fail
  go_loopw [7, 8] (fun i j wr => ∃ a b : Nat, a ≤ b ∧ b ≤ n ∧ i = .int .i64 a ∧ j = .int .i64 b ∧ Hid (LoB L x a) ∧ Hid (HiB L x b) ∧ wr = w) (fun i j _ => (intOf j).toNat - (intOf i).toNat)
  case atStart => exact ⟨0, n, Nat.zero_le _, Nat.le_refl _, rfl, rfl, fun j hj h => by omega, fun j hj h => by have := HN.out; omega, rfl⟩
  case round =>
    obtain ⟨a, b, hab, hbn, rfl, rfl, hlo, hhi, rfl⟩ := hrel
    by_cases hlt : a < b
    · have hlt' : (a : Int) < b := by omega
      obtain ⟨k, hk⟩ : ∃ k, k = (a + b) / 2 := ⟨_, rfl⟩
      have hd : ((a : Int) + b) / 2 = (k : Int) := by omega
      have hka : a ≤ k := by omega
      have hkb : k < b := by omega
      have hkL : k < L.length := by have := HN.out; omega
      obtain ⟨g, o, rfl, hc0⟩ := HC.out k hkL
      have c0 := hc0 wr (Below.refl _ _)
      obtain ⟨y, hy⟩ : ∃ y, L[k] = y := ⟨_, rfl⟩
      rw [hy] at c0
      have HY := Lib.hid hy
      clear hk hc0 hy
      go_wp2_with fail
      with_reducible refine (less_any y x wr).mono ?_
      rintro e w2 ⟨rfl, rfl⟩
      by_cases hyx : y < x
      · have hs : Hid (LoB L x (k + 1)) := lo_step HR.out hkL (by rw [HY.out]; exact hyx)
        rw [decide_eq_true hyx]
        go_wp2_with fail
        go_roundw
        case rel => exact ⟨k + 1, b, by omega, hbn, by go_num, rfl, hs, hhi, trivial⟩
        case measure => simp [intOf]; omega
      · have hs : Hid (HiB L x k) := hi_step HR.out hkL (by rw [HY.out]; exact hyx)
        rw [decide_eq_false hyx]
        go_wp2_with fail
        go_roundw
        case rel => exact ⟨a, k, hka, by omega, rfl, rfl, hlo, hs, trivial⟩
        case measure => simp [intOf]; omega
    · obtain rfl : a = b := by omega
      by_cases han : a < n
      · have haL : a < L.length := by have := HN.out; omega
        obtain ⟨g, o, rfl, hc0⟩ := HC.out a haL
        have c0 := hc0 wr (Below.refl _ _)
        have hm := find_mem hlo.out hhi.out HR.out haL
        obtain ⟨y, hy⟩ : ∃ y, L[a] = y := ⟨_, rfl⟩
        rw [hy] at c0 hm
        have HMM := Lib.hid hm
        clear hc0 hy hm
        by_cases hyx : y = x
        · subst hyx
          have hq : decide (y ∈ L) = true := decide_eq_true (HMM.out.2 rfl)
          have HQ := Lib.hid hq
          clear hq
          go_wp2_with fail
          go_ret2
          exact ⟨⟨a, by rw [HQ.out]; rfl, by omega, hlo.out, hhi.out⟩, Below.refl _ _⟩
        · have hq : decide (x ∈ L) = false := decide_eq_false fun h => hyx (HMM.out.1 h)
          have hyx' : ((y : Int) == (x : Int)) = false := by simp; omega
          have HQ := Lib.hid hq
          clear hq
          go_wp2_with fail
          with_reducible refine (isNaN2_any y wr).mono ?_
          rintro e w2 ⟨rfl, rfl⟩
          go_wp2_with fail
          go_ret2
          exact ⟨⟨a, by rw [HQ.out]; rfl, by omega, hlo.out, hhi.out⟩, Below.refl _ _⟩
      · obtain rfl : a = n := by omega
        have hq : decide (x ∈ L) = false := decide_eq_false fun h => by
          obtain ⟨j, hj, e⟩ := List.mem_iff_getElem.1 h
          have := hlo.out j hj (by have := HN.out; omega)
          omega
        have HQ := Lib.hid hq
        clear hq
        go_wp2_with fail
        go_ret2
        exact ⟨⟨a, by rw [HQ.out]; rfl, Nat.le_refl _, hlo.out, hhi.out⟩, Below.refl _ _⟩
end Go.Proofs.Ytncjbbgenngegaa
