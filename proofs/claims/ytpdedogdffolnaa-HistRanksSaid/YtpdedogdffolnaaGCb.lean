/- Package hist: its iterators over lists: numbers, ints, bins, histograms. Package hist: what is wrong with buckets in a list. Package hist: what is wrong with histograms: check. Package hist: check of one, of two; Right. slices.Equal over bins; package hist: Same. Package hist: together: how many all numbers come to, saturated. -/
import Derived.Test.YtpdedogdffolnaaGCa
import Derived.Test.YtpdedogdffolnaaHRange
import Derived.Test.YtpdedogdffolnaaHeldIn
namespace Go.Proofs.Ytpdedogdffolnaa
open Go.RowKit Go.Shelf
attribute [local go_sem] Oper.semAt_some

/-- A list of numbers below a block. -/
def GNmAt (n0 : Nat) (ao : Option Addr) (L : List Nat) (w : World) : Prop :=
  ∀ j (hj : j < L.length), ∃ g o, ao = some ⟨g, o, none⟩ ∧ g < n0 ∧ w.cell? ⟨g, o + j, none⟩ = some (gV L[j])
theorem GNmAt.below {n0 : Nat} {ao : Option Addr} {L : List Nat} {w W : World} (h : GNmAt n0 ao L w) (hb : Below n0 w W) : GNmAt n0 ao L W := fun j hj => by
  obtain ⟨g, o, h1, h2, h3⟩ := h j hj
  exact ⟨g, o, h1, h2, (hb.cell (p := ⟨g, o + j, none⟩) h2).trans h3⟩
def encGNm (x : Nat) : Array Value := #[gV x]
theorem GNm_it (Bk n0 : Nat) (ao : Option Addr) (c : Nat) (L : List Nat) (hn1 : L.length ≤ 1000) :
    IterOk 65 #[.pointer (some ⟨Bk, 0, none⟩)] encGNm L (fun W => W.cell? ⟨Bk, 0, none⟩ = some (.slice ao L.length c) ∧ GNmAt n0 ao L W) := by
  intro n hn l J Jx _ hJb hY W h0
  show CallsIn Fence.wide n Try.prog 65 #[.func (.yield l) #[] #[], .pointer (some ⟨Bk, 0, none⟩)] W _
  obtain ⟨m, hm⟩ : ∃ m, m = L.length := ⟨_, rfl⟩
  have HM := Lib.hid hm
  have hb00 := (hJb 0 W h0).1
  rw [← hm] at hb00
  have HJ := Lib.hid hJb
  have HY := Lib.hid hY
  rw [← hm]
  rw [← hm] at hn1
  clear hm hJb hY
  refine callsIn_of_wp Try.func65 rfl trivial ?_ rfl
  simp only [Try.ntmps65, List.size_toArray, List.length_cons, List.length_nil, Nat.reduceAdd, Nat.reduceSub, Array.replicate_succ, Array.replicate_zero, List.push_toArray, List.append_toArray, List.nil_append, List.cons_append]
  gi_wp2
  gi_loopw [7] (fun i wr => ∃ k : Nat, k ≤ m ∧ i = .int .i64 k ∧ J k wr) (fun i wr => m - (intOf i).toNat)
  case atStart => exact ⟨0, Nat.zero_le _, rfl, h0⟩
  case round =>
    obtain ⟨k, hk, rfl, hJ⟩ := hrel
    obtain ⟨hBk, hC⟩ := HJ.out k wr hJ
    by_cases hlt : k < m
    · have hkl : k < L.length := by have := HM.out; omega
      obtain ⟨g, o, rfl, hg, hc1⟩ := hC k hkl
      obtain ⟨fn, tmps, assign, body, hy, hR⟩ := HY.out k hkl wr hJ
      obtain ⟨x, hx⟩ : ∃ x : Nat, x = L[k] := ⟨_, rfl⟩
      rw [← hx] at hc1 hy
      have hBk' : wr.cell? ⟨Bk, 0, none⟩ = some (.slice (some ⟨g, o, none⟩) m c) := by
        rw [HM.out]
        exact hBk
      clear hx hb00 hBk hC
      dsimp only [encGNm] at hy
      gi_wp2
      refine hR.mono ?_
      rintro e W3 (⟨rfl, hJ3⟩ | ⟨rfl, hJx3⟩)
      · gi_wp2
        go_roundw
        case rel => exact ⟨k + 1, by omega, by go_num, hJ3⟩
        case measure => simp [intOf]; omega
      · gi_wp2
        refine bodyPost_ret (results_none rfl _ _ _) rfl ?_
        exact ⟨⟨_, rfl⟩, .inr hJx3⟩
    · obtain rfl : k = m := by omega
      gi_wp2
      go_end0
      exact ⟨⟨_, rfl⟩, .inl hJ⟩
theorem GNm_each (ao : Option Addr) (n c : Nat) (w : World) :
    Calls Try.prog 60 #[.slice ao n c] w fun e w' => e = .returned (.func (.func 65) #[] #[.pointer (some ⟨w.heap.size, 0, none⟩)]) ∧ w' = w.alloc (.cells #[.slice ao n c] 50) := by
  go_enter Try.func60, Try.ntmps60
  go_wp2
  go_ret
  exact ⟨rfl, rfl⟩
/-- A list of whole numbers below a block. -/
def GInAt (n0 : Nat) (ao : Option Addr) (L : List Int) (w : World) : Prop :=
  ∀ j (hj : j < L.length), ∃ g o, ao = some ⟨g, o, none⟩ ∧ g < n0 ∧ w.cell? ⟨g, o + j, none⟩ = some (Value.int .i64 L[j])
theorem GInAt.below {n0 : Nat} {ao : Option Addr} {L : List Int} {w W : World} (h : GInAt n0 ao L w) (hb : Below n0 w W) : GInAt n0 ao L W := fun j hj => by
  obtain ⟨g, o, h1, h2, h3⟩ := h j hj
  exact ⟨g, o, h1, h2, (hb.cell (p := ⟨g, o + j, none⟩) h2).trans h3⟩
def encGIn (x : Int) : Array Value := #[Value.int .i64 x]
theorem GIn_it (Bk n0 : Nat) (ao : Option Addr) (c : Nat) (L : List Int) (hn1 : L.length ≤ 1000) :
    IterOk 70 #[.pointer (some ⟨Bk, 0, none⟩)] encGIn L (fun W => W.cell? ⟨Bk, 0, none⟩ = some (.slice ao L.length c) ∧ GInAt n0 ao L W) := by
  intro n hn l J Jx _ hJb hY W h0
  show CallsIn Fence.wide n Try.prog 70 #[.func (.yield l) #[] #[], .pointer (some ⟨Bk, 0, none⟩)] W _
  obtain ⟨m, hm⟩ : ∃ m, m = L.length := ⟨_, rfl⟩
  have HM := Lib.hid hm
  have hb00 := (hJb 0 W h0).1
  rw [← hm] at hb00
  have HJ := Lib.hid hJb
  have HY := Lib.hid hY
  rw [← hm]
  rw [← hm] at hn1
  clear hm hJb hY
  refine callsIn_of_wp Try.func70 rfl trivial ?_ rfl
  simp only [Try.ntmps70, List.size_toArray, List.length_cons, List.length_nil, Nat.reduceAdd, Nat.reduceSub, Array.replicate_succ, Array.replicate_zero, List.push_toArray, List.append_toArray, List.nil_append, List.cons_append]
  gi_wp2
  gi_loopw [7] (fun i wr => ∃ k : Nat, k ≤ m ∧ i = .int .i64 k ∧ J k wr) (fun i wr => m - (intOf i).toNat)
  case atStart => exact ⟨0, Nat.zero_le _, rfl, h0⟩
  case round =>
    obtain ⟨k, hk, rfl, hJ⟩ := hrel
    obtain ⟨hBk, hC⟩ := HJ.out k wr hJ
    by_cases hlt : k < m
    · have hkl : k < L.length := by have := HM.out; omega
      obtain ⟨g, o, rfl, hg, hc1⟩ := hC k hkl
      obtain ⟨fn, tmps, assign, body, hy, hR⟩ := HY.out k hkl wr hJ
      obtain ⟨x, hx⟩ : ∃ x : Int, x = L[k] := ⟨_, rfl⟩
      rw [← hx] at hc1 hy
      have hBk' : wr.cell? ⟨Bk, 0, none⟩ = some (.slice (some ⟨g, o, none⟩) m c) := by
        rw [HM.out]
        exact hBk
      clear hx hb00 hBk hC
      dsimp only [encGIn] at hy
      gi_wp2
      refine hR.mono ?_
      rintro e W3 (⟨rfl, hJ3⟩ | ⟨rfl, hJx3⟩)
      · gi_wp2
        go_roundw
        case rel => exact ⟨k + 1, by omega, by go_num, hJ3⟩
        case measure => simp [intOf]; omega
      · gi_wp2
        refine bodyPost_ret (results_none rfl _ _ _) rfl ?_
        exact ⟨⟨_, rfl⟩, .inr hJx3⟩
    · obtain rfl : k = m := by omega
      gi_wp2
      go_end0
      exact ⟨⟨_, rfl⟩, .inl hJ⟩
theorem GIn_each (ao : Option Addr) (n c : Nat) (w : World) :
    Calls Try.prog 67 #[.slice ao n c] w fun e w' => e = .returned (.func (.func 70) #[] #[.pointer (some ⟨w.heap.size, 0, none⟩)]) ∧ w' = w.alloc (.cells #[.slice ao n c] 108) := by
  go_enter Try.func67, Try.ntmps67
  go_wp2
  go_ret
  exact ⟨rfl, rfl⟩
/-- A list of bins below a block. -/
def GBnAt (n0 : Nat) (ao : Option Addr) (L : List Bn) (w : World) : Prop :=
  ∀ j (hj : j < L.length), ∃ g o, ao = some ⟨g, o, none⟩ ∧ g < n0 ∧ w.cell? ⟨g, o + j * 2, none⟩ = some (.int .i64 L[j].1) ∧ w.cell? ⟨g, o + j * 2 + 1, none⟩ = some (gV L[j].2)
theorem GBnAt.below {n0 : Nat} {ao : Option Addr} {L : List Bn} {w W : World} (h : GBnAt n0 ao L w) (hb : Below n0 w W) : GBnAt n0 ao L W := fun j hj => by
  obtain ⟨g, o, h1, h2, h3, h4⟩ := h j hj
  exact ⟨g, o, h1, h2, (hb.cell (p := ⟨g, o + j * 2, none⟩) h2).trans h3, (hb.cell (p := ⟨g, o + j * 2 + 1, none⟩) h2).trans h4⟩
def encGBn (x : Bn) : Array Value := #[.agg #[.int .i64 x.1, gV x.2]]
theorem GBn_it (Bk n0 : Nat) (ao : Option Addr) (c : Nat) (L : List Bn) (hn1 : L.length ≤ 1000) :
    IterOk 64 #[.pointer (some ⟨Bk, 0, none⟩)] encGBn L (fun W => W.cell? ⟨Bk, 0, none⟩ = some (.slice ao L.length c) ∧ GBnAt n0 ao L W) := by
  intro n hn l J Jx hJB hJb hY W h0
  show CallsIn Fence.wide n Try.prog 64 #[.func (.yield l) #[] #[], .pointer (some ⟨Bk, 0, none⟩)] W _
  obtain ⟨m, hm⟩ : ∃ m, m = L.length := ⟨_, rfl⟩
  have HM := Lib.hid hm
  have hb00 := (hJb 0 W h0).1
  rw [← hm] at hb00
  have HJ := Lib.hid hJb
  have HJB := Lib.hid hJB
  have HY := Lib.hid hY
  rw [← hm]
  rw [← hm] at hn1
  clear hm hJb hY hJB
  refine callsIn_of_wp Try.func64 rfl trivial ?_ rfl
  simp only [Try.ntmps64, List.size_toArray, List.length_cons, List.length_nil, Nat.reduceAdd, Nat.reduceSub, Array.replicate_succ, Array.replicate_zero, List.push_toArray, List.append_toArray, List.nil_append, List.cons_append]
  gi_wp2
  gi_loopw [7] (fun i wr => ∃ k : Nat, k ≤ m ∧ i = .int .i64 k ∧ J k wr) (fun i wr => m - (intOf i).toNat)
  case atStart => exact ⟨0, Nat.zero_le _, rfl, h0⟩
  case round =>
    obtain ⟨k, hk, rfl, hJ⟩ := hrel
    obtain ⟨hBk, hC⟩ := HJ.out k wr hJ
    by_cases hlt : k < m
    · have hkl : k < L.length := by have := HM.out; omega
      obtain ⟨g, o, rfl, hg, hc1, hc2⟩ := hC k hkl
      have hJ2 := HJB.out k wr _ hJ ((Below.refl _ wr).alloc (Nat.le_refl _) (.cells #[.int .i64 L[k].1, gV L[k].2] 68))
      obtain ⟨fn, tmps, assign, body, hy, hR⟩ := HY.out k hkl _ hJ2
      obtain ⟨x, hx⟩ : ∃ x : Bn, x = L[k] := ⟨_, rfl⟩
      dsimp only [encGBn] at hy
      rw [← hx] at hy hR hc1 hc2
      obtain ⟨x1, x2⟩ := x
      dsimp only at hy hR hc1 hc2
      have hBk' : wr.cell? ⟨Bk, 0, none⟩ = some (.slice (some ⟨g, o, none⟩) m c) := by
        rw [HM.out]
        exact hBk
      have HRR := Lib.hid hR
      clear hx hb00 hBk hC hJ2 hR
      gi_wp2
      refine HRR.out.mono ?_
      rintro e W3 (⟨rfl, hJ3⟩ | ⟨rfl, hJx3⟩)
      · gi_wp2
        go_roundw
        case rel => exact ⟨k + 1, by omega, by go_num, hJ3⟩
        case measure => simp [intOf]; omega
      · gi_wp2
        refine bodyPost_ret (results_none rfl _ _ _) rfl ?_
        exact ⟨⟨_, rfl⟩, .inr hJx3⟩
    · obtain rfl : k = m := by omega
      gi_wp2
      go_end0
      exact ⟨⟨_, rfl⟩, .inl hJ⟩
theorem GBn_each (ao : Option Addr) (n c : Nat) (w : World) :
    Calls Try.prog 57 #[.slice ao n c] w fun e w' => e = .returned (.func (.func 64) #[] #[.pointer (some ⟨w.heap.size, 0, none⟩)]) ∧ w' = w.alloc (.cells #[.slice ao n c] 23) := by
  go_enter Try.func57, Try.ntmps57
  go_wp2
  go_ret
  exact ⟨rfl, rfl⟩
/-- A slice, in three. -/
structure Sl3 where
  a : Option Addr
  n : Nat
  p : Nat
def Sl3.v (x : Sl3) : Value := .slice x.a x.n x.p
/-- A list of histograms below a block. -/
def GHsAt (n0 : Nat) (ao : Option Addr) (L : List (Int × Sl3)) (w : World) : Prop :=
  ∀ j (hj : j < L.length), ∃ g o, ao = some ⟨g, o, none⟩ ∧ g < n0 ∧ w.cell? ⟨g, o + j * 2, none⟩ = some (.int .i64 L[j].1) ∧ w.cell? ⟨g, o + j * 2 + 1, none⟩ = some (Sl3.v L[j].2)
theorem GHsAt.below {n0 : Nat} {ao : Option Addr} {L : List (Int × Sl3)} {w W : World} (h : GHsAt n0 ao L w) (hb : Below n0 w W) : GHsAt n0 ao L W := fun j hj => by
  obtain ⟨g, o, h1, h2, h3, h4⟩ := h j hj
  exact ⟨g, o, h1, h2, (hb.cell (p := ⟨g, o + j * 2, none⟩) h2).trans h3, (hb.cell (p := ⟨g, o + j * 2 + 1, none⟩) h2).trans h4⟩
def encGHs (x : (Int × Sl3)) : Array Value := #[.agg #[.int .i64 x.1, Sl3.v x.2]]
theorem GHs_it (Bk n0 : Nat) (ao : Option Addr) (c : Nat) (L : List (Int × Sl3)) (hn1 : L.length ≤ 1000) :
    IterOk 62 #[.pointer (some ⟨Bk, 0, none⟩)] encGHs L (fun W => W.cell? ⟨Bk, 0, none⟩ = some (.slice ao L.length c) ∧ GHsAt n0 ao L W) := by
  intro n hn l J Jx hJB hJb hY W h0
  show CallsIn Fence.wide n Try.prog 62 #[.func (.yield l) #[] #[], .pointer (some ⟨Bk, 0, none⟩)] W _
  obtain ⟨m, hm⟩ : ∃ m, m = L.length := ⟨_, rfl⟩
  have HM := Lib.hid hm
  have hb00 := (hJb 0 W h0).1
  rw [← hm] at hb00
  have HJ := Lib.hid hJb
  have HJB := Lib.hid hJB
  have HY := Lib.hid hY
  rw [← hm]
  rw [← hm] at hn1
  clear hm hJb hY hJB
  refine callsIn_of_wp Try.func62 rfl trivial ?_ rfl
  simp only [Try.ntmps62, List.size_toArray, List.length_cons, List.length_nil, Nat.reduceAdd, Nat.reduceSub, Array.replicate_succ, Array.replicate_zero, List.push_toArray, List.append_toArray, List.nil_append, List.cons_append]
  gi_wp2
  gi_loopw [7] (fun i wr => ∃ k : Nat, k ≤ m ∧ i = .int .i64 k ∧ J k wr) (fun i wr => m - (intOf i).toNat)
  case atStart => exact ⟨0, Nat.zero_le _, rfl, h0⟩
  case round =>
    obtain ⟨k, hk, rfl, hJ⟩ := hrel
    obtain ⟨hBk, hC⟩ := HJ.out k wr hJ
    by_cases hlt : k < m
    · have hkl : k < L.length := by have := HM.out; omega
      obtain ⟨g, o, rfl, hg, hc1, hc2⟩ := hC k hkl
      have hJ2 := HJB.out k wr _ hJ ((Below.refl _ wr).alloc (Nat.le_refl _) (.cells #[.int .i64 L[k].1, Sl3.v L[k].2] 25))
      obtain ⟨fn, tmps, assign, body, hy, hR⟩ := HY.out k hkl _ hJ2
      obtain ⟨x, hx⟩ : ∃ x : (Int × Sl3), x = L[k] := ⟨_, rfl⟩
      dsimp only [encGHs] at hy
      rw [← hx] at hy hR hc1 hc2
      obtain ⟨x1, x2⟩ := x
      obtain ⟨xa, xn, xp⟩ := x2
      dsimp only [Sl3.v] at hy hR hc1 hc2
      have hBk' : wr.cell? ⟨Bk, 0, none⟩ = some (.slice (some ⟨g, o, none⟩) m c) := by
        rw [HM.out]
        exact hBk
      have HRR := Lib.hid hR
      clear hx hb00 hBk hC hJ2 hR
      gi_wp2
      refine HRR.out.mono ?_
      rintro e W3 (⟨rfl, hJ3⟩ | ⟨rfl, hJx3⟩)
      · gi_wp2
        go_roundw
        case rel => exact ⟨k + 1, by omega, by go_num, hJ3⟩
        case measure => simp [intOf]; omega
      · gi_wp2
        refine bodyPost_ret (results_none rfl _ _ _) rfl ?_
        exact ⟨⟨_, rfl⟩, .inr hJx3⟩
    · obtain rfl : k = m := by omega
      gi_wp2
      go_end0
      exact ⟨⟨_, rfl⟩, .inl hJ⟩
theorem GHs_each (ao : Option Addr) (n c : Nat) (w : World) :
    Calls Try.prog 53 #[.slice ao n c] w fun e w' => e = .returned (.func (.func 62) #[] #[.pointer (some ⟨w.heap.size, 0, none⟩)]) ∧ w' = w.alloc (.cells #[.slice ao n c] 82) := by
  go_enter Try.func53, Try.ntmps53
  go_wp2
  go_ret
  exact ⟨rfl, rfl⟩
theorem BinSl.at_ {w : World} {v : Value} {L : List Bn} (h : BinSl w v L) : ∃ ao c, v = .slice ao L.length c ∧ GBnAt w.heap.size ao L w := by
  rcases h with ⟨a, c, rfl, _, rfl⟩ | ⟨g, o, c, rfl, _, hg, hc⟩
  · exact ⟨a, c, rfl, fun j hj => absurd hj (by simp)⟩
  · exact ⟨_, _, rfl, fun j hj => ⟨g, o, rfl, hg, hc j hj⟩⟩
end Go.Proofs.Ytpdedogdffolnaa
namespace Go.Proofs.Ytpdedogdffolnaa
open Go.RowKit Go.Shelf
attribute [local go_sem] Oper.semAt_some

/-- The bucket ahead. -/
def prevG (L : List Bn) : Nat → Int
  | 0 => -1
  | j + 1 => (L.getD j (0, 0)).1
theorem prev_zero (L : List Bn) : prevG L 0 = -1 := rfl
theorem prev_succ {L : List Bn} {k : Nat} (hk : k < L.length) : prevG L (k + 1) = L[k].1 := by
  show (L.getD k (0, 0)).1 = _
  rw [List.getD_eq_getElem?_getD, List.getElem?_eq_getElem hk]
  rfl
/-- A bucket that is no greater than the one ahead. -/
theorem bin_low {f : Int} {L : List Bn} {k : Nat} {r : Bool} (hk : k < L.length) (hr : restG f L k = r) (h : L[k].1 ≤ prevG L k) : r = false := by
  cases hb : binB f L[k] with
  | false => rw [← hr]; exact rest_no hk hb
  | true =>
    cases k with
    | zero =>
      rw [prev_zero] at h
      have hd : okI f.toNat L[0].1 = false := by unfold okI; rw [decide_eq_false (by omega), Bool.false_and]
      unfold binB at hb
      rw [hd, Bool.false_and, Bool.and_false] at hb
      cases hb
    | succ j =>
      rw [prev_succ (show j < L.length by omega)] at h
      rw [rest_next hk hb, decide_eq_false (by omega), Bool.false_and] at hr
      exact hr.symm
theorem bin_next {f : Int} {L : List Bn} {k : Nat} {r : Bool} (hk : k < L.length) (hr : restG f L k = r) (h : prevG L k < L[k].1) (hb : binB f L[k] = true) : restG f L (k + 1) = r := by
  cases k with
  | zero => rw [← hr]; exact (rest_first hk hb).symm
  | succ j =>
    rw [prev_succ (show j < L.length by omega)] at h
    rw [rest_next hk hb, decide_eq_true h, Bool.true_and] at hr
    exact hr
theorem bin_of {f : Int} {x : Bn} : binB f x = ((boundsI f x.1).2.2 && decide (x.2 ≠ 0)) := by unfold binB; rw [bounds_ok, Bool.and_assoc]

set_option maxHeartbeats 4000000 in
set_option maxRecDepth 100000 in
theorem gBins_in (n : Nat) (h3 : 5 ≤ n) (f : Int) (ao : Option Addr) (c : Nat) (L : List Bn) (w : World) (hf : smallI f) (hf3 : fineB f = true) (hL : GBnAt w.heap.size ao L w) (hn : L.length ≤ 1000) (hLs : ∀ x ∈ L, smallI x.1) :
    CallsIn Fence.wide n Try.prog 54 #[.int .i64 f, .slice ao L.length c] w fun e w' => (∃ u, e = .returned u ∧ GErr (rightG f L) u) ∧ Below w.heap.size w w' := by
  obtain ⟨m, hm⟩ : ∃ m, m = L.length := ⟨_, rfl⟩
  have HM := Lib.hid hm
  obtain ⟨r, hr⟩ : ∃ r, r = rightG f L := ⟨_, rfl⟩
  have h0 : Hid (restG f L 0 = r) := by show _ = _; rw [hr]; rfl
  have h9 : Hid (restG f L m = r → r = true) := fun h => by rw [← h, hm, rest_end, hf3]
  rw [← hr]
  rw [← hm] at hn
  rw [← hm]
  have HL := Lib.hid hL
  have HLS := Lib.hid hLs
  have B1 := Lib.hid (fun a ha W => gBnds_any f a W hf ha)
  clear hm hL hr hLs hf3
  refine callsIn_of_wp_marks Try.func54 rfl trivial ?_ rfl
  simp only [Try.ntmps54, List.size_toArray, List.length_cons, List.length_nil, Nat.reduceAdd, Nat.reduceSub, Array.replicate_succ, Array.replicate_zero, List.push_toArray, List.append_toArray, List.nil_append, List.cons_append]
  gi_wp2_with fail
  refine wpIn_scope' ?_
  gi_wp2_with fail
  refine wpIn_label ?_
  gi_wp2_with fail
  refine ⟨trivial, fun _ => by omega, ?_⟩
  refine (callsIn_wide.2 (GBn_each _ _ _ _)).mono ?_
  rintro e w2 ⟨rfl, rfl⟩
  gi_wp2_with fail
  obtain ⟨W0, hW0⟩ : ∃ W0, W0 = (((w.alloc (.cells #[.int .i64 f] 3)).alloc (.cells #[.nilIface] 56)).alloc (.cells #[.int .i64 (-1)] 3)).alloc (.cells #[.slice ao m c] 23) := ⟨_, rfl⟩
  have hz0 : W0.heap.size = w.heap.size + 4 := by rw [hW0]; simp
  have hb0 : Below w.heap.size w W0 := by
    rw [hW0]
    exact ((((Below.refl _ w).alloc (Nat.le_refl _) _).alloc (by simp) _).alloc (by simp; omega) _).alloc (by simp; omega) _
  have hF0 : HasC W0 w.heap.size 3 #[.int .i64 f] := by rw [hW0]; exact (((HasC.new w _ _).alloc _).alloc _).alloc _
  have hE0 : HasC W0 (w.heap.size + 1) 56 #[.nilIface] := by rw [hW0]; exact ((HasC.at_ _ _ _ (by simp)).alloc _).alloc _
  have hP0 : HasC W0 (w.heap.size + 2) 3 #[.int .i64 (-1)] := by rw [hW0]; exact (HasC.at_ _ _ _ (by simp)).alloc _
  have hS0 : HasC W0 (w.heap.size + 3) 23 #[.slice ao m c] := by rw [hW0]; exact HasC.at_ _ _ _ (by simp)
  rw [← hW0]
  clear hW0
  refine range_fn (by omega) (GBn_it (w.heap.size + 3) w.heap.size ao c L (by have := HM.out; omega)) (enters_of Try.func64 (by kernel_rfl) rfl) rfl (fun _ => rfl)
    (fun k W => HasC W (w.heap.size + 3) 23 #[.slice ao m c] ∧ Below w.heap.size w W ∧ HasC W (w.heap.size + 1) 56 #[.nilIface] ∧ HasC W (w.heap.size + 2) 3 #[.int .i64 (prevG L k)] ∧ HasC W w.heap.size 3 #[.int .i64 f] ∧ Hid (restG f L k = r))
    (fun j W => j = .exit 0 ∧ Below w.heap.size w W ∧ r = false ∧ ∃ s, HasC W (w.heap.size + 1) 56 #[.iface 76 (.string s)])
    (fun k W W' h hb => ⟨h.1.below hb h.1.lt, h.2.1.trans (hb.mono h.2.1.size), h.2.2.1.below hb h.2.2.1.lt, h.2.2.2.1.below hb h.2.2.2.1.lt, h.2.2.2.2.1.below hb h.2.2.2.2.1.lt, h.2.2.2.2.2⟩)
    (fun k W h => ⟨by rw [← HM.out]; exact h.1.cell 0, HL.out.below h.2.1⟩) ?_ ?_ ?_ ?_ ?_ ?_
  · rintro k W _ o ⟨hS, hbw, hE, hP, hF, hR⟩ _
    exact ⟨hS.put (by omega) _, below_put hbw _ _ (by omega), hE.put (by omega) _, hP.put (by omega) _, hF.put (by omega) _, hR⟩
  · rintro j W _ o ⟨hj, hbw, hv, s, hE⟩ _
    exact ⟨hj, below_put hbw _ _ (by omega), hv, s, hE.put (by omega) _⟩
  · intro o
    have hk : Below W0.heap.size W0 ((W0.alloc (.deferred (some []))).alloc (.loop o)) := ((Below.refl _ W0).alloc (Nat.le_refl _) _).alloc (by simp) _
    exact ⟨hS0.below hk hS0.lt, hb0.trans (hk.mono hb0.size), hE0.below hk hE0.lt, hP0.below hk hP0.lt, hF0.below hk hF0.lt, h0⟩
  · rintro k hk W ⟨hS, hbw, hE, hP, hF, hR⟩ rd bz hLp
    have hlow := Lib.hid (fun h => bin_low hk hR.out h)
    have hno := Lib.hid (fun h => (hR.out.symm.trans (rest_no hk h) : r = false))
    have hnx := Lib.hid (fun h1 h2 => bin_next hk hR.out h1 h2)
    have hpv := Lib.hid (prev_succ hk)
    have hbo := Lib.hid (bin_of (f := f) (x := L[k]))
    have hsm := HLS.out L[k] (List.getElem_mem hk)
    obtain ⟨x, hx⟩ : ∃ x, x = L[k] := ⟨_, rfl⟩
    rw [← hx] at hlow hno hnx hpv hbo hsm
    unfold encGBn
    rw [← hx]
    obtain ⟨xa, xn⟩ := x
    obtain ⟨pv, hpp⟩ : ∃ pv, pv = prevG L k := ⟨_, rfl⟩
    rw [← hpp] at hP hlow hnx
    dsimp only at hlow hno hnx hpv hbo hsm ⊢
    have B2 := Lib.hid (fun W => B1.out xa hsm W)
    have hLt : w.heap.size + 5 < W.heap.size := by have := hLp.lt; omega
    clear hF0 hE0 hP0 hS0 hb0 hx hpp hR h0 hsm
    gi_wp2_with fail
    refine ⟨hLp.alloc _, ?_⟩
    have hX1 : HasC ((W.alloc (.cells #[.int .i64 xa, gV xn] 68)).putObj (W0.heap.size + 1) (.loop bz)) W.heap.size 68 #[.int .i64 xa, gV xn] := (HasC.new W _ _).put (by omega) _
    have hF1 := (hF.alloc (.cells #[.int .i64 xa, gV xn] 68)).put (L := W0.heap.size + 1) (by omega) (.loop bz)
    have hE1 := (hE.alloc (.cells #[.int .i64 xa, gV xn] 68)).put (L := W0.heap.size + 1) (by omega) (.loop bz)
    have hP1 := (hP.alloc (.cells #[.int .i64 xa, gV xn] 68)).put (L := W0.heap.size + 1) (by omega) (.loop bz)
    have hS1 := (hS.alloc (.cells #[.int .i64 xa, gV xn] 68)).put (L := W0.heap.size + 1) (by omega) (.loop bz)
    have hbw1 := below_put (hbw.alloc (by omega) (.cells #[.int .i64 xa, gV xn] 68)) (W0.heap.size + 1) (.loop bz) (by omega)
    have hL1 := (hLp.alloc (.cells #[.int .i64 xa, gV xn] 68)).put (.loop bz)
    generalize (W.alloc (.cells #[.int .i64 xa, gV xn] 68)).putObj (W0.heap.size + 1) (.loop bz) = V at hX1 hF1 hE1 hP1 hS1 hbw1 hL1 ⊢
    clear hS hbw hE hF hP hLp
    have HZ := Lib.hid hz0
    clear hz0
    have x0 := hX1.cell 0
    have x1 := hX1.cell 1
    have p0 := hP1.cell 0
    have f0 := hF1.cell 0
    have ze := hE1.frozen 0
    have ce := hE1.cell 0
    have zp := hP1.frozen 0
    by_cases hle : xa ≤ pv
    · have HV := Lib.hid (hlow.out hle)
      gi_wp2_with fail
      exact ⟨hL1.set _ _ (by have := HZ.out; simp; omega) (by have := HZ.out; simp; omega), rfl, hbw1.setCell (p := ⟨w.heap.size + 1, 0, none⟩) (by simp) _, HV.out, _, (hE1.set 0 _).eq rfl⟩
    · by_cases hn0 : xn = 0
      · have HV := Lib.hid (hno.out (by rw [hbo.out, hn0]; simp))
        subst hn0
        gi_wp2_with fail
        exact ⟨hL1.set _ _ (by have := HZ.out; simp; omega) (by have := HZ.out; simp; omega), rfl, hbw1.setCell (p := ⟨w.heap.size + 1, 0, none⟩) (by simp) _, HV.out, _, (hE1.set 0 _).eq rfl⟩
      · have hni : ¬ (xn : Int) = 0 := by omega
        have hnb : ((xn : Int) == 0) = false := by rw [beq_eq_false_iff_ne]; omega
        have hnd := Lib.hid (decide_eq_true hn0)
        have HLE := Lib.hid hle
        clear hn0
        gi_wp2_with fail
        refine ⟨trivial, fun _ => by omega, ?_⟩
        refine (CallsIn.inRound _ (callsIn_wide.2 (B2.out _))).mono ?_
        rintro e V2 ⟨⟨u, rfl, hu⟩, hb2⟩
        have hX2 := hX1.below hb2 hX1.lt
        have hF2 := hF1.below hb2 hF1.lt
        have hE2 := hE1.below hb2 hE1.lt
        have hP2 := hP1.below hb2 hP1.lt
        have hS2 := hS1.below hb2 hS1.lt
        have hbw2 := hbw1.trans (hb2.mono hbw1.size)
        have hL2 := hL1.below hb2 hL1.lt
        clear hX1 hF1 hE1 hP1 hS1 hbw1 hL1 x0 x1 p0 f0 ze ce zp
        have x0 := hX2.cell 0
        have ze := hE2.frozen 0
        have ce := hE2.cell 0
        have cp := hP2.cell 0
        have zp := hP2.frozen 0
        rcases hu with ⟨hok, rfl⟩ | ⟨hok, s, rfl⟩
        · have hv := hnx.out (by omega) (by rw [hbo.out, hok, hnd.out]; rfl)
          have HV := Lib.hid hv
          clear hv hok
          gi_wp2_with fail
          have h1 : HasC (V2.setCell ⟨w.heap.size + 1, 0, none⟩ .nilIface) (w.heap.size + 1) 56 #[.nilIface] := (hE2.set 0 _).eq rfl
          have h2 := (hP2.far ⟨w.heap.size + 1, 0, none⟩ .nilIface (by simp)).set 0 (.int .i64 xa)
          have h3 := (hL2.set ⟨w.heap.size + 1, 0, none⟩ .nilIface (by have := HZ.out; simp; omega) (by have := HZ.out; simp; omega)).set ⟨w.heap.size + 2, 0, none⟩ (.int .i64 xa) (by have := HZ.out; simp; omega) (by have := HZ.out; simp; omega)
          have h4 := (hS2.far ⟨w.heap.size + 1, 0, none⟩ .nilIface (by simp)).far ⟨w.heap.size + 2, 0, none⟩ (.int .i64 xa) (by simp)
          have h5 := (hbw2.setCell (p := ⟨w.heap.size + 1, 0, none⟩) (by simp) .nilIface).setCell (p := ⟨w.heap.size + 2, 0, none⟩) (by simp) (.int .i64 xa)
          have h6 := h1.far ⟨w.heap.size + 2, 0, none⟩ (.int .i64 xa) (by simp)
          have h7 := (hF2.far ⟨w.heap.size + 1, 0, none⟩ .nilIface (by simp)).far ⟨w.heap.size + 2, 0, none⟩ (.int .i64 xa) (by simp)
          refine ⟨h3, h4, h5, h6, ?_, h7, HV⟩
          rw [hpv.out]
          exact h2.eq rfl
        · have hv := hno.out (by rw [hbo.out, hok]; rfl)
          have HV := Lib.hid hv
          clear hv hok
          gi_wp2_with fail
          exact ⟨hL2.set _ _ (by have := HZ.out; simp; omega) (by have := HZ.out; simp; omega), rfl, hbw2.setCell (p := ⟨w.heap.size + 1, 0, none⟩) (by simp) _, HV.out, _, (hE2.set 0 _).eq rfl⟩
  · rintro W ⟨hS, hbw, hE, hP, hF, hR⟩ hK
    have ce := hE.cell 0
    have hv : r = true := h9.out (by rw [HM.out]; exact hR.out)
    have HV := Lib.hid hv
    clear hv hR
    gi_wp2_with fail
    rw [Exit.noGoto_ret]
    refine ⟨by simp, .inl ⟨_, _, rfl, run_takeDeferred (b := W0.heap.size) hK, ?_⟩⟩
    exact ⟨_, results_tmp rfl _ _ _, ⟨_, rfl, .inl ⟨HV.out, rfl⟩⟩, below_put hbw _ _ (by omega)⟩
  · rintro j W ⟨rfl, hbw, hv, s, hE⟩ hK
    have ce := hE.cell 0
    gi_wp2_with fail
    rw [Exit.noGoto_ret]
    refine ⟨by simp, .inl ⟨_, _, rfl, run_takeDeferred (b := W0.heap.size) hK, ?_⟩⟩
    exact ⟨_, results_tmp rfl _ _ _, ⟨_, rfl, .inr ⟨hv, _, rfl⟩⟩, below_put hbw _ _ (by omega)⟩
end Go.Proofs.Ytpdedogdffolnaa
namespace Go.Proofs.Ytpdedogdffolnaa
open Go.RowKit Go.Shelf
attribute [local go_sem] Oper.semAt_some

/-- A histogram as the statements hand it on. -/
def GOk (f : Int) (L : List Bn) : Prop := smallI f ∧ L.length ≤ 400 ∧ ∀ x ∈ L, smallI x.1 ∧ x.2 ≤ topN
def GDr (V : World) (w' : World) : Prop := ∃ n, w' = V.drewN n
set_option maxRecDepth 100000 in
theorem gResult_err {fn : Func} {p : Tmp} (h : fn.results = #[.cell p 56]) (tmps : Array Value) (w : World) (g : Nat) (v : Value)
    (hp : tmps.getD p undef = .pointer (some ⟨g, 0, none⟩)) (hc : w.cell? ⟨g, 0, none⟩ = some v) : (results fn tmps).run Try.prog w = .ok v w := by
  have hp' : tmps[p]?.getD undef = .pointer (some ⟨g, 0, none⟩) := by simpa using hp
  have ha : (isAgg 56).run Try.prog w = .ok false w := by rfl
  simp only [results, h, loadVar]
  simp [hp', asAddr, ha, hc, Result.andThen]
/-- Right, and of the first one's Fine. -/
def hs0 : Int × Sl3 := (0, ⟨none, 0, 0⟩)
def okH (L : List (Int × Sl3)) (Bs : Nat → List Bn) (j : Nat) : Bool := decide ((L.getD j hs0).1 = (L.getD 0 hs0).1) && rightG (L.getD j hs0).1 (Bs j)
def chkG (L : List (Int × Sl3)) (Bs : Nat → List Bn) : Bool := (List.range L.length).all (okH L Bs)
theorem getD_in {α : Type} {L : List α} {d : α} {k : Nat} (hk : k < L.length) : L.getD k d = L[k] := by rw [List.getD_eq_getElem?_getD, List.getElem?_eq_getElem hk]; rfl
theorem chk_no {L : List (Int × Sl3)} {Bs : Nat → List Bn} {k : Nat} (hk : k < L.length) (h : okH L Bs k = false) : chkG L Bs = false := by
  unfold chkG
  rw [List.all_eq_false]
  exact ⟨k, List.mem_range.2 hk, by rw [h]; decide⟩
theorem chk_step {L : List (Int × Sl3)} {Bs : Nat → List Bn} {k : Nat} (h : (List.range k).all (okH L Bs) = true) (h2 : okH L Bs k = true) : (List.range (k + 1)).all (okH L Bs) = true := by
  rw [List.range_succ, List.all_append, h, List.all_cons, h2]
  rfl
theorem right_fine {f : Int} {B : List Bn} (h : fineB f = false) : rightG f B = false := by unfold rightG; rw [h]; rfl
set_option maxHeartbeats 4000000 in
set_option maxRecDepth 100000 in
theorem gCheck_in (n : Nat) (h3 : 9 ≤ n) (ao : Option Addr) (c : Nat) (L : List (Int × Sl3)) (Bs : Nat → List Bn) (w : World) (hL : GHsAt w.heap.size ao L w) (hn : L.length ≤ 10)
    (hB : ∀ j (hj : j < L.length), smallI L[j].1 ∧ BinSl w L[j].2.v (Bs j) ∧ (Bs j).length ≤ 1000 ∧ ∀ x ∈ Bs j, smallI x.1) :
    CallsIn Fence.wide n Try.prog 43 #[.slice ao L.length c] w fun e w' => (∃ u, e = .returned u ∧ GErr (chkG L Bs) u) ∧ Below w.heap.size w w' := by
  obtain ⟨m, hm⟩ : ∃ m, m = L.length := ⟨_, rfl⟩
  have HM := Lib.hid hm
  have HC : Hid ((List.range m).all (okH L Bs) = chkG L Bs) := by show _ = _; rw [hm]; rfl
  rw [← hm] at hn
  rw [← hm]
  have HL := Lib.hid hL
  have HB := Lib.hid hB
  clear hm hL hB
  refine callsIn_of_wp_marks Try.func43 rfl trivial ?_ rfl
  simp only [Try.ntmps43, List.size_toArray, List.length_cons, List.length_nil, Nat.reduceAdd, Nat.reduceSub, Array.replicate_succ, Array.replicate_zero, List.push_toArray, List.append_toArray, List.nil_append, List.cons_append]
  gi_wp2_with fail
  refine ⟨trivial, fun _ => by omega, ?_⟩
  refine (callsIn_wide.2 (GHs_each _ _ _ _)).mono ?_
  rintro e w2 ⟨rfl, rfl⟩
  gi_wp2_with fail
  obtain ⟨W0, hW0⟩ : ∃ W0, W0 = ((w.alloc (.cells #[.slice ao m c] 82)).alloc (.cells #[.nilIface] 56)).alloc (.cells #[.slice ao m c] 82) := ⟨_, rfl⟩
  have hz0 : W0.heap.size = w.heap.size + 3 := by rw [hW0]; simp
  have hb0 : Below w.heap.size w W0 := by
    rw [hW0]
    exact (((Below.refl _ w).alloc (Nat.le_refl _) _).alloc (by simp) _).alloc (by simp; omega) _
  have hA0 : HasC W0 w.heap.size 82 #[.slice ao m c] := by rw [hW0]; exact ((HasC.new w _ _).alloc _).alloc _
  have hE0 : HasC W0 (w.heap.size + 1) 56 #[.nilIface] := by rw [hW0]; exact (HasC.at_ _ _ _ (by simp)).alloc _
  have hS0 : HasC W0 (w.heap.size + 2) 82 #[.slice ao m c] := by rw [hW0]; exact HasC.at_ _ _ _ (by simp)
  rw [← hW0]
  clear hW0
  refine range_fn (by omega) (GHs_it (w.heap.size + 2) w.heap.size ao c L (by have := HM.out; omega)) (enters_of Try.func62 (by kernel_rfl) rfl) rfl (fun _ => rfl)
    (fun k W => HasC W (w.heap.size + 2) 82 #[.slice ao m c] ∧ Below w.heap.size w W ∧ HasC W (w.heap.size + 1) 56 #[.nilIface] ∧ HasC W w.heap.size 82 #[.slice ao m c] ∧ Hid ((List.range k).all (okH L Bs) = true))
    (fun j W => j = .ret ∧ Below w.heap.size w W ∧ chkG L Bs = false ∧ ∃ s, HasC W (w.heap.size + 1) 56 #[.iface 76 (.string s)])
    (fun k W W' h hb => ⟨h.1.below hb h.1.lt, h.2.1.trans (hb.mono h.2.1.size), h.2.2.1.below hb h.2.2.1.lt, h.2.2.2.1.below hb h.2.2.2.1.lt, h.2.2.2.2⟩)
    (fun k W h => ⟨by rw [← HM.out]; exact h.1.cell 0, HL.out.below h.2.1⟩) ?_ ?_ ?_ ?_ ?_ ?_
  · rintro k W _ o ⟨hS, hbw, hE, hA, hAll⟩ _
    exact ⟨hS.put (by omega) _, below_put hbw _ _ (by omega), hE.put (by omega) _, hA.put (by omega) _, hAll⟩
  · rintro j W _ o ⟨hj, hbw, hv, s, hE⟩ _
    exact ⟨hj, below_put hbw _ _ (by omega), hv, s, hE.put (by omega) _⟩
  · intro o
    have hk : Below W0.heap.size W0 ((W0.alloc (.deferred (some []))).alloc (.loop o)) := ((Below.refl _ W0).alloc (Nat.le_refl _) _).alloc (by simp) _
    exact ⟨hS0.below hk hS0.lt, hb0.trans (hk.mono hb0.size), hE0.below hk hE0.lt, hA0.below hk hA0.lt, (by rw [List.range_zero]; rfl : _ = _)⟩
  · rintro k hk W ⟨hS, hbw, hE, hA, hAll⟩ rd bz hLp
    have hno := Lib.hid (fun h => chk_no (Bs := Bs) hk h)
    have hst := Lib.hid (fun h => chk_step (k := k) hAll.out h)
    obtain ⟨g, o, rfl, hg, hc1, _⟩ := HL.out 0 (by omega)
    obtain ⟨hsm, hbs, hbl, hbi⟩ := HB.out k hk
    obtain ⟨x, hx⟩ : ∃ x, x = L[k] := ⟨_, rfl⟩
    obtain ⟨f0, hf0⟩ : ∃ f0, f0 = (L.getD 0 hs0).1 := ⟨_, rfl⟩
    have hc0 : L[0].1 = f0 := by rw [hf0, getD_in (show 0 < L.length by omega)]
    have hokv : okH L Bs k = (decide (x.1 = f0) && rightG x.1 (Bs k)) := by unfold okH; rw [getD_in hk, ← hf0, hx]
    rw [hokv] at hno hst
    rw [hc0] at hc1
    rw [← hx] at hsm hbs
    unfold encGHs
    rw [← hx]
    obtain ⟨xf, xa, xn, xp⟩ := x
    dsimp only [Sl3.v] at hsm hbs hno hst ⊢
    rw [Nat.zero_mul, Nat.add_zero] at hc1
    obtain ⟨B, hBk⟩ : ∃ B, B = Bs k := ⟨_, rfl⟩
    rw [← hBk] at hbs hbl hbi hno hst
    have HBS := Lib.hid hbs
    have HSM := Lib.hid hsm
    have HBI := Lib.hid hbi
    have hLt : w.heap.size + 4 < W.heap.size := by have := hLp.lt; omega
    have hm0 : (0 : Int) < (m : Int) := by have := HM.out; omega
    clear hA0 hE0 hS0 hb0 hokv hx hf0 hc0 hBk hAll hbs hsm hbi
    gi_wp2_with fail
    refine ⟨hLp.alloc _, ?_⟩
    have hX1 : HasC ((W.alloc (.cells #[.int .i64 xf, .slice xa xn xp] 25)).putObj (W0.heap.size + 1) (.loop bz)) W.heap.size 25 #[.int .i64 xf, .slice xa xn xp] := (HasC.new W _ _).put (by omega) _
    have hA1 := (hA.alloc (.cells #[.int .i64 xf, .slice xa xn xp] 25)).put (L := W0.heap.size + 1) (by omega) (.loop bz)
    have hE1 := (hE.alloc (.cells #[.int .i64 xf, .slice xa xn xp] 25)).put (L := W0.heap.size + 1) (by omega) (.loop bz)
    have hS1 := (hS.alloc (.cells #[.int .i64 xf, .slice xa xn xp] 25)).put (L := W0.heap.size + 1) (by omega) (.loop bz)
    have hbw1 := below_put (hbw.alloc (by omega) (.cells #[.int .i64 xf, .slice xa xn xp] 25)) (W0.heap.size + 1) (.loop bz) (by omega)
    have hL1 := (hLp.alloc (.cells #[.int .i64 xf, .slice xa xn xp] 25)).put (.loop bz)
    generalize (W.alloc (.cells #[.int .i64 xf, .slice xa xn xp] 25)).putObj (W0.heap.size + 1) (.loop bz) = V at hX1 hA1 hE1 hS1 hbw1 hL1 ⊢
    have HZ := Lib.hid hz0
    clear hz0 hS hbw hE hA hLp
    have E1 : ∀ i : InC (GDr V), i.w.cell? ⟨W.heap.size, 0, none⟩ = some (.int .i64 xf) := fun ⟨_, _, h⟩ => by subst h; exact hX1.cell 0
    have E3 : ∀ i : InC (GDr V), i.w.cell? ⟨w.heap.size, 0, none⟩ = some (.slice (some ⟨g, o, none⟩) m c) := fun ⟨_, _, h⟩ => by subst h; exact hA1.cell 0
    have E4 : ∀ i : InC (GDr V), i.w.cell? ⟨g, o, none⟩ = some (.int .i64 f0) := fun ⟨_, _, h⟩ => by subst h; exact (hbw1.cell (p := ⟨g, o, none⟩) hg).trans hc1
    gi_wp2_with fail
    refine region_tailIn 6 (GDr V) (by kernel_rfl) (by kernel_rfl) (by kernel_rfl) ⟨1, rfl⟩ ?_
    intro hne
    simp only [List.take_succ_cons, List.take_zero]
    repeat (go_big_quiet_step (fail))
    refine wpQuiet_nil ?_
    intro i
    simp only [List.drop_succ_cons, List.drop_zero]
    obtain ⟨V3, dn, hV3⟩ := i
    have hE3 : HasC V3 (w.heap.size + 1) 56 #[.nilIface] := by rw [hV3]; exact hE1
    have hX3 : HasC V3 W.heap.size 25 #[.int .i64 xf, .slice xa xn xp] := by rw [hV3]; exact hX1
    have hA3 : HasC V3 w.heap.size 82 #[.slice (some ⟨g, o, none⟩) m c] := by rw [hV3]; exact hA1
    have hS3 : HasC V3 (w.heap.size + 2) 82 #[.slice (some ⟨g, o, none⟩) m c] := by rw [hV3]; exact hS1
    have hL3 : Lp W0.heap.size (.loop bz) V3 := by rw [hV3]; exact hL1
    have hbw3 : Below w.heap.size w V3 := by rw [hV3]; exact bel_drewN hbw1 dn
    dsimp only
    clear hE1 hX1 hA1 hS1 hL1 hbw1 E1 E3 E4 hV3 hne
    have ze := hE3.frozen 0
    have ce := hE3.cell 0
    have x0 := hX3.cell 0
    have x1 := hX3.cell 1
    by_cases hfe : xf = f0
    case neg =>
      have hv : chkG L Bs = false := hno.out (by rw [decide_eq_false hfe]; rfl)
      have HV := Lib.hid hv
      have hnb : (xf != f0) = true := by rw [bne_iff_ne]; exact hfe
      clear hv
      gi_wp2_with fail
      exact ⟨hL3.set _ _ (by have := HZ.out; simp; omega) (by have := HZ.out; simp; omega), rfl, hbw3.setCell (p := ⟨w.heap.size + 1, 0, none⟩) (by simp) _, HV.out, _, (hE3.set 0 _).eq rfl⟩
    case pos =>
      have hdt := Lib.hid (decide_eq_true hfe)
      have D1 := Lib.hid (fun W => gDigits_any xf W)
      have hnb : (xf != f0) = false := by rw [hfe]; exact bne_self_eq_false _
      have HFE := Lib.hid hfe
      clear hfe
      gi_wp2_with fail
      refine ⟨trivial, fun _ => by omega, ?_⟩
      refine (CallsIn.inRound _ (callsIn_wide.2 (D1.out _))).mono ?_
      rintro e V4 ⟨⟨u, rfl, hu⟩, rfl⟩
      cases hq : fineB xf with
      | false =>
        rw [hq] at hu
        have hv : chkG L Bs = false := hno.out (by rw [right_fine hq, Bool.and_false])
        have HV := Lib.hid hv
        rcases hu with ⟨hu, _⟩ | ⟨_, s, rfl⟩
        · cases hu
        clear hv hq
        gi_wp2_with fail
        exact ⟨hL3.set _ _ (by have := HZ.out; simp; omega) (by have := HZ.out; simp; omega), rfl, hbw3.setCell (p := ⟨w.heap.size + 1, 0, none⟩) (by simp) _, HV.out, _, (hE3.set 0 _).eq rfl⟩
      | true =>
        rw [hq] at hu
        rcases hu with ⟨_, rfl⟩ | ⟨hu, _⟩
        case inr => cases hu
        obtain ⟨bo, bc, hbv, hba⟩ := (HBS.out.below hbw3).at_
        simp only [Value.slice.injEq] at hbv
        obtain ⟨rfl, rfl, rfl⟩ := hbv
        have K1 := Lib.hid (gBins_in (n - 1 - 1 - 1) (by omega) xf xa xp B V4 HSM.out hq hba hbl HBI.out)
        clear hq hba
        gi_wp2_with fail
        refine ⟨trivial, fun _ => by omega, ?_⟩
        refine (CallsIn.inRound _ K1.out).mono ?_
        rintro e V5 ⟨⟨u, rfl, hu⟩, hb5⟩
        have hX5 := hX3.below hb5 hX3.lt
        have hA5 := hA3.below hb5 hA3.lt
        have hE5 := hE3.below hb5 hE3.lt
        have hS5 := hS3.below hb5 hS3.lt
        have hbw5 := hbw3.trans (hb5.mono hbw3.size)
        have hL5 := hL3.below hb5 hL3.lt
        clear hX3 hA3 hE3 hS3 hbw3 hL3 ze ce x0 x1 K1
        have ze := hE5.frozen 0
        have ce := hE5.cell 0
        rcases hu with ⟨hr, rfl⟩ | ⟨hr, s, rfl⟩
        · have hv := hst.out (by rw [hdt.out, hr]; rfl)
          have HV := Lib.hid hv
          clear hv hr
          gi_wp2_with fail
          exact ⟨hL5, hS5, hbw5, hE5, hA5, HV⟩
        · have hv : chkG L Bs = false := hno.out (by rw [hr, Bool.and_false])
          have HV := Lib.hid hv
          clear hv hr
          gi_wp2_with fail
          exact ⟨hL5.set _ _ (by have := HZ.out; simp; omega) (by have := HZ.out; simp; omega), rfl, hbw5.setCell (p := ⟨w.heap.size + 1, 0, none⟩) (by simp) _, HV.out, _, (hE5.set 0 _).eq rfl⟩
  · rintro W ⟨hS, hbw, hE, hA, hAll⟩ hK
    have ce := hE.cell 0
    have z := hE.frozen 0
    have hv : chkG L Bs = true := by rw [← HC.out, HM.out]; exact hAll.out
    have HV := Lib.hid hv
    clear hv hAll
    gi_wp2_with fail
    have hK1 : (W.setCell ⟨w.heap.size + 1, 0, none⟩ .nilIface).heap[W0.heap.size]? = some (.deferred (some [])) := (Below.heap_setCell W ⟨w.heap.size + 1, 0, none⟩ .nilIface W0.heap.size (by simp; omega)).trans hK
    refine ⟨by simp, .inl ⟨_, _, rfl, run_takeDeferred (b := W0.heap.size) hK1, ?_⟩⟩
    have he1 : HasC (W.setCell ⟨w.heap.size + 1, 0, none⟩ .nilIface) (w.heap.size + 1) 56 #[.nilIface] := (hE.set 0 .nilIface).eq rfl
    have hb1 := hbw.setCell (p := ⟨w.heap.size + 1, 0, none⟩) (by simp) .nilIface
    refine ⟨_, gResult_err rfl _ _ (w.heap.size + 1) _ rfl ((he1.put (L := W0.heap.size) (by omega) _).cell 0), ⟨_, rfl, .inl ⟨HV.out, rfl⟩⟩, below_put hb1 _ _ (by omega)⟩
  · rintro j W ⟨rfl, hbw, hv, s, hE⟩ hK
    gi_wp2_with fail
    refine ⟨by simp, .inl ⟨_, _, rfl, run_takeDeferred (b := W0.heap.size) hK, ?_⟩⟩
    refine ⟨_, gResult_err rfl _ _ (w.heap.size + 1) _ rfl ((hE.put (L := W0.heap.size) (by omega) _).cell 0), ⟨_, rfl, .inr ⟨hv, _, rfl⟩⟩, below_put hbw _ _ (by omega)⟩
end Go.Proofs.Ytpdedogdffolnaa
namespace Go.Proofs.Ytpdedogdffolnaa
open Go.RowKit Go.Shelf

theorem chk_one (f : Int) (s : Sl3) (L : List Bn) : chkG [(f, s)] (fun _ => L) = rightG f L := by
  unfold chkG okH
  simp [List.range_succ]
def twoG (L M : List Bn) : Nat → List Bn
  | 0 => L
  | _ + 1 => M
theorem chk_two (f : Int) (s : Sl3) (L : List Bn) (g : Int) (t : Sl3) (M : List Bn) : chkG [(f, s), (g, t)] (twoG L M) = (rightG f L && (decide (g = f) && rightG g M)) := by
  unfold chkG okH
  simp [List.range_succ, twoG]
/-- One, or two, in a list of their own. -/
theorem hist_one (w : World) (x : Int × Sl3) (T : TypeId) : GHsAt (w.heap.size + 1) (some ⟨w.heap.size, 0, none⟩) [x] (w.alloc (.cells #[.int .i64 x.1, x.2.v] T)) := by
  intro j hj
  have h := HasC.new w T #[.int .i64 x.1, x.2.v]
  obtain rfl : j = 0 := by simpa using hj
  exact ⟨_, _, rfl, by omega, h.cell 0, h.cell 1⟩
theorem hist_two (w : World) (x y : Int × Sl3) (T : TypeId) : GHsAt (w.heap.size + 1) (some ⟨w.heap.size, 0, none⟩) [x, y] (w.alloc (.cells #[.int .i64 x.1, x.2.v, .int .i64 y.1, y.2.v] T)) := by
  intro j hj
  have h := HasC.new w T #[.int .i64 x.1, x.2.v, .int .i64 y.1, y.2.v]
  have hj2 : j < 2 := by simpa using hj
  have : j = 0 ∨ j = 1 := by omega
  rcases this with rfl | rfl
  · exact ⟨_, _, rfl, by omega, h.cell 0, h.cell 1⟩
  · exact ⟨_, _, rfl, by omega, h.cell 2, h.cell 3⟩
theorem gCheck1_any (f : Int) (L : List Bn) (a : Option Addr) (n p : Nat) (W : World) (h : GOk f L) (hv : BinSl W (.slice a n p) L) :
    Calls Try.prog 43 #[.slice (some ⟨W.heap.size, 0, none⟩) 1 1] (W.alloc (.cells #[.int .i64 f, .slice a n p] 25)) fun e w' => (∃ u, e = .returned u ∧ GErr (rightG f L) u) ∧ Below (W.heap.size + 1) (W.alloc (.cells #[.int .i64 f, .slice a n p] 25)) w' := by
  have hl := h.2.1
  have h2 := callsIn_wide.1 (gCheck_in 9 (by decide) (some ⟨W.heap.size, 0, none⟩) 1 [(f, ⟨a, n, p⟩)] (fun _ => L) (W.alloc (.cells #[.int .i64 f, .slice a n p] 25)) (by rw [World.size_alloc]; exact hist_one W (f, ⟨a, n, p⟩) _) (by simp)
    (fun j hj => by
      obtain rfl : j = 0 := by simpa using hj
      exact ⟨h.1, hv.below ((Below.refl _ W).alloc (Nat.le_refl _) _), by omega, fun x hx => (h.2.2 x hx).1⟩))
  rw [chk_one] at h2
  refine h2.mono ?_
  rintro e w' ⟨h1, h2⟩
  exact ⟨h1, by rw [World.size_alloc] at h2; exact h2⟩
theorem gCheck2_any (f : Int) (L : List Bn) (a : Option Addr) (n p : Nat) (g : Int) (M : List Bn) (b : Option Addr) (m q : Nat) (W : World) (h : GOk f L) (hg : GOk g M) (hv : BinSl W (.slice a n p) L) (hu : BinSl W (.slice b m q) M) :
    Calls Try.prog 43 #[.slice (some ⟨W.heap.size, 0, none⟩) 2 2] (W.alloc (.cells #[.int .i64 f, .slice a n p, .int .i64 g, .slice b m q] 25)) fun e w' => (∃ u, e = .returned u ∧ GErr (rightG f L && (decide (g = f) && rightG g M)) u) ∧ Below (W.heap.size + 1) (W.alloc (.cells #[.int .i64 f, .slice a n p, .int .i64 g, .slice b m q] 25)) w' := by
  have hl := h.2.1
  have hl2 := hg.2.1
  have hbb : Below W.heap.size W (W.alloc (.cells #[.int .i64 f, .slice a n p, .int .i64 g, .slice b m q] 25)) := (Below.refl _ W).alloc (Nat.le_refl _) _
  have h2 := callsIn_wide.1 (gCheck_in 9 (by decide) (some ⟨W.heap.size, 0, none⟩) 2 [(f, ⟨a, n, p⟩), (g, ⟨b, m, q⟩)] (twoG L M) (W.alloc (.cells #[.int .i64 f, .slice a n p, .int .i64 g, .slice b m q] 25)) (by rw [World.size_alloc]; exact hist_two W (f, ⟨a, n, p⟩) (g, ⟨b, m, q⟩) _) (by simp)
    (fun j hj => by
      have hj2 : j < 2 := by simpa using hj
      have : j = 0 ∨ j = 1 := by omega
      rcases this with rfl | rfl
      · exact ⟨h.1, hv.below hbb, (by show L.length ≤ 1000; omega), fun x hx => (h.2.2 x hx).1⟩
      · exact ⟨hg.1, hu.below hbb, (by show M.length ≤ 1000; omega), fun x hx => (hg.2.2 x hx).1⟩))
  rw [chk_two] at h2
  refine h2.mono ?_
  rintro e w' ⟨h1, h2⟩
  exact ⟨h1, by rw [World.size_alloc] at h2; exact h2⟩
set_option maxHeartbeats 1000000 in
set_option maxRecDepth 100000 in
theorem gRight_any (f : Int) (L : List Bn) (v : Value) (w : World) (h : GOk f L) (hv : BinSl w v L) :
    Calls Try.prog 19 #[hgV f v] w fun e w' => e = .returned (.bool (rightG f L)) ∧ Below w.heap.size w w' := by
  obtain ⟨a, n, p, rfl⟩ := hv.form
  have hb0 := (Below.refl _ w).alloc (Nat.le_refl _) (.cells #[.int .i64 f, .slice a n p] 25)
  have C1 := Lib.hid (gCheck1_any f L a n p _ h (hv.below hb0))
  have HB := Lib.hid (hb0.alloc (by simp) (.cells #[.int .i64 f, .slice a n p] 25))
  rw [World.size_alloc] at C1
  obtain ⟨q, hq⟩ : ∃ q, rightG f L = q := ⟨_, rfl⟩
  rw [hq] at C1 ⊢
  clear hq h hv hb0
  unfold hgV
  go_enter Try.func19, Try.ntmps19
  go_wp2_with fail
  with_reducible refine (C1.out).mono ?_
  rintro e w2 ⟨⟨u, rfl, hu⟩, hb⟩
  have hb2 := HB.out.trans (hb.mono (by omega))
  rcases hu with ⟨rfl, rfl⟩ | ⟨rfl, s, rfl⟩
  · go_wp2_with fail
    with_reducible refine (gErrno_ok _).mono ?_
    rintro e w3 ⟨rfl, rfl⟩
    go_wp2_with fail
    go_ret
    exact ⟨rfl, hb2⟩
  · go_wp2_with fail
    with_reducible refine (gErrno_bad _ _).mono ?_
    rintro e w3 ⟨rfl, rfl⟩
    go_wp2_with fail
    go_ret
    exact ⟨rfl, hb2⟩
end Go.Proofs.Ytpdedogdffolnaa
namespace Go.Proofs.Ytpdedogdffolnaa
open Go.RowKit

set_option maxHeartbeats 4000000 in
set_option maxRecDepth 100000 in
theorem gEqual_any (A B : List Bn) (va vb : Value) (w : World) (hA : BinSl w va A) (hB : BinSl w vb B) (hna : A.length ≤ 1000) (hnb : B.length ≤ 1000) :
    Calls Try.prog 48 #[va, vb] w fun e w' => e = .returned (.bool (decide (A = B))) ∧ Below w.heap.size w w' := by
  obtain ⟨ao, ca, rfl, hca⟩ := hA.shape
  obtain ⟨bo, cb, rfl, hcb⟩ := hB.shape
  obtain ⟨n, hnn⟩ : ∃ n, n = A.length := ⟨_, rfl⟩
  obtain ⟨m, hmm⟩ : ∃ m, m = B.length := ⟨_, rfl⟩
  have HCA := Lib.hid hca
  have HCB := Lib.hid hcb
  have HN := Lib.hid hnn
  have HM := Lib.hid hmm
  rw [← hnn] at hna ⊢
  rw [← hmm] at hnb ⊢
  by_cases hnm : n = m
  · obtain ⟨r, hr⟩ : ∃ r, decide (A = B) = r := ⟨_, rfl⟩
    have h0 : Hid (decide (A.drop 0 = B.drop 0) = r) := by show decide (A.drop 0 = B.drop 0) = r; rw [List.drop_zero, List.drop_zero, hr]
    rw [hr]
    subst hnm
    clear hca hcb hnn hmm hA hB hr
    go_enter Try.func48, Try.ntmps48
    go_wp2_with fail
    go_loopw [13] (fun i wr => ∃ k : Nat, k ≤ n ∧ i = .int .i64 k ∧ Hid (decide (A.drop k = B.drop k) = r) ∧ Below w.heap.size w wr) (fun i _ => n - (intOf i).toNat)
    case atStart => exact ⟨0, Nat.zero_le _, rfl, h0, Below.refl _ _⟩
    case round =>
      obtain ⟨k, hk, rfl, hs, hbel⟩ := hrel
      by_cases hlt : k < n
      · have hka : k < A.length := by have := HN.out; omega
        have hkb : k < B.length := by have := HM.out; omega
        obtain ⟨g, o, rfl, hc0⟩ := HCA.out k hka
        obtain ⟨g', o', rfl, hc1⟩ := HCB.out k hkb
        have hst := same_next hka hkb
        obtain ⟨⟨xa, xn⟩, hx⟩ : ∃ x, A[k] = x := ⟨_, rfl⟩
        obtain ⟨⟨ya, yn⟩, hy⟩ : ∃ x, B[k] = x := ⟨_, rfl⟩
        rw [hx] at hc0
        rw [hy] at hc1
        rw [hx, hy] at hst
        dsimp only at hc0 hc1
        obtain ⟨c0, c1⟩ := hc0 wr hbel
        obtain ⟨d0, d1⟩ := hc1 wr hbel
        have HST := Lib.hid hst
        have hnq := neq_bin xa ya xn yn
        have hgd : Try.prog.eqGuardType Try.prog.depth 68 = false := by kernel_rfl
        obtain ⟨z, hz⟩ : ∃ z, (xa == ya && ((xn : Int) == (yn : Int))) = z := ⟨_, rfl⟩
        have hdz : decide (((xa, xn) : Bn) = (ya, yn)) = z := by
          rw [← hz]
          by_cases h1 : xa = ya
          · by_cases h2 : xn = yn
            · subst h1; subst h2; simp
            · have : ((xn : Int) == (yn : Int)) = false := by simp; omega
              rw [this]
              simp [h2]
          · simp [h1]
        rw [hz] at hnq
        have HDZ := Lib.hid hdz
        have E3 : ∀ i : InC (GDr wr), i.w.cell? ⟨g, o + k * 2, none⟩ = some (.int .i64 xa) := fun ⟨_, _, h⟩ => by subst h; exact c0
        have E4 : ∀ i : InC (GDr wr), i.w.cell? ⟨g, o + k * 2 + 1, none⟩ = some (gV xn) := fun ⟨_, _, h⟩ => by subst h; exact c1
        have E5 : ∀ i : InC (GDr wr), i.w.cell? ⟨g', o' + k * 2, none⟩ = some (.int .i64 ya) := fun ⟨_, _, h⟩ => by subst h; exact d0
        have E6 : ∀ i : InC (GDr wr), i.w.cell? ⟨g', o' + k * 2 + 1, none⟩ = some (gV yn) := fun ⟨_, _, h⟩ => by subst h; exact d1
        clear hst hx hy hc0 hc1 hz hdz c0 c1 d0 d1 hka hkb
        cases z with
        | true =>
          have hs2 : Hid (decide (A.drop (k + 1) = B.drop (k + 1)) = r) := by
            show decide (A.drop (k + 1) = B.drop (k + 1)) = r
            rw [← hs.out, HST.out, HDZ.out, Bool.true_and]
          go_wp2_with fail
          refine region_class (GDr wr) (by kernel_rfl) (by kernel_rfl) ⟨1, rfl⟩ ?_
          intro hne
          repeat (go_big_quiet_step (fail))
          refine wpQuiet_nil ?_
          intro i
          obtain ⟨V, dn, hV⟩ := i
          subst hV
          dsimp only
          have hbel1 : Below w.heap.size w (wr.drewN dn) := bel_drewN hbel _
          clear E3 E4 E5 E6 hbel hne
          go_wp2_with fail
          go_roundw
          case rel => exact ⟨k + 1, by omega, by go_num, hs2, hbel1⟩
          case measure => simp [intOf]; omega
        | false =>
          have hv : r = false := by rw [← hs.out, HST.out, HDZ.out, Bool.false_and]
          have HV := Lib.hid hv
          clear hv
          go_wp2_with fail
          refine region_class (GDr wr) (by kernel_rfl) (by kernel_rfl) ⟨1, rfl⟩ ?_
          intro hne
          repeat (go_big_quiet_step (fail))
          refine wpQuiet_nil ?_
          intro i
          obtain ⟨V, dn, hV⟩ := i
          subst hV
          dsimp only
          have hbel1 : Below w.heap.size w (wr.drewN dn) := bel_drewN hbel _
          clear E3 E4 E5 E6 hbel hne
          go_wp2_with fail
          go_ret
          exact ⟨by rw [HV.out]; rfl, hbel1⟩
      · have hv : r = true := by
          rw [← hs.out]
          refine decide_eq_true ?_
          rw [List.drop_eq_nil_of_le (by have := HN.out; omega), List.drop_eq_nil_of_le (by have := HM.out; omega)]
        have HV := Lib.hid hv
        clear hv
        go_wp2_with fail
        go_ret
        exact ⟨by rw [HV.out]; rfl, hbel⟩
  · have hv : decide (A = B) = false := decide_eq_false fun h => hnm (by rw [hnn, hmm, h])
    have hne : ¬ (n : Int) = (m : Int) := by omega
    rw [hv]
    clear hca hcb hnn hmm hA hB hv
    go_enter Try.func48, Try.ntmps48
    go_wp2_with fail
    go_ret
    exact ⟨rfl, Below.refl _ _⟩
set_option maxHeartbeats 2000000 in
set_option maxRecDepth 100000 in
theorem gSame_any (f : Int) (L : List Bn) (v : Value) (g : Int) (M : List Bn) (u : Value) (w : World) (h : GOk f L) (h2 : GOk g M) (hv : BinSl w v L) (hu : BinSl w u M) :
    Calls Try.prog 32 #[hgV f v, hgV g u] w fun e w' => e = .returned (.bool (sameG f L g M)) ∧ Below w.heap.size w w' := by
  have hb0 := ((Below.refl w.heap.size w).alloc (Nat.le_refl _) (Obj.cells #[.int .i64 f, v] 25)).alloc (by simp) (Obj.cells #[.int .i64 g, u] 25)
  have hx0 := (HasC.new w 25 #[.int .i64 f, v]).alloc (Obj.cells #[.int .i64 g, u] 25)
  have hy0 : HasC ((w.alloc (Obj.cells #[.int .i64 f, v] 25)).alloc (Obj.cells #[.int .i64 g, u] 25)) (w.heap.size + 1) 25 #[.int .i64 g, u] := HasC.at_ _ _ _ (by simp)
  have hl1 := h.2.1
  have hl2 := h2.2.1
  have N1 := Lib.hid (gEqual_any L M v u _ (hv.below hb0) (hu.below hb0) (by omega) (by omega))
  have HB := Lib.hid hb0
  have k1 := hx0.cell 1
  have l1 := hy0.cell 1
  have k0 := hx0.cell 0
  have l0 := hy0.cell 0
  obtain ⟨a, n, c, rfl⟩ := hv.form
  obtain ⟨b, m, d, rfl⟩ := hu.form
  obtain ⟨q, hq⟩ : ∃ q, decide (L = M) = q := ⟨_, rfl⟩
  have hS : sameG f L g M = (decide (f = g) && q) := by unfold sameG; rw [hq]
  rw [hS]
  rw [hq] at N1
  clear hb0 hx0 hy0 hv hu hq hS h h2 hl1 hl2
  unfold hgV
  by_cases h1 : f = g
  · subst h1
    rw [decide_eq_true rfl, Bool.true_and]
    go_enter Try.func32, Try.ntmps32
    go_wp2_with fail
    with_reducible refine (N1.out).mono ?_
    rintro e w1 ⟨rfl, hb⟩
    have hb1 := HB.out.trans (hb.mono HB.out.size)
    go_wp2_with fail
    go_ret
    exact ⟨by simp, hb1⟩
  · have hc : (f == g) = false := by simp [h1]
    rw [decide_eq_false h1, Bool.false_and]
    clear h1
    go_enter Try.func32, Try.ntmps32
    go_wp2_with fail
    go_ret
    exact ⟨by simp, HB.out⟩
end Go.Proofs.Ytpdedogdffolnaa
namespace Go.Proofs.Ytpdedogdffolnaa
open Go.RowKit Go.Shelf
attribute [local go_sem] Oper.semAt_some

set_option maxRecDepth 100000 in
theorem gResult_num {fn : Func} {p : Tmp} (h : fn.results = #[.cell p 22]) (tmps : Array Value) (w : World) (g : Nat) (v : Value)
    (hp : tmps.getD p undef = .pointer (some ⟨g, 0, none⟩)) (hc : w.cell? ⟨g, 0, none⟩ = some v) : (results fn tmps).run Try.prog w = .ok v w := by
  have hp' : tmps[p]?.getD undef = .pointer (some ⟨g, 0, none⟩) := by simpa using hp
  have ha : (isAgg 22).run Try.prog w = .ok false w := by rfl
  simp only [results, h, loadVar]
  simp [hp', asAddr, ha, hc, Result.andThen]
theorem sum_take {L : List Nat} {k : Nat} (hk : k < L.length) : (L.take (k + 1)).sum = (L.take k).sum + L[k] := by
  rw [List.take_succ_eq_append_getElem hk, List.sum_append]
  simp
theorem sum_le {L : List Nat} {k : Nat} : (L.take k).sum ≤ L.sum := by
  have := List.take_append_drop k L
  have h2 := congrArg List.sum this
  rw [List.sum_append] at h2
  omega
set_option maxHeartbeats 4000000 in
set_option maxRecDepth 100000 in
theorem gTog_in (n : Nat) (h3 : 5 ≤ n) (ao : Option Addr) (c : Nat) (L : List Nat) (w : World) (hL : GNmAt w.heap.size ao L w) (hn : L.length ≤ 1000) :
    CallsIn Fence.wide n Try.prog 58 #[.slice ao L.length c] w fun e w' => e = .returned (gV (min L.sum topN)) ∧ Below w.heap.size w w' := by
  obtain ⟨m, hm⟩ : ∃ m, m = L.length := ⟨_, rfl⟩
  have HM := Lib.hid hm
  have h9 : Hid ((L.take m).sum = L.sum) := by show _ = _; rw [hm, List.take_of_length_le (Nat.le_refl _)]
  rw [← hm] at hn
  rw [← hm]
  have HL := Lib.hid hL
  clear hm hL
  refine callsIn_of_wp_marks Try.func58 rfl trivial ?_ rfl
  simp only [Try.ntmps58, List.size_toArray, List.length_cons, List.length_nil, Nat.reduceAdd, Nat.reduceSub, Array.replicate_succ, Array.replicate_zero, List.push_toArray, List.append_toArray, List.nil_append, List.cons_append]
  gi_wp2_with fail
  refine ⟨trivial, fun _ => by omega, ?_⟩
  refine (callsIn_wide.2 (GNm_each _ _ _ _)).mono ?_
  rintro e w2 ⟨rfl, rfl⟩
  gi_wp2_with fail
  obtain ⟨W0, hW0⟩ : ∃ W0, W0 = ((w.alloc (.cells #[gV 0] 22)).alloc (.cells #[gV 0] 22)).alloc (.cells #[.slice ao m c] 50) := ⟨_, rfl⟩
  have hz0 : W0.heap.size = w.heap.size + 3 := by rw [hW0]; simp
  have hb0 : Below w.heap.size w W0 := by
    rw [hW0]
    exact (((Below.refl _ w).alloc (Nat.le_refl _) _).alloc (by simp) _).alloc (by simp; omega) _
  have hR0 : HasC W0 w.heap.size 22 #[gV 0] := by rw [hW0]; exact ((HasC.new w _ _).alloc _).alloc _
  have hN0 : HasC W0 (w.heap.size + 1) 22 #[gV 0] := by rw [hW0]; exact (HasC.at_ _ _ _ (by simp)).alloc _
  have hS0 : HasC W0 (w.heap.size + 2) 50 #[.slice ao m c] := by rw [hW0]; exact HasC.at_ _ _ _ (by simp)
  change Code.wpIn _ _ _ _ _ _ (((w.alloc (.cells #[gV 0] 22)).alloc (.cells #[gV 0] 22)).alloc (.cells #[.slice ao m c] 50))
  rw [← hW0]
  clear hW0
  refine range_fn (by omega) (GNm_it (w.heap.size + 2) w.heap.size ao c L (by have := HM.out; omega)) (enters_of Try.func65 (by kernel_rfl) rfl) rfl (fun _ => rfl)
    (fun k W => HasC W (w.heap.size + 2) 50 #[.slice ao m c] ∧ Below w.heap.size w W ∧ HasC W w.heap.size 22 #[gV 0] ∧ HasC W (w.heap.size + 1) 22 #[gV (L.take k).sum] ∧ Hid ((L.take k).sum ≤ topN))
    (fun j W => j = .ret ∧ Below w.heap.size w W ∧ HasC W w.heap.size 22 #[gV topN] ∧ Hid (topN < L.sum))
    (fun k W W' h hb => ⟨h.1.below hb h.1.lt, h.2.1.trans (hb.mono h.2.1.size), h.2.2.1.below hb h.2.2.1.lt, h.2.2.2.1.below hb h.2.2.2.1.lt, h.2.2.2.2⟩)
    (fun k W h => ⟨by rw [← HM.out]; exact h.1.cell 0, HL.out.below h.2.1⟩) ?_ ?_ ?_ ?_ ?_ ?_
  · rintro k W _ o ⟨hS, hbw, hR, hN, hle⟩ _
    exact ⟨hS.put (by omega) _, below_put hbw _ _ (by omega), hR.put (by omega) _, hN.put (by omega) _, hle⟩
  · rintro j W _ o ⟨hj, hbw, hR, hv⟩ _
    exact ⟨hj, below_put hbw _ _ (by omega), hR.put (by omega) _, hv⟩
  · intro o
    have hk : Below W0.heap.size W0 ((W0.alloc (.deferred (some []))).alloc (.loop o)) := ((Below.refl _ W0).alloc (Nat.le_refl _) _).alloc (by simp) _
    exact ⟨hS0.below hk hS0.lt, hb0.trans (hk.mono hb0.size), hR0.below hk hR0.lt, hN0.below hk hN0.lt, (by rw [List.take_zero]; exact Nat.zero_le _ : _ ≤ _)⟩
  · rintro k hk W ⟨hS, hbw, hR, hN, hle⟩ rd bz hLp
    have hst := Lib.hid (sum_take hk)
    have hsl := Lib.hid (sum_le (L := L) (k := k + 1))
    obtain ⟨x, hx⟩ : ∃ x, x = L[k] := ⟨_, rfl⟩
    obtain ⟨s, hs⟩ : ∃ s, s = (L.take k).sum := ⟨_, rfl⟩
    rw [← hx, ← hs] at hst
    rw [← hs] at hN hle
    unfold encGNm
    rw [← hx]
    have e1 : IntKind.u64.wrap (18446744073709551615 - (s : Int)) = 18446744073709551615 - (s : Int) := by have := hle.out; have ht : topN = 18446744073709551615 := rfl; rw [wrapU9]; omega
    have hL1 := hLp.put (.loop bz)
    have hS1 := hS.put (L := W0.heap.size + 1) (by omega) (.loop bz)
    have hR1 := hR.put (L := W0.heap.size + 1) (by omega) (.loop bz)
    have hN1 := hN.put (L := W0.heap.size + 1) (by omega) (.loop bz)
    have hbw1 := below_put hbw (W0.heap.size + 1) (.loop bz) (by omega)
    have HZ := Lib.hid hz0
    have HLP := Lib.hid hLp
    clear hR0 hN0 hS0 hb0 hx hs hS hbw hR hN hLp hz0
    gi_wp2_with fail
    refine ⟨HLP.out, ?_⟩
    generalize W.putObj (W0.heap.size + 1) (.loop bz) = V at hS1 hR1 hN1 hbw1 hL1 ⊢
    have cn := hN1.cell 0
    have zn := hN1.frozen 0
    have cr := hR1.cell 0
    have zr := hR1.frozen 0
    by_cases hov : 18446744073709551615 - (s : Int) < (x : Int)
    · have HV : Hid (topN < L.sum) := by have := hst.out; have := hsl.out; have ht : topN = 18446744073709551615 := rfl; show _ < _; omega
      gi_wp2_with fail
      exact ⟨hL1.set _ _ (by have := HZ.out; simp; omega) (by have := HZ.out; simp; omega), rfl, hbw1.setCell (p := ⟨w.heap.size, 0, none⟩) (by simp) _, (hR1.set 0 _).eq rfl, HV⟩
    · have HV : Hid ((L.take (k + 1)).sum ≤ topN) := by have := hst.out; have ht : topN = 18446744073709551615 := rfl; show _ ≤ _; omega
      have e2 : IntKind.u64.wrap ((s : Int) + (x : Int)) = ((s + x : Nat) : Int) := by rw [wrapU9]; omega
      gi_wp2_with fail
      have h1 := hL1.set ⟨w.heap.size + 1, 0, none⟩ (.int .u64 ((s : Int) + (x : Int))) (by have := HZ.out; simp; omega) (by have := HZ.out; simp; omega)
      have h2 := hS1.far ⟨w.heap.size + 1, 0, none⟩ (.int .u64 ((s : Int) + (x : Int))) (by simp)
      have h3 := hbw1.setCell (p := ⟨w.heap.size + 1, 0, none⟩) (by simp) (.int .u64 ((s : Int) + (x : Int)))
      have h4 := hR1.far ⟨w.heap.size + 1, 0, none⟩ (.int .u64 ((s : Int) + (x : Int))) (by simp)
      have h5 : HasC (V.setCell ⟨w.heap.size + 1, 0, none⟩ (.int .u64 ((s : Int) + (x : Int)))) (w.heap.size + 1) 22 #[.int .u64 ((s : Int) + (x : Int))] := (hN1.set 0 _).eq rfl
      have h6 : gV (L.take (k + 1)).sum = .int .u64 ((s : Int) + (x : Int)) := by rw [hst.out]; exact congrArg (Value.int .u64) (Int.natCast_add s x)
      rw [← h6] at h1 h2 h3 h4 h5 ⊢
      first | exact ⟨h1, h2, h3, h4, h5, HV⟩ | exact ⟨h1, h2, h3, h4, h5⟩
  · rintro W ⟨hS, hbw, hR, hN, hle⟩ hK
    have cn := hN.cell 0
    have cr := hR.cell 0
    have zr := hR.frozen 0
    have hv : min L.sum topN = (L.take m).sum := by have := h9.out; have := hle.out; rw [← HM.out] at this; omega
    rw [← HM.out] at cn
    have HV := Lib.hid hv
    have HZ := Lib.hid hz0
    clear hv hle hz0
    gi_wp2_with fail
    have hz0 := HZ.out
    have hK1 : (W.setCell ⟨w.heap.size, 0, none⟩ (gV (L.take m).sum)).heap[W0.heap.size]? = some (.deferred (some [])) := (Below.heap_setCell W ⟨w.heap.size, 0, none⟩ _ W0.heap.size (by simp; omega)).trans hK
    refine ⟨by simp, .inl ⟨_, _, rfl, run_takeDeferred (b := W0.heap.size) hK1, ?_⟩⟩
    have he1 : HasC (W.setCell ⟨w.heap.size, 0, none⟩ (gV (L.take m).sum)) w.heap.size 22 #[gV (L.take m).sum] := (hR.set 0 _).eq rfl
    have hb1 := hbw.setCell (p := ⟨w.heap.size, 0, none⟩) (by simp) (gV (L.take m).sum)
    exact ⟨_, gResult_num rfl _ _ w.heap.size _ rfl ((he1.put (L := W0.heap.size) (by omega) _).cell 0), by rw [HV.out]; rfl, below_put hb1 _ _ (by omega)⟩
  · rintro j W ⟨rfl, hbw, hR, hv⟩ hK
    gi_wp2_with fail
    refine ⟨by simp, .inl ⟨_, _, rfl, run_takeDeferred (b := W0.heap.size) hK, ?_⟩⟩
    exact ⟨_, gResult_num rfl _ _ w.heap.size _ rfl ((hR.put (L := W0.heap.size) (by omega) _).cell 0), by rw [show min L.sum topN = topN by have := hv.out; omega]; rfl, below_put hbw _ _ (by omega)⟩
theorem gTog2_any (a b : Nat) (W : World) : Calls Try.prog 58 #[.slice (some ⟨W.heap.size, 0, none⟩) 2 2] (W.alloc (.cells #[gV a, gV b] 22)) fun e w' => e = .returned (gV (plusS a b)) ∧ Below (W.heap.size + 1) (W.alloc (.cells #[gV a, gV b] 22)) w' := by
  have h := callsIn_wide.1 (gTog_in 5 (by decide) (some ⟨W.heap.size, 0, none⟩) 2 [a, b] (W.alloc (.cells #[gV a, gV b] 22)) (fun j hj => by
    have h := HasC.new W 22 #[gV a, gV b]
    have hj2 : j < 2 := by simpa using hj
    have : j = 0 ∨ j = 1 := by omega
    rcases this with rfl | rfl
    · exact ⟨_, _, rfl, by simp, h.cell 0⟩
    · exact ⟨_, _, rfl, by simp, h.cell 1⟩) (by simp))
  rw [World.size_alloc] at h
  refine h.mono ?_
  rintro e w' ⟨rfl, h2⟩
  exact ⟨by unfold plusS; simp, h2⟩
end Go.Proofs.Ytpdedogdffolnaa
