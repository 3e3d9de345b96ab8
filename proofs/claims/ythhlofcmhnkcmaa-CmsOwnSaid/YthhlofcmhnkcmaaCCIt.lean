/- Package cms: its iterators: each of numbers, each of counters. -/
import Derived.Test.YthhlofcmhnkcmaaCC1
import Derived.Test.YthhlofcmhnkcmaaCRange
import Derived.Test.YthhlofcmhnkcmaaHeldIn
namespace Go.Proofs.Ythhlofcmhnkcmaa
open Go.RowKit Go.Shelf
attribute [local go_sem] Oper.semAt_some

/-- A list of numbers below a block. -/
def NumAt (n0 : Nat) (ao : Option Addr) (L : List Nat) (w : World) : Prop :=
  ∀ j (hj : j < L.length), ∃ g o, ao = some ⟨g, o, none⟩ ∧ g < n0 ∧ w.cell? ⟨g, o + j, none⟩ = some (nV L[j])
theorem NumAt.below {n0 : Nat} {ao : Option Addr} {L : List Nat} {w W : World} (h : NumAt n0 ao L w) (hb : Below n0 w W) : NumAt n0 ao L W := fun j hj => by
  obtain ⟨g, o, h1, h2, h3⟩ := h j hj
  exact ⟨g, o, h1, h2, (hb.cell (p := ⟨g, o + j, none⟩) h2).trans h3⟩
theorem NumSl.at_ {w : World} {v : Value} {L : List Nat} (h : NumSl w v L) : ∃ ao c, v = .slice ao L.length c ∧ NumAt w.heap.size ao L w := by
  rcases h with ⟨a, c, rfl, _, rfl⟩ | ⟨g, o, c, rfl, _, hg, hc⟩
  · exact ⟨a, c, rfl, fun j hj => absurd hj (by simp)⟩
  · exact ⟨_, _, rfl, fun j hj => ⟨g, o, rfl, hg, hc j hj⟩⟩
def encN (x : Nat) : Array Value := #[nV x]

theorem each_num (Bn n0 : Nat) (ao : Option Addr) (c : Nat) (L : List Nat) (hn1 : L.length ≤ 1000) :
    IterOk 55 #[.pointer (some ⟨Bn, 0, none⟩)] encN L (fun W => W.cell? ⟨Bn, 0, none⟩ = some (.slice ao L.length c) ∧ NumAt n0 ao L W) := by
  intro n hn l J Jx _ hJb hY W h0
  show CallsIn Fence.wide n Try.prog 55 #[.func (.yield l) #[] #[], .pointer (some ⟨Bn, 0, none⟩)] W _
  obtain ⟨m, hm⟩ : ∃ m, m = L.length := ⟨_, rfl⟩
  have HM := Lib.hid hm
  have hb00 := (hJb 0 W h0).1
  rw [← hm] at hb00
  have HJ := Lib.hid hJb
  have HY := Lib.hid hY
  rw [← hm]
  rw [← hm] at hn1
  clear hm hJb hY
  refine callsIn_of_wp Try.func55 rfl trivial ?_ rfl
  simp only [Try.ntmps55, List.size_toArray, List.length_cons, List.length_nil, Nat.reduceAdd, Nat.reduceSub, Array.replicate_succ, Array.replicate_zero, List.push_toArray, List.append_toArray, List.nil_append, List.cons_append]
  gi_wp2
  gi_loopw [7] (fun i wr => ∃ k : Nat, k ≤ m ∧ i = .int .i64 k ∧ J k wr) (fun i wr => m - (intOf i).toNat)
  case atStart => exact ⟨0, Nat.zero_le _, rfl, h0⟩
  case round =>
    obtain ⟨k, hk, rfl, hJ⟩ := hrel
    obtain ⟨hBn, hC⟩ := HJ.out k wr hJ
    by_cases hlt : k < m
    · have hkl : k < L.length := by have := HM.out; omega
      obtain ⟨g, o, rfl, hg, hc1⟩ := hC k hkl
      obtain ⟨fn, tmps, assign, body, hy, hR⟩ := HY.out k hkl wr hJ
      obtain ⟨x, hx⟩ : ∃ x : Nat, x = L[k] := ⟨_, rfl⟩
      rw [← hx] at hc1 hy
      have hBn' : wr.cell? ⟨Bn, 0, none⟩ = some (.slice (some ⟨g, o, none⟩) m c) := by
        rw [HM.out]
        exact hBn
      clear hx hb00 hBn hC
      dsimp only [encN] at hy
      gi_wp2
      refine hR.mono ?_
      rintro e W3 (⟨rfl, hJ3⟩ | ⟨rfl, hJx3⟩)
      · gi_wp2
        go_roundw
        case rel => exact ⟨k + 1, by omega, by go_num, hJ3⟩
        case measure => simp [intOf]; omega
      · gi_wp2
        refine bodyPost_ret (results_none rfl _ _ _) rfl ?_
        exact ⟨⟨_, rfl⟩, .inr hJx3⟩
    · obtain rfl : k = m := by omega
      gi_wp2
      go_end0
      exact ⟨⟨_, rfl⟩, .inl hJ⟩
theorem eachNum_any (ao : Option Addr) (n c : Nat) (w : World) :
    Calls Try.prog 52 #[.slice ao n c] w fun e w' => e = .returned (.func (.func 55) #[] #[.pointer (some ⟨w.heap.size, 0, none⟩)]) ∧ w' = w.alloc (.cells #[.slice ao n c] 22) := by
  go_enter Try.func52, Try.ntmps52
  go_wp2
  go_ret
  exact ⟨rfl, rfl⟩

/-- Counters in a list: rows, columns, and the numbers' slice. -/
structure Cx where
  r : Int
  c : Int
  a : Option Addr
  n : Nat
  p : Nat
def Cx.v (x : Cx) : Value := .slice x.a x.n x.p
/-- A list of counters below a block. -/
def CmAt (n0 : Nat) (ao : Option Addr) (L : List Cx) (w : World) : Prop :=
  ∀ j (hj : j < L.length), ∃ g o, ao = some ⟨g, o, none⟩ ∧ g < n0 ∧ w.cell? ⟨g, o + j * 3, none⟩ = some (.int .i64 L[j].r) ∧ w.cell? ⟨g, o + j * 3 + 1, none⟩ = some (.int .i64 L[j].c) ∧ w.cell? ⟨g, o + j * 3 + 2, none⟩ = some L[j].v
theorem CmAt.below {n0 : Nat} {ao : Option Addr} {L : List Cx} {w W : World} (h : CmAt n0 ao L w) (hb : Below n0 w W) : CmAt n0 ao L W := fun j hj => by
  obtain ⟨g, o, h1, h2, h3, h4, h5⟩ := h j hj
  exact ⟨g, o, h1, h2, (hb.cell (p := ⟨g, o + j * 3, none⟩) h2).trans h3, (hb.cell (p := ⟨g, o + j * 3 + 1, none⟩) h2).trans h4, (hb.cell (p := ⟨g, o + j * 3 + 2, none⟩) h2).trans h5⟩
def encC (x : Cx) : Array Value := #[cV x.r x.c x.v]
theorem each_cms (Bn n0 : Nat) (ao : Option Addr) (c : Nat) (L : List Cx) (hn1 : L.length ≤ 1000) :
    IterOk 53 #[.pointer (some ⟨Bn, 0, none⟩)] encC L (fun W => W.cell? ⟨Bn, 0, none⟩ = some (.slice ao L.length c) ∧ CmAt n0 ao L W) := by
  intro n hn l J Jx hJB hJb hY W h0
  show CallsIn Fence.wide n Try.prog 53 #[.func (.yield l) #[] #[], .pointer (some ⟨Bn, 0, none⟩)] W _
  obtain ⟨m, hm⟩ : ∃ m, m = L.length := ⟨_, rfl⟩
  have HM := Lib.hid hm
  have hb00 := (hJb 0 W h0).1
  rw [← hm] at hb00
  have HJ := Lib.hid hJb
  have HJB := Lib.hid hJB
  have HY := Lib.hid hY
  rw [← hm]
  rw [← hm] at hn1
  clear hm hJb hY hJB
  refine callsIn_of_wp Try.func53 rfl trivial ?_ rfl
  simp only [Try.ntmps53, List.size_toArray, List.length_cons, List.length_nil, Nat.reduceAdd, Nat.reduceSub, Array.replicate_succ, Array.replicate_zero, List.push_toArray, List.append_toArray, List.nil_append, List.cons_append]
  gi_wp2
  gi_loopw [7] (fun i wr => ∃ k : Nat, k ≤ m ∧ i = .int .i64 k ∧ J k wr) (fun i wr => m - (intOf i).toNat)
  case atStart => exact ⟨0, Nat.zero_le _, rfl, h0⟩
  case round =>
    obtain ⟨k, hk, rfl, hJ⟩ := hrel
    obtain ⟨hBn, hC⟩ := HJ.out k wr hJ
    by_cases hlt : k < m
    · have hkl : k < L.length := by have := HM.out; omega
      obtain ⟨g, o, rfl, hg, hc1, hc2, hc3⟩ := hC k hkl
      have hJ2 := HJB.out k wr _ hJ ((Below.refl _ wr).alloc (Nat.le_refl _) (.cells #[.int .i64 L[k].r, .int .i64 L[k].c, L[k].v] 24))
      obtain ⟨fn, tmps, assign, body, hy, hR⟩ := HY.out k hkl _ hJ2
      obtain ⟨x, hx⟩ : ∃ x : Cx, x = L[k] := ⟨_, rfl⟩
      dsimp only [encC] at hy
      rw [← hx] at hy hR hc1 hc2 hc3
      obtain ⟨x1, x2, xa, xn, xp⟩ := x
      dsimp only [Cx.v] at hy hR hc1 hc2 hc3
      unfold cV at hy
      have hBn' : wr.cell? ⟨Bn, 0, none⟩ = some (.slice (some ⟨g, o, none⟩) m c) := by
        rw [HM.out]
        exact hBn
      have HRR := Lib.hid hR
      clear hx hb00 hBn hC hJ2 hR
      gi_wp2
      refine HRR.out.mono ?_
      rintro e W3 (⟨rfl, hJ3⟩ | ⟨rfl, hJx3⟩)
      · gi_wp2
        go_roundw
        case rel => exact ⟨k + 1, by omega, by go_num, hJ3⟩
        case measure => simp [intOf]; omega
      · gi_wp2
        refine bodyPost_ret (results_none rfl _ _ _) rfl ?_
        exact ⟨⟨_, rfl⟩, .inr hJx3⟩
    · obtain rfl : k = m := by omega
      gi_wp2
      go_end0
      exact ⟨⟨_, rfl⟩, .inl hJ⟩
theorem eachCms_any (ao : Option Addr) (n c : Nat) (w : World) :
    Calls Try.prog 47 #[.slice ao n c] w fun e w' => e = .returned (.func (.func 53) #[] #[.pointer (some ⟨w.heap.size, 0, none⟩)]) ∧ w' = w.alloc (.cells #[.slice ao n c] 71) := by
  go_enter Try.func47, Try.ntmps47
  go_wp2
  go_ret
  exact ⟨rfl, rfl⟩
end Go.Proofs.Ythhlofcmhnkcmaa
