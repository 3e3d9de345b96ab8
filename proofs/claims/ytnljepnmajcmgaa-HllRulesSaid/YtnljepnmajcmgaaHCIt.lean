/- Package hll: its three iterators: each of numbers, each of registers, pairs. -/
import Derived.Test.YtnljepnmajcmgaaHC2
import Derived.Test.YtnljepnmajcmgaaHRange
import Derived.Test.YtnljepnmajcmgaaHeldIn
namespace Go.Proofs.Ytnljepnmajcmgaa
open Go.RowKit Go.Shelf
attribute [local go_sem] Oper.semAt_some

/-- A list of numbers below a block. -/
def NumAt (n0 : Nat) (ao : Option Addr) (L : List Nat) (w : World) : Prop :=
  ∀ j (hj : j < L.length), ∃ g o, ao = some ⟨g, o, none⟩ ∧ g < n0 ∧ w.cell? ⟨g, o + j, none⟩ = some (nV L[j])
theorem NumAt.below {n0 : Nat} {ao : Option Addr} {L : List Nat} {w W : World} (h : NumAt n0 ao L w) (hb : Below n0 w W) : NumAt n0 ao L W := fun j hj => by
  obtain ⟨g, o, h1, h2, h3⟩ := h j hj
  exact ⟨g, o, h1, h2, (hb.cell (p := ⟨g, o + j, none⟩) h2).trans h3⟩
theorem NumSl.at_ {w : World} {v : Value} {L : List Nat} (h : NumSl w v L) : ∃ ao c, v = .slice ao L.length c ∧ NumAt w.heap.size ao L w := by
  rcases h with ⟨a, c, rfl, _, rfl⟩ | ⟨g, o, c, rfl, _, hg, hc⟩
  · exact ⟨a, c, rfl, fun j hj => absurd hj (by simp)⟩
  · exact ⟨_, _, rfl, fun j hj => ⟨g, o, rfl, hg, hc j hj⟩⟩
def encN (x : Nat) : Array Value := #[nV x]

theorem each_num (Bn n0 : Nat) (ao : Option Addr) (c : Nat) (L : List Nat) (hn1 : L.length ≤ 1000) :
    IterOk 52 #[.pointer (some ⟨Bn, 0, none⟩)] encN L (fun W => W.cell? ⟨Bn, 0, none⟩ = some (.slice ao L.length c) ∧ NumAt n0 ao L W) := by
  intro n hn l J Jx _ hJb hY W h0
  show CallsIn Fence.wide n Try.prog 52 #[.func (.yield l) #[] #[], .pointer (some ⟨Bn, 0, none⟩)] W _
  obtain ⟨m, hm⟩ : ∃ m, m = L.length := ⟨_, rfl⟩
  have HM := Lib.hid hm
  have hb00 := (hJb 0 W h0).1
  rw [← hm] at hb00
  have HJ := Lib.hid hJb
  have HY := Lib.hid hY
  rw [← hm]
  rw [← hm] at hn1
  clear hm hJb hY
  refine callsIn_of_wp Try.func52 rfl trivial ?_ rfl
  simp only [Try.ntmps52, List.size_toArray, List.length_cons, List.length_nil, Nat.reduceAdd, Nat.reduceSub, Array.replicate_succ, Array.replicate_zero, List.push_toArray, List.append_toArray, List.nil_append, List.cons_append]
  gi_wp2
  gi_loopw [7] (fun i wr => ∃ k : Nat, k ≤ m ∧ i = .int .i64 k ∧ J k wr) (fun i wr => m - (intOf i).toNat)
  case atStart => exact ⟨0, Nat.zero_le _, rfl, h0⟩
  case round =>
    obtain ⟨k, hk, rfl, hJ⟩ := hrel
    obtain ⟨hBn, hC⟩ := HJ.out k wr hJ
    by_cases hlt : k < m
    · have hkl : k < L.length := by have := HM.out; omega
      obtain ⟨g, o, rfl, hg, hc1⟩ := hC k hkl
      obtain ⟨fn, tmps, assign, body, hy, hR⟩ := HY.out k hkl wr hJ
      obtain ⟨x, hx⟩ : ∃ x : Nat, x = L[k] := ⟨_, rfl⟩
      rw [← hx] at hc1 hy
      have hBn' : wr.cell? ⟨Bn, 0, none⟩ = some (.slice (some ⟨g, o, none⟩) m c) := by
        rw [HM.out]
        exact hBn
      clear hx hb00 hBn hC
      dsimp only [encN] at hy
      gi_wp2
      refine hR.mono ?_
      rintro e W3 (⟨rfl, hJ3⟩ | ⟨rfl, hJx3⟩)
      · gi_wp2
        go_roundw
        case rel => exact ⟨k + 1, by omega, by go_num, hJ3⟩
        case measure => simp [intOf]; omega
      · gi_wp2
        refine bodyPost_ret (results_none rfl _ _ _) rfl ?_
        exact ⟨⟨_, rfl⟩, .inr hJx3⟩
    · obtain rfl : k = m := by omega
      gi_wp2
      go_end0
      exact ⟨⟨_, rfl⟩, .inl hJ⟩
theorem eachNum_any (ao : Option Addr) (n c : Nat) (w : World) :
    Calls Try.prog 48 #[.slice ao n c] w fun e w' => e = .returned (.func (.func 52) #[] #[.pointer (some ⟨w.heap.size, 0, none⟩)]) ∧ w' = w.alloc (.cells #[.slice ao n c] 24) := by
  go_enter Try.func48, Try.ntmps48
  go_wp2
  go_ret
  exact ⟨rfl, rfl⟩

/-- Registers: bits, ranks. -/
abbrev Rg := Int × List Nat
/-- A list of registers below a block. -/
def HllAt (n0 : Nat) (ao : Option Addr) (L : List Rg) (w : World) : Prop :=
  ∀ j (hj : j < L.length), ∃ g o, ao = some ⟨g, o, none⟩ ∧ g < n0 ∧ w.cell? ⟨g, o + j * 2, none⟩ = some (.int .i64 L[j].1) ∧ w.cell? ⟨g, o + j * 2 + 1, none⟩ = some (.string (regS L[j].2))
theorem HllAt.below {n0 : Nat} {ao : Option Addr} {L : List Rg} {w W : World} (h : HllAt n0 ao L w) (hb : Below n0 w W) : HllAt n0 ao L W := fun j hj => by
  obtain ⟨g, o, h1, h2, h3, h4⟩ := h j hj
  exact ⟨g, o, h1, h2, (hb.cell (p := ⟨g, o + j * 2, none⟩) h2).trans h3, (hb.cell (p := ⟨g, o + j * 2 + 1, none⟩) h2).trans h4⟩
def encH (x : Rg) : Array Value := #[.agg #[.int .i64 x.1, .string (regS x.2)]]
theorem each_hll (Bn n0 : Nat) (ao : Option Addr) (c : Nat) (L : List Rg) (hn1 : L.length ≤ 1000) :
    IterOk 50 #[.pointer (some ⟨Bn, 0, none⟩)] encH L (fun W => W.cell? ⟨Bn, 0, none⟩ = some (.slice ao L.length c) ∧ HllAt n0 ao L W) := by
  intro n hn l J Jx hJB hJb hY W h0
  show CallsIn Fence.wide n Try.prog 50 #[.func (.yield l) #[] #[], .pointer (some ⟨Bn, 0, none⟩)] W _
  obtain ⟨m, hm⟩ : ∃ m, m = L.length := ⟨_, rfl⟩
  have HM := Lib.hid hm
  have hb00 := (hJb 0 W h0).1
  rw [← hm] at hb00
  have HJ := Lib.hid hJb
  have HJB := Lib.hid hJB
  have HY := Lib.hid hY
  rw [← hm]
  rw [← hm] at hn1
  clear hm hJb hY hJB
  refine callsIn_of_wp Try.func50 rfl trivial ?_ rfl
  simp only [Try.ntmps50, List.size_toArray, List.length_cons, List.length_nil, Nat.reduceAdd, Nat.reduceSub, Array.replicate_succ, Array.replicate_zero, List.push_toArray, List.append_toArray, List.nil_append, List.cons_append]
  gi_wp2
  gi_loopw [7] (fun i wr => ∃ k : Nat, k ≤ m ∧ i = .int .i64 k ∧ J k wr) (fun i wr => m - (intOf i).toNat)
  case atStart => exact ⟨0, Nat.zero_le _, rfl, h0⟩
  case round =>
    obtain ⟨k, hk, rfl, hJ⟩ := hrel
    obtain ⟨hBn, hC⟩ := HJ.out k wr hJ
    by_cases hlt : k < m
    · have hkl : k < L.length := by have := HM.out; omega
      obtain ⟨g, o, rfl, hg, hc1, hc2⟩ := hC k hkl
      have hJ2 := HJB.out k wr _ hJ ((Below.refl _ wr).alloc (Nat.le_refl _) (.cells #[.int .i64 L[k].1, .string (regS L[k].2)] 23))
      obtain ⟨fn, tmps, assign, body, hy, hR⟩ := HY.out k hkl _ hJ2
      obtain ⟨x, hx⟩ : ∃ x : Int, x = L[k].1 := ⟨_, rfl⟩
      obtain ⟨s, hs⟩ : ∃ s : ByteArray, s = regS L[k].2 := ⟨_, rfl⟩
      dsimp only [encH] at hy
      rw [← hx, ← hs] at hy hR
      rw [← hx] at hc1
      rw [← hs] at hc2
      have hBn' : wr.cell? ⟨Bn, 0, none⟩ = some (.slice (some ⟨g, o, none⟩) m c) := by
        rw [HM.out]
        exact hBn
      have HRR := Lib.hid hR
      clear hx hs hb00 hBn hC hJ2 hR
      gi_wp2
      refine HRR.out.mono ?_
      rintro e W3 (⟨rfl, hJ3⟩ | ⟨rfl, hJx3⟩)
      · gi_wp2
        go_roundw
        case rel => exact ⟨k + 1, by omega, by go_num, hJ3⟩
        case measure => simp [intOf]; omega
      · gi_wp2
        refine bodyPost_ret (results_none rfl _ _ _) rfl ?_
        exact ⟨⟨_, rfl⟩, .inr hJx3⟩
    · obtain rfl : k = m := by omega
      gi_wp2
      go_end0
      exact ⟨⟨_, rfl⟩, .inl hJ⟩
theorem eachHll_any (ao : Option Addr) (n c : Nat) (w : World) :
    Calls Try.prog 44 #[.slice ao n c] w fun e w' => e = .returned (.func (.func 50) #[] #[.pointer (some ⟨w.heap.size, 0, none⟩)]) ∧ w' = w.alloc (.cells #[.slice ao n c] 69) := by
  go_enter Try.func44, Try.ntmps44
  go_wp2
  go_ret
  exact ⟨rfl, rfl⟩
end Go.Proofs.Ytnljepnmajcmgaa
