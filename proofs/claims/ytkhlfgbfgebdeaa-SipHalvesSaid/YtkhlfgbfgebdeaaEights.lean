/- The iterator over a text's eights of bytes: what it hands over, and when it stops. -/
import Derived.RangeFuncNested
import Derived.RangeFuncBound
import Derived.RangeFuncCalls
import Derived.RangeFuncLeaves
import Derived.Shelf.Abstract
import Derived.Shelf.RegionOpen
import Derived.WalkKit
import Derived.OwnWalkIn
import Derived.TacticsInMore
import Derived.LoopNIn
import Derived.LoopIn
import Derived.Test.YtkhlfgbfgebdeaaRound
import Derived.Lib.Hide
namespace Go.Proofs.Ytkhlfgbfgebdeaa
open Go.RowKit Go.Shelf
attribute [local go_sem] Oper.semAt_some

/-- The eights of a text, and what is left behind them. -/
def pcs : Nat → ByteArray → List ByteArray
  | 0, t => [t]
  | k + 1, t => if 8 ≤ t.size then t.extract 0 8 :: pcs k (t.extract 8 t.size) else [t]

theorem pcs_pos (k : Nat) (t : ByteArray) : 0 < (pcs k t).length := by
  cases k with
  | zero => simp [pcs]
  | succ k => unfold pcs; split <;> simp
def strLen : Value → Nat
  | .string t => t.size
  | _ => 0

theorem eights1 (n : Nat) (hn : 1 ≤ n) (l Bn : Nat) (s : ByteArray) (N : Nat) (J Jx : List ByteArray → World → Prop)
    (hY : ∀ pre x W, J pre W → pre.length < N → YieldAt Fence.wide (n - 1) Try.prog l #[.string x] W fun e W' =>
      (e = .returned (.bool true) ∧ J (pre ++ [x]) W' ∧ True) ∨ (e = .returned (.bool false) ∧ Jx (pre ++ [x]) W'))
    (hs : s.size ≤ maxLen) (W : World) (hN : (pcs s.size s).length ≤ N) (hBn : W.cell? ⟨Bn, 0, none⟩ = some (.string s)) (h0 : J [] W) :
    CallsIn Fence.wide n Try.prog 28 #[.func (.yield l) #[] #[], .pointer (some ⟨Bn, 0, none⟩)] W fun e W' => (∃ v, e = .returned v) ∧
      ((∃ ys, ys = pcs s.size s ∧ J ys W') ∨ (∃ pre, pre <+: pcs s.size s ∧ Jx pre W')) := by
  unfold maxLen at hs
  refine callsIn_of_wp Try.func28 rfl trivial ?_ rfl
  simp only [Try.ntmps28, List.size_toArray, List.length_cons, List.length_nil, Nat.reduceAdd, Nat.reduceSub, Array.replicate_succ, Array.replicate_zero, List.push_toArray, List.append_toArray, List.nil_append, List.cons_append]
  gi_wp2
  gi_loopw [3] (fun p wr => ∃ (pre : List ByteArray) (k : Nat) (t : ByteArray), p = .string t ∧ t.size ≤ k ∧ t.size ≤ 9223372036854775807 ∧ pcs s.size s = pre ++ pcs k t ∧ J pre wr)
    (fun p wr => strLen p)
  case atStart => exact ⟨[], s.size, s, rfl, Nat.le_refl _, by omega, rfl, h0⟩
  case round =>
    obtain ⟨pre, k, t, rfl, hk, hmax, hx, hJ⟩ := hrel
    have HX := Lib.hid hx
    have hle : pre.length < N := by
      have := congrArg List.length hx
      have hp := pcs_pos k t
      rw [List.length_append] at this
      omega
    clear hx
    by_cases h8 : 8 ≤ t.size
    · obtain ⟨fn, tmps, assign, body, hy, hR⟩ := hY pre (t.extract 0 8) wr hJ hle
      gi_wp2
      refine hR.mono ?_
      rintro e W3 (⟨rfl, hJ3, -⟩ | ⟨rfl, hJx3⟩)
      · gi_wp2
        go_roundw
        case rel =>
          refine ⟨pre ++ [t.extract 0 8], k - 1, t.extract 8 t.size, rfl, by simp; omega, by simp; omega, ?_, hJ3⟩
          rw [HX.out]
          obtain ⟨m, rfl⟩ : ∃ m, k = m + 1 := ⟨k - 1, by omega⟩
          simp [pcs, h8]
        case measure => simp [strLen]; omega
      · gi_wp2
        refine bodyPost_ret (results_none rfl _ _ _) rfl ?_
        refine ⟨⟨_, rfl⟩, .inr ⟨pre ++ [t.extract 0 8], ?_, hJx3⟩⟩
        rw [HX.out]
        obtain ⟨m, rfl⟩ : ∃ m, k = m + 1 := ⟨k - 1, by omega⟩
        exact ⟨pcs m (t.extract 8 t.size), by simp [pcs, h8]⟩
    · have hlast : pcs k t = [t] := by cases k <;> simp [pcs, h8]
      have HL := Lib.hid hlast
      clear hlast
      obtain ⟨fn, tmps, assign, body, hy, hR⟩ := hY pre t wr hJ hle
      gi_wp2
      refine hR.mono ?_
      rintro e W3 (⟨rfl, hJ3, -⟩ | ⟨rfl, hJx3⟩)
      · gi_wp2
        go_end0
        exact ⟨⟨_, rfl⟩, .inl ⟨pre ++ [t], by rw [HX.out, HL.out], hJ3⟩⟩
      · gi_wp2
        go_end0
        exact ⟨⟨_, rfl⟩, .inr ⟨pre ++ [t], by rw [HX.out, HL.out]; exact List.prefix_refl _, hJx3⟩⟩

/-- The iterator's contract. -/
theorem eights_stops (n : Nat) (hn : 1 ≤ n) (Bn : Nat) (s : ByteArray) (hs : s.size ≤ maxLen) (w : World) (hlt : Bn < w.heap.size) (hBn : w.cell? ⟨Bn, 0, none⟩ = some (.string s)) :
    SeqStopsK Fence.wide n Try.prog 28 #[.pointer (some ⟨Bn, 0, none⟩)] (fun x : ByteArray => #[.string x]) (fun _ _ => True) (fun xs => xs = pcs s.size s) (fun pre => pre <+: pcs s.size s) (pcs s.size s).length w := by
  intro l J Jx W hW hJ hJx hY h0
  refine (eights1 n hn l Bn s _ J Jx hY hs W (Nat.le_refl _) ((hW.cell (p := ⟨Bn, 0, none⟩) hlt).trans hBn) h0).mono ?_
  rintro e W' ⟨hv, ⟨ys, rfl, hJ'⟩ | ⟨pre, hp, hJ'⟩⟩
  · exact ⟨hv, .inl ⟨_, rfl, hJ'⟩⟩
  · exact ⟨hv, .inr ⟨pre, hp, hJ'⟩⟩

theorem eights_any (s : ByteArray) (w : World) :
    Calls Try.prog 22 #[.string s] w fun e w' => e = .returned (.func (.func 28) #[] #[.pointer (some ⟨w.heap.size, 0, none⟩)]) ∧ w' = w.alloc (.cells #[.string s] 9) := by
  go_enter Try.func22, Try.ntmps22
  go_wp2
  go_ret
  exact ⟨rfl, rfl⟩
end Go.Proofs.Ytkhlfgbfgebdeaa
