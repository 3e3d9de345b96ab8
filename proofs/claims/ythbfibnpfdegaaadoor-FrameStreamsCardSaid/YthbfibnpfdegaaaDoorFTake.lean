/- Package field's reader: a part taken off what is left; the bytes one after another (an iterator). -/
import Derived.Test.YthbfibnpfdegaaaDoorFPut
import Derived.Test.YthbfibnpfdegaaaDoorFFold
import Derived.RangeFuncNested
import Derived.RangeFuncBound
import Derived.RangeFuncCalls
import Derived.RangeFuncLeaves
import Derived.Shelf.Abstract
import Derived.Shelf.RegionOpen
import Derived.OwnWalkIn
import Derived.TacticsInMore
import Derived.LoopNIn
import Derived.LoopIn
namespace Go.Proofs.YthbfibnpfdegaaaDoor
open Go.RowKit Go.Shelf
attribute [local go_sem] Oper.semAt_some

section
variable {x y z : World} {b : Nat}
theorem grb_refl (b : Nat) (w : World) : w.grownBy w (some b) := .refl _ _
theorem grb_trans (h : x.grownBy y (some b)) (k : y.grownBy z (some b)) : x.grownBy z (some b) :=
  ⟨k.os.trans h.os, k.tape.trans h.tape, k.output.trans h.output, Nat.le_trans h.size k.size,
    fun i hi hn => (k.block i (Nat.lt_of_lt_of_le hi h.size) hn).trans (h.block i hi hn)⟩
theorem grb_of_below (h : Below x.heap.size x y) : x.grownBy y (some b) := ⟨h.os, h.tape, h.output, h.size, fun i hi _ => h.block i hi⟩
theorem grb_below (h : x.grownBy y (some b)) (k : Below y.heap.size y z) : x.grownBy z (some b) := grb_trans h (grb_of_below k)
theorem grb_drewN (h : x.grownBy y (some b)) (n : Nat) : x.grownBy (y.drewN n) (some b) := grb_trans h ⟨rfl, rfl, rfl, Nat.le_refl _, fun _ _ _ => rfl⟩
theorem grb_alloc (h : x.grownBy y (some b)) (o : Obj) : x.grownBy (y.alloc o) (some b) := grb_below h ((Below.refl _ _).alloc (Nat.le_refl _) _)
theorem grb_set (h : x.grownBy y (some b)) (p : Addr) (hp : p.block = b ∨ x.heap.size ≤ p.block) (u : Value) : x.grownBy (y.setCell p u) (some b) :=
  ⟨h.os, h.tape, h.output, by simp [World.setCell]; exact h.size, fun i hi hn => (Below.heap_setCell _ _ _ _ (fun e => by
    rcases hp with hp | hp
    · exact hn (by rw [e, hp])
    · omega)).trans (h.block i hi hn)⟩
theorem grb_down {B : Nat} (h : x.grownBy y (some b)) (hB : B ≤ x.heap.size) (hb : B ≤ b) {w : World} (hw : Below B w x) : Below B w y := hw.grown h hB (fun k e => by cases e; exact hb)
end

/-- The reader's block: what is left, and all of it. -/
def Rd (w : World) (b : Nat) (rest whole : ByteArray) : Prop := HasC w b 96 #[.string rest, .string whole]

set_option maxRecDepth 100000 in
theorem take_ok (b n : Nat) (rest whole : ByteArray) (hn : n ≤ rest.size) (w : World) (h : HasC w b 96 #[.string rest, .string whole]) :
    Calls Tryd.prog 55 #[.pointer (some ⟨b, 0, none⟩), .int .i64 (n : Int)] w fun e w' =>
      e = .returned (.tuple #[.string (rest.extract 0 n), .nilIface]) ∧ w' = w.setCell ⟨b, 0, none⟩ (.string (rest.extract n rest.size)) := by
  have c0 : w.cell? ⟨b, 0, none⟩ = some (.string rest) := h.cell 0
  have z0 := h.frozen 0
  clear h
  go_enter Tryd.func55, Tryd.ntmps55
  go_wp2
  go_ret2
  exact ⟨rfl, rfl⟩
set_option maxRecDepth 100000 in
theorem take_no {am af : Addr} {N : Nat} (b n : Nat) (rest whole : ByteArray) (hn : rest.size < n) (w : World) (h : HasC w b 96 #[.string rest, .string whole]) (hS : Sent am af N w) :
    Calls Tryd.prog 55 #[.pointer (some ⟨b, 0, none⟩), .int .i64 (n : Int)] w fun e w' =>
      e = .returned (.tuple #[.string { data := #[] }, .iface 128 (.pointer (some am))]) ∧ ∃ k, w' = w.drewN k := by
  have c0 : w.cell? ⟨b, 0, none⟩ = some (.string rest) := h.cell 0
  have z0 := h.frozen 0
  have hm := hS.more
  clear h
  go_enter Tryd.func55, Tryd.ntmps55
  go_wp2
  go_quiet (fail)
  go_wp2
  go_ret2
  exact ⟨rfl, _, rfl⟩

theorem bytes_any (b : Nat) (w : World) :
    Calls Tryd.prog 54 #[.pointer (some ⟨b, 0, none⟩)] w fun e w' => e = .returned (.func (.func 57) #[] #[.pointer (some ⟨w.heap.size, 0, none⟩)]) ∧ w' = w.alloc (.cells #[.pointer (some ⟨b, 0, none⟩)] 121) := by
  go_enter Tryd.func54, Tryd.ntmps54
  go_wp2
  go_ret
  exact ⟨rfl, rfl⟩

def encP (x : Nat × UInt8) : Array Value := #[.int .i64 (x.1 : Int), .int .u8 (x.2.toNat : Int)]
/-- What a round that goes on keeps: the reader's block, and the one that points there. -/
def Kp2 (b c : Nat) (W W' : World) : Prop := W'.heap[b]? = W.heap[b]? ∧ W'.heap[c]? = W.heap[c]?

set_option maxRecDepth 100000 in
set_option maxHeartbeats 400000 in
theorem bytes1 (n : Nat) (hn : 1 ≤ n) (l Bn b : Nat) (s whole : ByteArray) (N : Nat) (J Jx : List (Nat × UInt8) → World → Prop)
    (hY : ∀ pre x W, J pre W → pre.length < N → YieldAt Fence.wide (n - 1) Tryd.prog l (encP x) W fun e W' =>
      (e = .returned (.bool true) ∧ J (pre ++ [x]) W' ∧ Kp2 b Bn W W') ∨ (e = .returned (.bool false) ∧ Jx (pre ++ [x]) W'))
    (hs : s.size ≤ maxLen) (W : World) (hN : s.size ≤ N) (hBn : HasC W Bn 121 #[.pointer (some ⟨b, 0, none⟩)]) (hb : HasC W b 96 #[.string s, .string whole]) (h0 : J [] W) :
    CallsIn Fence.wide n Tryd.prog 57 #[.func (.yield l) #[] #[], .pointer (some ⟨Bn, 0, none⟩)] W fun e W' => (∃ v, e = .returned v) ∧
      ((∃ ys, ys = prs s.data.toList ∧ J ys W') ∨ (∃ pre, pre <+: prs s.data.toList ∧ Jx pre W')) := by
  unfold maxLen at hs
  have c0 : W.cell? ⟨Bn, 0, none⟩ = some (.pointer (some ⟨b, 0, none⟩)) := hBn.cell 0
  have c1 : W.cell? ⟨b, 0, none⟩ = some (.string s) := hb.cell 0
  refine callsIn_of_wp Tryd.func57 rfl trivial ?_ rfl
  simp only [Tryd.ntmps57, List.size_toArray, List.length_cons, List.length_nil, Nat.reduceAdd, Nat.reduceSub, Array.replicate_succ, Array.replicate_zero, List.push_toArray, List.append_toArray, List.nil_append, List.cons_append]
  gi_wp2
  gi_loopw [9] (fun i wr => ∃ k : Nat, k ≤ s.size ∧ i = .int .i64 k ∧ J (prs (s.data.toList.take k)) wr ∧ HasC wr Bn 121 #[.pointer (some ⟨b, 0, none⟩)] ∧ HasC wr b 96 #[.string s, .string whole])
    (fun i _ => s.size - (intOf i).toNat)
  case atStart => exact ⟨0, Nat.zero_le _, rfl, h0, hBn, hb⟩
  case round =>
    obtain ⟨k, hk, rfl, hJ, hB1, hb1⟩ := hrel
    have d0 : wr.cell? ⟨Bn, 0, none⟩ = some (.pointer (some ⟨b, 0, none⟩)) := hB1.cell 0
    have d1 : wr.cell? ⟨b, 0, none⟩ = some (.string s) := hb1.cell 0
    clear c0 c1
    by_cases hlt : k < s.size
    · have hle : (prs (s.data.toList.take k)).length < N := by rw [prs_length]; simp; omega
      have e1 : prs (s.data.toList.take (k + 1)) = prs (s.data.toList.take k) ++ [(k, s[k])] := prs_take _ k (by simpa using hlt)
      obtain ⟨fn, tmps, assign, body, hy, hR⟩ := hY (prs (s.data.toList.take k)) (k, s[k]) wr hJ hle
      have HE := Lib.hid e1
      clear e1 hle
      unfold encP at hy
      dsimp only at hy
      gi_wp2
      refine hR.mono ?_
      rintro e W3 (⟨rfl, hJ3, hK1, hK2⟩ | ⟨rfl, hJx3⟩)
      · gi_wp2
        go_roundw
        case rel => exact ⟨k + 1, by omega, by go_num, by rw [HE.out]; exact hJ3, hK2.trans hB1, hK1.trans hb1⟩
        case measure => simp [intOf]; omega
      · gi_wp2
        refine bodyPost_ret (results_none rfl _ _ _) rfl ?_
        refine ⟨⟨_, rfl⟩, .inr ⟨_, ?_, hJx3⟩⟩
        rw [← HE.out]
        exact prs_prefix _ _
    · gi_wp2
      go_end0
      refine ⟨⟨_, rfl⟩, .inl ⟨_, ?_, hJ⟩⟩
      rw [List.take_of_length_le (by simp; omega)]

/-- The iterator's contract. -/
theorem bytes_stops (n : Nat) (hn : 1 ≤ n) (Bn b : Nat) (s whole : ByteArray) (hs : s.size ≤ maxLen) (w : World) (hB : HasC w Bn 121 #[.pointer (some ⟨b, 0, none⟩)]) (hb : HasC w b 96 #[.string s, .string whole]) :
    SeqStopsK Fence.wide n Tryd.prog 57 #[.pointer (some ⟨Bn, 0, none⟩)] encP (Kp2 b Bn) (fun xs => xs = prs s.data.toList) (fun pre => pre <+: prs s.data.toList) s.size w := by
  intro l J Jx W hW hJ hJx hY h0
  refine (bytes1 n hn l Bn b s whole _ J Jx hY hs W (Nat.le_refl _) (hB.below hW hB.lt) (hb.below hW hb.lt) h0).mono ?_
  rintro e W' ⟨hv, ⟨ys, rfl, hJ'⟩ | ⟨pre, hp, hJ'⟩⟩
  · exact ⟨hv, .inl ⟨_, rfl, hJ'⟩⟩
  · exact ⟨hv, .inr ⟨pre, hp, hJ'⟩⟩
end Go.Proofs.YthbfibnpfdegaaaDoor
