/- Layer 3's statements: shown, cut; FrameMakes, FrameAll. -/
import Derived.Test.YthbfibnpfdegaaaDoorRAllM
import Derived.Test.YthbfibnpfdegaaaDoorFTexts
namespace Go.Proofs.YthbfibnpfdegaaaDoor
open Go.RowKit

/-- The first two thousand and ten bytes. -/
def cutR (s : ByteArray) : ByteArray := s.extract 0 (min s.size 2010)
theorem cutR_size (s : ByteArray) : (cutR s).size ≤ 2010 := by
  unfold cutR
  simp
  omega
theorem cutR_any (s : ByteArray) (hs : s.size ≤ maxLen) (w : World) : Calls Tryd.prog 12 #[.string s] w fun e w' => e = .returned (.string (cutR s)) ∧ w = w' := by
  unfold maxLen at hs
  have e0 : (min (s.size : Int) 2010).toNat = min s.size 2010 := by omega
  have H := Lib.hid e0
  clear e0
  go_enter Tryd.func12, Tryd.ntmps12
  go_wp2
  go_ret
  exact ⟨by show Ending.returned (.string (s.extract 0 (min (s.size : Int) 2010).toNat)) = _; rw [H.out]; rfl, rfl⟩
theorem cutR_as (s : ByteArray) (hs : s.size ≤ maxLen) : ∃ A, A.size ≤ 2010 ∧ A = cutR s ∧ ∀ W, Calls Tryd.prog 12 #[.string s] W fun e w' => e = .returned (.string A) ∧ W = w' :=
  ⟨cutR s, cutR_size s, rfl, fun W => cutR_any s hs W⟩

theorem abc_made : MakeOut { data := #[97, 98, 99] } = .tuple #[.string { data := #[167, 3, 97, 98, 99, 2, 77, 1, 39] }, .int .i64 0] := by kernel_rfl
theorem a8_read : ReadOut { data := #[168] } = .tuple #[.string { data := #[] }, .string { data := #[168] }, .int .i64 30] := by kernel_rfl
theorem a7_read : ReadOut { data := #[167] } = .tuple #[.string { data := #[] }, .string { data := #[167] }, .int .i64 20] := by kernel_rfl
theorem abc_check : (checkL [97, 98, 99] : Int) = 38600999 := by decide
theorem mk_abc {am af : Addr} {N : Nat} (W : World) (hS : SentR am af N W) : Calls Tryd.prog 11 #[.string { data := #[97, 98, 99] }] W fun e w' => e = .returned (.tuple #[.string { data := #[167, 3, 97, 98, 99, 2, 77, 1, 39] }, .int .i64 0]) ∧ Below W.heap.size W w' := by
  rw [← abc_made]
  exact make_any _ (by decide) W hS
theorem rd_a8 {am af : Addr} {N : Nat} (W : World) (hS : SentR am af N W) : Calls Tryd.prog 14 #[.string { data := #[168] }] W fun e w' => e = .returned (.tuple #[.string { data := #[] }, .string { data := #[168] }, .int .i64 30]) ∧ Below W.heap.size W w' := by
  rw [← a8_read]
  exact read_any _ (by decide) W hS
theorem rd_a7 {am af : Addr} {N : Nat} (W : World) (hS : SentR am af N W) : Calls Tryd.prog 14 #[.string { data := #[167] }] W fun e w' => e = .returned (.tuple #[.string { data := #[] }, .string { data := #[167] }, .int .i64 20]) ∧ Below W.heap.size W w' := by
  rw [← a7_read]
  exact read_any _ (by decide) W hS
theorem ck_abc (W : World) : Calls Tryd.prog 16 #[.string { data := #[97, 98, 99] }] W fun e w' => e = .returned (.int .u32 38600999) ∧ Below W.heap.size W w' := by
  have := check_any' { data := #[97, 98, 99] } (by decide) W
  rwa [show (checkL (ByteArray.data { data := #[97, 98, 99] }).toList : Int) = 38600999 from abc_check] at this

set_option maxHeartbeats 400000 in
theorem shown_any {am af : Addr} {N : Nat} (w : World) (hS : SentR am af N w) : Calls Tryd.prog 10 #[] w fun e w' => e = .returned (.bool true) ∧ Below w.heap.size w w' := by
  go_enter Tryd.func10, Tryd.ntmps10
  go_wp2_with fail
  refine (mk_abc _ hS).mono ?_
  rintro e w1 ⟨rfl, hbw⟩
  go_wp2_with fail
  refine (rd_a8 _ (hS.on hbw)).mono ?_
  rintro e w2 ⟨rfl, hb⟩
  replace hbw := hbw.trans (hb.mono hbw.size)
  clear hb
  go_wp2_with fail
  refine (rd_a7 _ (hS.on hbw)).mono ?_
  rintro e w3 ⟨rfl, hb⟩
  replace hbw := hbw.trans (hb.mono hbw.size)
  clear hb
  go_wp2_with fail
  refine (ck_abc _).mono ?_
  rintro e w4 ⟨rfl, hb⟩
  replace hbw := hbw.trans (hb.mono hbw.size)
  clear hb
  go_wp2_with fail
  go_ret
  exact ⟨rfl, hbw⟩

theorem makeOut_tuple (s : ByteArray) : ∃ (p : ByteArray) (e : Int), MakeOut s = .tuple #[.string p, .int .i64 e] := by
  unfold MakeOut
  split
  · exact ⟨_, _, rfl⟩
  · exact ⟨_, _, rfl⟩
theorem readOut_tuple (s : ByteArray) : ∃ (p q : ByteArray) (e : Int), ReadOut s = .tuple #[.string p, .string q, .int .i64 e] := by
  unfold ReadOut
  split
  · exact ⟨_, _, _, rfl⟩
  · exact ⟨_, _, _, rfl⟩
  · exact ⟨_, _, _, rfl⟩
  · exact ⟨_, _, _, rfl⟩

set_option maxHeartbeats 1000000 in
set_option maxRecDepth 100000 in
theorem makes_walk {am af : Addr} {N : Nat} (s t : ByteArray) (hs : s.size ≤ maxLen) (ht : t.size ≤ maxLen) (w : World) (hS : SentR am af N w) :
    Calls Tryd.prog 3 #[.string s, .string t] w fun e w' => e = .returned (.bool true) ∧ Below w.heap.size w w' := by
  obtain ⟨A, hA, -, hca⟩ := cutR_as s hs
  obtain ⟨B, hB, -, hcb⟩ := cutR_as t ht
  have hma : A.size ≤ maxLen := by unfold maxLen; omega
  have hmb : B.size ≤ maxLen := by unfold maxLen; omega
  obtain ⟨P, E, hP⟩ := makeOut_tuple A
  obtain ⟨p, q, e, hR⟩ := readOut_tuple B
  have HMK : Hid (∀ W, SentR am af N W → Calls Tryd.prog 11 #[.string A] W fun e w' => e = .returned (.tuple #[.string P, .int .i64 E]) ∧ Below W.heap.size W w') := fun W h => by rw [← hP]; exact make_any A hma W h
  have HRM : Hid (∀ W, Calls Tryd.prog 13 #[.string A] W fun e w' => e = .returned (.tuple #[.string P, .int .i64 E]) ∧ Below W.heap.size W w') := fun W => by rw [← hP]; exact refMake_any A hma W
  have HRD : Hid (∀ W, SentR am af N W → Calls Tryd.prog 14 #[.string B] W fun e' w' => e' = .returned (.tuple #[.string p, .string q, .int .i64 e]) ∧ Below W.heap.size W w') := fun W h => by rw [← hR]; exact read_any B hmb W h
  have HRR : Hid (∀ W, Calls Tryd.prog 15 #[.string B] W fun e' w' => e' = .returned (.tuple #[.string p, .string q, .int .i64 e]) ∧ Below W.heap.size W w') := fun W => by rw [← hR]; exact refRead_any B hmb W
  obtain ⟨c, hc⟩ : ∃ c : Int, (checkL A.data.toList : Int) = c := ⟨_, rfl⟩
  have HCK : Hid (∀ W, Calls Tryd.prog 16 #[.string A] W fun e w' => e = .returned (.int .u32 c) ∧ Below W.heap.size W w') := fun W => by rw [← hc]; exact check_any' A hma W
  have HRC : Hid (∀ W, Calls Tryd.prog 17 #[.string A] W fun e w' => e = .returned (.int .u32 c) ∧ W = w') := fun W => by rw [← hc]; exact refCheck_any A hma W
  have HCA := Lib.hid hca
  have HCB := Lib.hid hcb
  clear hca hcb hP hR hc hs ht hma hmb
  go_enter Tryd.func3, Tryd.ntmps3
  go_wp2_with fail
  refine (shown_any _ hS).mono ?_
  rintro e w1 ⟨rfl, hbw⟩
  go_wp2_with fail
  with_reducible refine (HCA.out _).mono ?_
  rintro e w' ⟨rfl, rfl⟩
  go_wp2_with fail
  with_reducible refine (HMK.out _ (hS.on hbw)).mono ?_
  rintro e w' ⟨rfl, hb⟩
  replace hbw := hbw.trans (hb.mono hbw.size)
  clear hb
  go_wp2_with fail
  with_reducible refine (HCA.out _).mono ?_
  rintro e w' ⟨rfl, rfl⟩
  go_wp2_with fail
  with_reducible refine (HRM.out _).mono ?_
  rintro e w' ⟨rfl, hb⟩
  replace hbw := hbw.trans (hb.mono hbw.size)
  clear hb
  go_wp2_with fail
  with_reducible refine (HCB.out _).mono ?_
  rintro e w' ⟨rfl, rfl⟩
  go_wp2_with fail
  with_reducible refine (HRD.out _ (hS.on hbw)).mono ?_
  rintro e w' ⟨rfl, hb⟩
  replace hbw := hbw.trans (hb.mono hbw.size)
  clear hb
  go_wp2_with fail
  with_reducible refine (HCB.out _).mono ?_
  rintro e w' ⟨rfl, rfl⟩
  go_wp2_with fail
  with_reducible refine (HRR.out _).mono ?_
  rintro e w' ⟨rfl, hb⟩
  replace hbw := hbw.trans (hb.mono hbw.size)
  clear hb
  go_wp2_with fail
  with_reducible refine (HCA.out _).mono ?_
  rintro e w' ⟨rfl, rfl⟩
  go_wp2_with fail
  with_reducible refine (HCK.out _).mono ?_
  rintro e w' ⟨rfl, hb⟩
  replace hbw := hbw.trans (hb.mono hbw.size)
  clear hb
  go_wp2_with fail
  with_reducible refine (HCA.out _).mono ?_
  rintro e w' ⟨rfl, rfl⟩
  go_wp2_with fail
  with_reducible refine (HRC.out _).mono ?_
  rintro e w' ⟨rfl, rfl⟩
  go_wp2_with fail
  go_ret
  exact ⟨rfl, hbw⟩

set_option maxHeartbeats 1000000 in
set_option maxRecDepth 100000 in
theorem all_walk {am af : Addr} {N : Nat} (s : ByteArray) (hs : s.size ≤ maxLen) (w : World) (hS : SentR am af N w) :
    Calls Tryd.prog 4 #[.string s] w fun e w' => e = .returned (.bool true) ∧ Below w.heap.size w w' := by
  obtain ⟨A, hA, -, hca⟩ := cutR_as s hs
  obtain ⟨L, r, E, hall⟩ := all_total A.size A (Nat.le_refl _)
  have hl := (all_len hall).1
  have HL : Hid (L.length ≤ 1000) := by
    show L.length ≤ 1000
    have := all_len6 hall
    omega
  have HAL : Hid (∀ W, SentR am af N W → Calls Tryd.prog 18 #[.string A] W fun e w' => (∃ v, e = .returned (.tuple #[v, .string r, .int .i64 E]) ∧ StrSl w' v L) ∧ Below W.heap.size W w') := fun W h => all_any (by omega) hall W h
  have HRA : Hid (∀ W, Calls Tryd.prog 19 #[.string A] W fun e w' => (∃ v, e = .returned (.tuple #[v, .string r, .int .i64 E]) ∧ StrSl w' v L) ∧ Below W.heap.size W w') := fun W => refAll_any (by omega) hall W
  have HCA := Lib.hid hca
  clear hca hall hl hs
  go_enter Tryd.func4, Tryd.ntmps4
  go_wp2_with fail
  refine (shown_any _ hS).mono ?_
  rintro e w1 ⟨rfl, hbw⟩
  go_wp2_with fail
  with_reducible refine (HCA.out _).mono ?_
  rintro e w' ⟨rfl, rfl⟩
  go_wp2_with fail
  with_reducible refine (HAL.out _ (hS.on hbw)).mono ?_
  rintro e w' ⟨⟨x, rfl, hx⟩, hb⟩
  replace hbw := hbw.trans (hb.mono hbw.size)
  have Hx := Lib.hid hx
  clear hb hx
  go_wp2_with fail
  with_reducible refine (HCA.out _).mono ?_
  rintro e w' ⟨rfl, rfl⟩
  go_wp2_with fail
  with_reducible refine (HRA.out _).mono ?_
  rintro e w' ⟨⟨y, rfl, hy⟩, hb⟩
  replace Hx := Lib.hid (Hx.out.below hb)
  replace hbw := hbw.trans (hb.mono hbw.size)
  have Hy := Lib.hid hy
  clear hb hy
  go_wp2_with fail
  with_reducible refine (texts_same L x y _ HL.out Hx.out Hy.out).mono ?_
  rintro e w' ⟨rfl, hb⟩
  replace hbw := hbw.trans (hb.mono hbw.size)
  clear hb
  go_wp2_with fail
  go_ret
  exact ⟨rfl, hbw⟩
end Go.Proofs.YthbfibnpfdegaaaDoor
