/- Stage 2's statements by the program alone: what is known of some bytes (shown). -/
import Derived.Test.YtbodkmeeceifoaaDoorFRead
import Derived.Test.YtbodkmeeceifoaaDoorFPuts
namespace Go.Proofs.YtbodkmeeceifoaaDoor
open Go.RowKit

theorem put_2287 (W : World) : Calls Tryd.prog 14 #[.int .u64 2287] W fun e w' => e = .returned (.string { data := #[248, 255] }) ∧ Below W.heap.size W w' := put_int 2287 2287 rfl (by decide) W
theorem put_67824 (W : World) : Calls Tryd.prog 14 #[.int .u64 67824] W fun e w' => e = .returned (.string { data := #[250, 1, 8, 240] }) ∧ Below W.heap.size W w' := put_int 67824 67824 rfl (by decide) W
theorem text_ab (W : World) : Calls Tryd.prog 19 #[.string { data := #[97, 98] }] W fun e w' => e = .returned (.tuple #[.string { data := #[2, 97, 98] }, .int .i64 0]) ∧ Below W.heap.size W w' := putText_any { data := #[97, 98] } W
theorem get_f9 {am af : Addr} {N : Nat} (W : World) (hS : Sent am af N W) : Calls Tryd.prog 11 #[.string { data := #[249, 0] }] W fun e w' => e = .returned (.tuple #[.int .u64 0, .string { data := #[249, 0] }, .int .i64 20]) ∧ Below W.heap.size W w' := get_any { data := #[249, 0] } (by decide) W hS
theorem get_fa {am af : Addr} {N : Nat} (W : World) (hS : Sent am af N W) : Calls Tryd.prog 11 #[.string { data := #[250, 0, 0, 1] }] W fun e w' => e = .returned (.tuple #[.int .u64 0, .string { data := #[250, 0, 0, 1] }, .int .i64 21]) ∧ Below W.heap.size W w' := get_any { data := #[250, 0, 0, 1] } (by decide) W hS

set_option maxHeartbeats 400000 in
theorem shown_any {am af : Addr} {N : Nat} (w : World) (hS : Sent am af N w) : Calls Tryd.prog 10 #[] w fun e w' => e = .returned (.bool true) ∧ Below w.heap.size w w' := by
  go_enter Tryd.func10, Tryd.ntmps10
  go_wp2_with fail
  refine (text_ab _).mono ?_
  rintro e w1 ⟨rfl, hb1⟩
  go_wp2_with fail
  refine (get_f9 _ (hS.on hb1)).mono ?_
  rintro e w2 ⟨rfl, hb2⟩
  have hb2' : Below w.heap.size w w2 := hb1.trans (hb2.mono hb1.size)
  go_wp2_with fail
  refine (get_fa _ (hS.on hb2')).mono ?_
  rintro e w3 ⟨rfl, hb3⟩
  have hb3' : Below w.heap.size w w3 := hb2'.trans (hb3.mono hb2'.size)
  go_wp2_with fail
  refine (put_2287 _).mono ?_
  rintro e w4 ⟨rfl, hb4⟩
  have hb4' : Below w.heap.size w w4 := hb3'.trans (hb4.mono hb3'.size)
  go_wp2_with fail
  refine (put_67824 _).mono ?_
  rintro e w5 ⟨rfl, hb5⟩
  go_wp2_with fail
  go_ret
  exact ⟨rfl, hb4'.trans (hb5.mono hb4'.size)⟩
end Go.Proofs.YtbodkmeeceifoaaDoor
