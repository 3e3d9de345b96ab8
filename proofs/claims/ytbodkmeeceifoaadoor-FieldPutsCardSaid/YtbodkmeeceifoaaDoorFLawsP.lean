/- FieldPuts: what it comes to. -/
import Derived.Test.YtbodkmeeceifoaaDoorFLawsK
import Derived.Test.YtbodkmeeceifoaaDoorFRefLeast
import Derived.Test.YtbodkmeeceifoaaDoorFRefGet
namespace Go.Proofs.YtbodkmeeceifoaaDoor
open Go.RowKit Go.Lib

set_option maxHeartbeats 2000000 in
set_option maxRecDepth 100000 in
theorem puts_walk {am af : Addr} {N : Nat} (n : Nat) (hn : n < 18446744073709551616) (s t : ByteArray) (hs : s.size ≤ maxLen) (ht : t.size ≤ maxLen) (w : World) (hS : Sent am af N w) :
    Calls Tryd.prog 3 #[.int .u64 (n : Int), .string s, .string t] w fun e w' => e = .returned (.bool true) ∧ Below w.heap.size w w' := by
  obtain ⟨a, ha, -, hca⟩ := cut_as s hs
  obtain ⟨b, hb, -, hcb⟩ := cut_as t ht
  have HCA := Lib.hid hca
  have HCB := Lib.hid hcb
  obtain ⟨P, hP⟩ : ∃ P, P = putB n := ⟨_, rfl⟩
  have hput : ∀ W, Calls Tryd.prog 14 #[.int .u64 (n : Int)] W fun e w' => e = .returned (.string P) ∧ Below W.heap.size W w' := fun W => by rw [hP]; exact put_any n (by omega) W
  have hrput : ∀ W, Calls Tryd.prog 15 #[.int .u64 (n : Int)] W fun e w' => e = .returned (.string P) ∧ Below W.heap.size W w' := fun W => by rw [hP]; exact refPut_int _ n rfl (by omega) W
  have HPUT := Lib.hid hput
  have HRPUT := Lib.hid hrput
  obtain ⟨r, hr⟩ : ∃ r, compareBytes a.data.toList b.data.toList = r := ⟨_, rfl⟩
  have hle : ∀ W, Calls Tryd.prog 16 #[.string a, .string b] W fun e w' => e = .returned (.int .i64 r) ∧ W = w' := fun W => least_val a b r hr W
  have hrle : ∀ W, Calls Tryd.prog 17 #[.string a, .string b] W fun e w' => e = .returned (.int .i64 r) ∧ Below W.heap.size W w' := fun W => by rw [← hr]; exact refLeast_any a b ha hb W
  have HLE := Lib.hid hle
  have HRLE := Lib.hid hrle
  have hma : a.size ≤ maxLen := by unfold maxLen; omega
  have HMA := Lib.hid hma
  clear hca hcb hput hrput hP hr hle hrle hn hs ht
  cases hg : getL a.data.toList
  · have hgo : GetOut a = .tuple #[.int .u64 0, .string a, .int .i64 20] := by unfold GetOut; rw [hg]
    have hrg : ∀ W, Calls Tryd.prog 13 #[.string a] W fun e w' => e = .returned (.tuple #[.int .u64 0, .string a, .int .i64 20]) ∧ Below W.heap.size W w' := fun W => by rw [← hgo]; exact refGet_any a hma W
    have HGO := Lib.hid hgo
    have HRG := Lib.hid hrg
    clear hgo hrg hg hma
    go_enter Tryd.func3, Tryd.ntmps3
    go_wp2_with fail
    refine (shown_any _ hS).mono ?_
    rintro e w1 ⟨rfl, hbw⟩
    go_wp2_with fail
    with_reducible refine (HCA.out _).mono ?_
    rintro e w' ⟨rfl, rfl⟩
    go_wp2_with fail
    with_reducible refine (get_val _ _ HGO.out HMA.out _ (hS.on hbw)).mono ?_
    rintro e w' ⟨rfl, hb⟩
    replace hbw := hbw.trans (hb.mono hbw.size)
    clear hb
    go_wp2_with fail
    with_reducible refine (HCA.out _).mono ?_
    rintro e w' ⟨rfl, rfl⟩
    go_wp2_with fail
    with_reducible refine (HRG.out _).mono ?_
    rintro e w' ⟨rfl, hb⟩
    replace hbw := hbw.trans (hb.mono hbw.size)
    clear hb
    go_wp2_with fail
    with_reducible refine (HPUT.out _).mono ?_
    rintro e w' ⟨rfl, hb⟩
    replace hbw := hbw.trans (hb.mono hbw.size)
    clear hb
    go_wp2_with fail
    with_reducible refine (HRPUT.out _).mono ?_
    rintro e w' ⟨rfl, hb⟩
    replace hbw := hbw.trans (hb.mono hbw.size)
    clear hb
    go_wp2_with fail
    with_reducible refine (HCA.out _).mono ?_
    rintro e w' ⟨rfl, rfl⟩
    go_wp2_with fail
    with_reducible refine (HCB.out _).mono ?_
    rintro e w' ⟨rfl, rfl⟩
    go_wp2_with fail
    with_reducible refine (HLE.out _).mono ?_
    rintro e w' ⟨rfl, rfl⟩
    go_wp2_with fail
    with_reducible refine (HCA.out _).mono ?_
    rintro e w' ⟨rfl, rfl⟩
    go_wp2_with fail
    with_reducible refine (HCB.out _).mono ?_
    rintro e w' ⟨rfl, rfl⟩
    go_wp2_with fail
    with_reducible refine (HRLE.out _).mono ?_
    rintro e w' ⟨rfl, hb⟩
    replace hbw := hbw.trans (hb.mono hbw.size)
    clear hb
    go_wp2_with fail
    go_ret
    exact ⟨rfl, hbw⟩
  · have hgo : GetOut a = .tuple #[.int .u64 0, .string a, .int .i64 21] := by unfold GetOut; rw [hg]
    have hrg : ∀ W, Calls Tryd.prog 13 #[.string a] W fun e w' => e = .returned (.tuple #[.int .u64 0, .string a, .int .i64 21]) ∧ Below W.heap.size W w' := fun W => by rw [← hgo]; exact refGet_any a hma W
    have HGO := Lib.hid hgo
    have HRG := Lib.hid hrg
    clear hgo hrg hg hma
    go_enter Tryd.func3, Tryd.ntmps3
    go_wp2_with fail
    refine (shown_any _ hS).mono ?_
    rintro e w1 ⟨rfl, hbw⟩
    go_wp2_with fail
    with_reducible refine (HCA.out _).mono ?_
    rintro e w' ⟨rfl, rfl⟩
    go_wp2_with fail
    with_reducible refine (get_val _ _ HGO.out HMA.out _ (hS.on hbw)).mono ?_
    rintro e w' ⟨rfl, hb⟩
    replace hbw := hbw.trans (hb.mono hbw.size)
    clear hb
    go_wp2_with fail
    with_reducible refine (HCA.out _).mono ?_
    rintro e w' ⟨rfl, rfl⟩
    go_wp2_with fail
    with_reducible refine (HRG.out _).mono ?_
    rintro e w' ⟨rfl, hb⟩
    replace hbw := hbw.trans (hb.mono hbw.size)
    clear hb
    go_wp2_with fail
    with_reducible refine (HPUT.out _).mono ?_
    rintro e w' ⟨rfl, hb⟩
    replace hbw := hbw.trans (hb.mono hbw.size)
    clear hb
    go_wp2_with fail
    with_reducible refine (HRPUT.out _).mono ?_
    rintro e w' ⟨rfl, hb⟩
    replace hbw := hbw.trans (hb.mono hbw.size)
    clear hb
    go_wp2_with fail
    with_reducible refine (HCA.out _).mono ?_
    rintro e w' ⟨rfl, rfl⟩
    go_wp2_with fail
    with_reducible refine (HCB.out _).mono ?_
    rintro e w' ⟨rfl, rfl⟩
    go_wp2_with fail
    with_reducible refine (HLE.out _).mono ?_
    rintro e w' ⟨rfl, rfl⟩
    go_wp2_with fail
    with_reducible refine (HCA.out _).mono ?_
    rintro e w' ⟨rfl, rfl⟩
    go_wp2_with fail
    with_reducible refine (HCB.out _).mono ?_
    rintro e w' ⟨rfl, rfl⟩
    go_wp2_with fail
    with_reducible refine (HRLE.out _).mono ?_
    rintro e w' ⟨rfl, hb⟩
    replace hbw := hbw.trans (hb.mono hbw.size)
    clear hb
    go_wp2_with fail
    go_ret
    exact ⟨rfl, hbw⟩
  · rename_i v k
    have hgo : GetOut a = .tuple #[.int .u64 (v : Int), .string (a.extract k a.size), .int .i64 0] := by unfold GetOut; rw [hg]
    obtain ⟨X, hX⟩ : ∃ X, a.extract k a.size = X := ⟨_, rfl⟩
    rw [hX] at hgo
    have hrg : ∀ W, Calls Tryd.prog 13 #[.string a] W fun e w' => e = .returned (.tuple #[.int .u64 (v : Int), .string X, .int .i64 0]) ∧ Below W.heap.size W w' := fun W => by rw [← hgo]; exact refGet_any a hma W
    have HGO := Lib.hid hgo
    have HRG := Lib.hid hrg
    clear hgo hrg hg hma hX
    go_enter Tryd.func3, Tryd.ntmps3
    go_wp2_with fail
    refine (shown_any _ hS).mono ?_
    rintro e w1 ⟨rfl, hbw⟩
    go_wp2_with fail
    with_reducible refine (HCA.out _).mono ?_
    rintro e w' ⟨rfl, rfl⟩
    go_wp2_with fail
    with_reducible refine (get_val _ _ HGO.out HMA.out _ (hS.on hbw)).mono ?_
    rintro e w' ⟨rfl, hb⟩
    replace hbw := hbw.trans (hb.mono hbw.size)
    clear hb
    go_wp2_with fail
    with_reducible refine (HCA.out _).mono ?_
    rintro e w' ⟨rfl, rfl⟩
    go_wp2_with fail
    with_reducible refine (HRG.out _).mono ?_
    rintro e w' ⟨rfl, hb⟩
    replace hbw := hbw.trans (hb.mono hbw.size)
    clear hb
    go_wp2_with fail
    with_reducible refine (HPUT.out _).mono ?_
    rintro e w' ⟨rfl, hb⟩
    replace hbw := hbw.trans (hb.mono hbw.size)
    clear hb
    go_wp2_with fail
    with_reducible refine (HRPUT.out _).mono ?_
    rintro e w' ⟨rfl, hb⟩
    replace hbw := hbw.trans (hb.mono hbw.size)
    clear hb
    go_wp2_with fail
    with_reducible refine (HCA.out _).mono ?_
    rintro e w' ⟨rfl, rfl⟩
    go_wp2_with fail
    with_reducible refine (HCB.out _).mono ?_
    rintro e w' ⟨rfl, rfl⟩
    go_wp2_with fail
    with_reducible refine (HLE.out _).mono ?_
    rintro e w' ⟨rfl, rfl⟩
    go_wp2_with fail
    with_reducible refine (HCA.out _).mono ?_
    rintro e w' ⟨rfl, rfl⟩
    go_wp2_with fail
    with_reducible refine (HCB.out _).mono ?_
    rintro e w' ⟨rfl, rfl⟩
    go_wp2_with fail
    with_reducible refine (HRLE.out _).mono ?_
    rintro e w' ⟨rfl, hb⟩
    replace hbw := hbw.trans (hb.mono hbw.size)
    clear hb
    go_wp2_with fail
    go_ret
    exact ⟨rfl, hbw⟩
end Go.Proofs.YtbodkmeeceifoaaDoor
