/- The statements' walks: HllGrows, HllOnce. -/
import Derived.Test.YtnljepnmajcmgaaHLawsR
import Derived.Deep.RegionHeldLaw
namespace Go.Proofs.Ytnljepnmajcmgaa
open Go.RowKit

set_option maxHeartbeats 16000000 in
set_option maxRecDepth 100000 in
theorem lawGrows7_any (b : Int) (l : List Nat) (x : Nat) (v : Value) (w : World) (h : NumSl w v l) (hn : l.length ≤ maxLen) (hl : ∀ x ∈ l, x < 18446744073709551616) (hx : x < 18446744073709551616) :
    Calls Try.prog 7 #[.int .i64 b, v, nV x] w fun e w' => e = .returned (.bool true) ∧ Below w.heap.size w w' := by
  have HV := Lib.hid h
  have FB := Lib.hid (fun W h => few7_any l v W h hn)
  have lU : (l.take 100).length ≤ 200 := by rw [List.length_take]; omega
  have hlU : ∀ x ∈ l.take 100, x < 18446744073709551616 := fun x hx => hl x (List.mem_of_mem_take hx)
  obtain ⟨U, hU⟩ : ∃ U, l.take 100 = U := ⟨_, rfl⟩
  rw [hU] at FB lU hlU
  obtain ⟨a1, c1, rfl, _⟩ := h.shape
  obtain ⟨n1, hn1⟩ : ∃ n, n = l.length := ⟨_, rfl⟩
  rw [← hn1] at FB HV ⊢
  have HL := Lib.hid hlU
  clear h hn hU hn1 hl hlU
  cases hq : okB b with
  | false =>
    have O1 := Lib.hid (fun W v h => kOf_bad hq U lU HL.out v W h)
    clear hq
    go_enter Try.func7, Try.ntmps7
    go_wp2_with fail
    with_reducible refine (shown7_any _).mono ?_
    rintro e w1 ⟨rfl, hk⟩
    go_wp2_with fail
    with_reducible refine (FB.out _ (HV.out.below hk)).mono ?_
    rintro e w2 ⟨s2, rfl, hs2, rfl⟩
    go_wp2_with fail
    with_reducible refine (O1.out _ _ hs2).mono ?_
    rintro e x1 ⟨rfl, hb⟩
    have hk := (hk.trans (hb.mono hk.size)).alloc (hk.trans (hb.mono hk.size)).size (Obj.cells #[.int .i64 0, .string { data := #[] }] 23)
    clear hb
    go_wp2_with fail
    go_ret
    exact ⟨rfl, hk⟩
  | true =>
    obtain ⟨n, rfl, g3, g8⟩ := okB_nat hq
    clear hq
    have O1 := Lib.hid (fun W v h => kOf g3 g8 U lU HL.out v W h)
    have A1 := Lib.hid (fun W => kAdd g3 g8 U x hx W)
    have N1 := Lib.hid (fun W => kNew g3 g8 W)
    have C1 := Lib.hid (fun W => kCount g8 U W)
    have C2 := Lib.hid (fun W => kCount g8 (U ++ [x]) W)
    have C3 := Lib.hid (fun W => kCount g8 [] W)
    have R1 := Lib.hid (fun W => kRight g3 g8 (U ++ [x]) W)
    rw [count_none] at C3
    have hle := count_mono g3 g8 (l := U) (m := U ++ [x]) (fun i => by rw [mx_app]; omega)
    have hpos := count_some g3 g8 (l := U ++ [x]) (x := x) (List.mem_append.2 (.inr (List.mem_singleton.2 rfl))) hx
    obtain ⟨cx, hcx⟩ : ∃ c, countH (n : Int) (ofR n U) = c := ⟨_, rfl⟩
    obtain ⟨cy, hcy⟩ : ∃ c, countH (n : Int) (ofR n (U ++ [x])) = c := ⟨_, rfl⟩
    rw [hcx] at C1 hle
    rw [hcy] at C2 hle hpos
    obtain ⟨S, hS⟩ : ∃ S, regS (ofR n U) = S := ⟨_, rfl⟩
    obtain ⟨T, hT'⟩ : ∃ S, regS (ofR n (U ++ [x])) = S := ⟨_, rfl⟩
    obtain ⟨Z, hZ⟩ : ∃ S, regS (ofR n []) = S := ⟨_, rfl⟩
    simp only [hS, hT', hZ] at O1 A1 N1 C1 C2 C3 R1
    clear hS hT' hZ hcx hcy
    go_enter Try.func7, Try.ntmps7
    go_wp2_with fail
    with_reducible refine (shown7_any _).mono ?_
    rintro e w1 ⟨rfl, hk⟩
    go_wp2_with fail
    with_reducible refine (FB.out _ (HV.out.below hk)).mono ?_
    rintro e w2 ⟨s2, rfl, hs2, rfl⟩
    go_wp2_with fail
    with_reducible refine (O1.out _ _ hs2).mono ?_
    rintro e x1 ⟨rfl, hb⟩
    have hk := hk.trans (hb.mono hk.size)
    obtain ⟨u1, hu1, hbu1, at1⟩ := atH_new x1 (n : Int) S
    have hk := hk.trans (hbu1.mono hk.size)
    clear hb hbu1
    have p1 := at1.c0
    have q1 := at1.c1
    go_wp2_with fail
    with_reducible refine (A1.out _).mono ?_
    rintro e x2 ⟨rfl, hb⟩
    have hk := hk.trans (hb.mono hk.size)
    have at1 := at1.on hb
    obtain ⟨u2, hu2, hbu2, at2⟩ := atH_new x2 (n : Int) T
    have hk := hk.trans (hbu2.mono hk.size)
    have at1 := at1.on hbu2
    clear hb hbu2
    clear p1 q1
    go_wp2_with fail
    with_reducible refine (N1.out _).mono ?_
    rintro e x3 ⟨rfl, hb⟩
    have hk := hk.trans (hb.mono hk.size)
    have at1 := at1.on hb
    have at2 := at2.on hb
    obtain ⟨u3, hu3, hbu3, at3⟩ := atH_new x3 (n : Int) Z
    have hk := hk.trans (hbu3.mono hk.size)
    have at1 := at1.on hbu3
    have at2 := at2.on hbu3
    clear hb hbu3
    obtain ⟨D, hD0, hDon, hDk⟩ : ∃ D : World → Prop, D u3 ∧ (∀ W W', D W → Below W.heap.size W W' → D W') ∧ ∀ W, D W → AtH W x1.heap.size (n : Int) S ∧ AtH W x2.heap.size (n : Int) T ∧ AtH W x3.heap.size (n : Int) Z ∧ Below w.heap.size w W :=
      ⟨fun W => AtH W x1.heap.size (n : Int) S ∧ AtH W x2.heap.size (n : Int) T ∧ AtH W x3.heap.size (n : Int) Z ∧ Below w.heap.size w W, ⟨at1, at2, at3, hk⟩, fun W W' h hb => ⟨h.1.on hb, h.2.1.on hb, h.2.2.1.on hb, h.2.2.2.trans (hb.mono h.2.2.2.size)⟩, fun _ h => h⟩
    have E1 : ∀ i : InC D, i.w.cell? ⟨x1.heap.size, 0, none⟩ = some (.int .i64 n) := fun i => (hDk _ i.h).1.c0
    have E2 : ∀ i : InC D, i.w.cell? ⟨x1.heap.size, 1, none⟩ = some (.string S) := fun i => (hDk _ i.h).1.c1
    have E3 : ∀ i : InC D, i.w.cell? ⟨x2.heap.size, 0, none⟩ = some (.int .i64 n) := fun i => (hDk _ i.h).2.1.c0
    have E4 : ∀ i : InC D, i.w.cell? ⟨x2.heap.size, 1, none⟩ = some (.string T) := fun i => (hDk _ i.h).2.1.c1
    have E5 : ∀ i : InC D, i.w.cell? ⟨x3.heap.size, 0, none⟩ = some (.int .i64 n) := fun i => (hDk _ i.h).2.2.1.c0
    have E6 : ∀ i : InC D, i.w.cell? ⟨x3.heap.size, 1, none⟩ = some (.string Z) := fun i => (hDk _ i.h).2.2.1.c1
    have HDK := Lib.hid (fun i : InC D => (hDk _ i.h).2.2.2)
    have HDON := Lib.hid hDon
    have HD0 := Lib.hid (hDon _ _ hD0 ((Below.refl _ _).drew))
    have hle' : (cx : Int) ≤ (cy : Int) := by omega
    have hpos' : (0 : Int) < (cy : Int) := by omega
    clear hD0 hDon hDk at1 at2 at3 hk
    go_wp2_with fail
    refine region_class D (by kernel_rfl) (by kernel_rfl) HD0.out ?_
    intro hne
    repeat (go_big_quiet_step (first
      | (go_at_call 27; (with_reducible refine (C1.out _).mono ?_); rintro e w' ⟨rfl, hb⟩; exact ⟨rfl, ⟨_, HDON.out _ _ (InC.h _) hb⟩, rfl⟩)
      | (go_at_call 27; (with_reducible refine (C2.out _).mono ?_); rintro e w' ⟨rfl, hb⟩; exact ⟨rfl, ⟨_, HDON.out _ _ (InC.h _) hb⟩, rfl⟩)
      | (go_at_call 27; (with_reducible refine (C3.out _).mono ?_); rintro e w' ⟨rfl, hb⟩; exact ⟨rfl, ⟨_, HDON.out _ _ (InC.h _) hb⟩, rfl⟩)
      | (go_at_call 21; (with_reducible refine (R1.out _).mono ?_); rintro e w' ⟨rfl, hb⟩; exact ⟨rfl, ⟨_, HDON.out _ _ (InC.h _) hb⟩, rfl⟩)))
    refine wpQuiet_nil ?_
    intro i
    go_wp2_with fail
    go_ret
    exact ⟨by simp; try omega, HDK.out i⟩
end Go.Proofs.Ytnljepnmajcmgaa
