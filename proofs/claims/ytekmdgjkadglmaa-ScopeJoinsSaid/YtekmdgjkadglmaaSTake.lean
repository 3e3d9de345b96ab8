/- Package scope: where a rune leads from a place. -/
import Derived.Test.YtekmdgjkadglmaaSFit
namespace Go.Proofs.Ytekmdgjkadglmaa
open Go.RowKit

theorem ta_many1 (w : World) : (Instr.typeAssert (.iface 51 (.agg #[])) 69 51 true).run Try.prog w = .ok (.tuple #[.agg #[], .bool true]) w := by kernel_rfl
theorem ta_one1 (w : World) : (Instr.typeAssert (.iface 52 (.agg #[])) 69 51 true).run Try.prog w = .ok (.tuple #[.agg #[], .bool false]) w := by kernel_rfl
theorem ta_one2 (w : World) : (Instr.typeAssert (.iface 52 (.agg #[])) 69 52 true).run Try.prog w = .ok (.tuple #[.agg #[], .bool true]) w := by kernel_rfl
theorem ta_self1 (r : Int) (w : World) : (Instr.typeAssert (.iface 49 (.int .i32 r)) 69 51 true).run Try.prog w = .ok (.tuple #[.agg #[], .bool false]) w := by kernel_rfl
theorem ta_self2 (r : Int) (w : World) : (Instr.typeAssert (.iface 49 (.int .i32 r)) 69 52 true).run Try.prog w = .ok (.tuple #[.agg #[], .bool false]) w := by kernel_rfl
theorem ta_self3 (r : Int) (w : World) : (Instr.typeAssert (.iface 49 (.int .i32 r)) 69 49 false).run Try.prog w = .ok (.int .i32 r) w := by kernel_rfl

set_option maxHeartbeats 1000000 in
set_option maxRecDepth 100000 in
theorem take_any (P : List Tok) (ao : Option Addr) (cp n0 nb i : Nat) (c : ByteArray) (S : Nat → Prop) (w : World) (hi : i < P.length) (hP : P.length ≤ 3000) (hR : RuneT P) (hc : isRune c) (hv : PatAt n0 ao P w) (hnb : n0 ≤ nb) (hM : PlM w nb P.length S) :
    Calls Try.prog 28 #[.slice ao P.length cp, .map (some nb), .int .i64 (i : Int), .int .i32 (rnum c : Int)] w fun e w' => e = .returned (.tuple #[]) ∧ PlM w' nb P.length (fun k => S k ∨ takeP P i c k) ∧ w.grownBy w' (some nb) := by
  obtain ⟨g, o, rfl, hg, hcell⟩ := hv i hi
  obtain ⟨x, hx⟩ : ∃ x, x = P[i] := ⟨_, rfl⟩
  have hpx : P[i]? = some x := by rw [List.getElem?_eq_getElem hi, hx]
  have HPX := Lib.hid hpx
  rw [← hx] at hcell
  clear hx hpx
  obtain ⟨m, hm⟩ : ∃ m, m = P.length := ⟨_, rfl⟩
  have HM := Lib.hid hm
  have hnbw : nb < w.heap.size := hM.lt
  have HR := Lib.hid hR
  have HC := Lib.hid hc
  obtain ⟨ri, hri⟩ : ∃ ri : Int, ri = (rnum c : Int) := ⟨_, rfl⟩
  rw [← hri]
  have hreach : ∀ (j : Nat) (z : Int) (W : World), z = (j : Int) → j ≤ m → w.grownBy W (some nb) → PlM W nb m S → Calls Try.prog 21 #[.slice (some ⟨g, o, none⟩) m cp, .map (some nb), .int .i64 z] W fun e w' => e = .returned (.tuple #[]) ∧ PlM w' nb m (fun k => S k ∨ reachP P j k) ∧ W.grownBy w' (some nb) := fun j z W hz hj hgw hMW => by
    subst hz
    have := reach_any P (some ⟨g, o, none⟩) cp n0 nb j S W (by rw [← hm]; exact hj) (by rw [← hm]; omega) (hv.kept hgw hnb) hnb (by rw [← hm]; exact hMW)
    rwa [← hm] at this
  have HRE := Lib.hid hreach
  rw [← hm] at hi hP hM ⊢
  have HPM := Lib.hid hM
  clear hreach hm hv hM hR hc
  cases x with
  | star =>
    have hc2 : w.cell? ⟨g, o + i, none⟩ = some (.iface 51 (.agg #[])) := hcell
    have h1 := ta_many1
    clear hcell hri
    go_enter Try.func28, Try.ntmps28
    go_wp2_with fail
    with_reducible refine (HRE.out i _ _ (by first | rfl | omega) (by omega) (World.grownBy_alloc _ _ _) (HPM.out.alloc _)).mono ?_
    rintro e w2 ⟨rfl, hM2, hg2⟩
    have hM3 : PlM w2 nb m (fun k => S k ∨ takeP P i c k) := hM2.congr fun k _ => by unfold takeP; rw [HPX.out]; simp
    have hg3 := (World.grownBy_alloc w (Obj.cells #[] 51) (some nb)).trans hg2
    clear h1 hc2 hM2 hg2 HRE
    go_wp2_with fail
    go_end0
    exact ⟨rfl, hM3, hg3⟩
  | any =>
    have hc2 : w.cell? ⟨g, o + i, none⟩ = some (.iface 52 (.agg #[])) := hcell
    have h1 := ta_one1
    have h2 := ta_one2
    clear hcell hri
    go_enter Try.func28, Try.ntmps28
    go_wp2_with fail
    with_reducible refine (HRE.out (i + 1) _ _ (by omega) (by omega) (World.grownBy_alloc _ _ _) (HPM.out.alloc _)).mono ?_
    rintro e w2 ⟨rfl, hM2, hg2⟩
    have hM3 : PlM w2 nb m (fun k => S k ∨ takeP P i c k) := hM2.congr fun k _ => by unfold takeP; rw [HPX.out]; simp
    have hg3 := (World.grownBy_alloc w (Obj.cells #[] 52) (some nb)).trans hg2
    clear h1 h2 hc2 hM2 hg2 HRE
    go_wp2_with fail
    go_end0
    exact ⟨rfl, hM3, hg3⟩
  | ex x =>
    obtain ⟨rx, hrx⟩ : ∃ rx : Int, rx = (rnum x : Int) := ⟨_, rfl⟩
    have hc2 : w.cell? ⟨g, o + i, none⟩ = some (.iface 49 (.int .i32 (rnum x : Int))) := hcell
    rw [← hrx] at hc2
    have h1 := ta_self1 rx
    have h2 := ta_self2 rx
    have h3 := ta_self3 rx
    have hxR : isRune x := HR.out x (List.mem_of_getElem? HPX.out)
    by_cases he : x = c
    · subst he
      obtain rfl : rx = ri := by omega
      clear hcell hri hrx hxR
      go_enter Try.func28, Try.ntmps28
      go_wp2_with fail
      with_reducible refine (HRE.out (i + 1) _ _ (by omega) (by omega) ⟨rfl, rfl, rfl, Nat.le_refl _, fun _ _ _ => rfl⟩ HPM.out).mono ?_
      rintro e w2 ⟨rfl, hM2, hg2⟩
      have hM3 : PlM w2 nb m (fun k => S k ∨ takeP P i x k) := hM2.congr fun k _ => by unfold takeP; rw [HPX.out]; simp
      clear h1 h2 h3 hc2 hM2 HRE
      go_wp2_with fail
      go_end0
      exact ⟨rfl, hM3, hg2⟩
    · have hne : (rx == ri) = false := by
        have : rnum x ≠ rnum c := fun e => he (rnum_inj hxR HC.out e)
        simp; omega
      have hM3 : PlM w nb m (fun k => S k ∨ takeP P i c k) := HPM.out.congr fun k _ => by unfold takeP; rw [HPX.out]; simp [he]
      clear hcell hri hrx hxR he HRE
      go_enter Try.func28, Try.ntmps28
      go_wp2_with fail
      go_end0
      exact ⟨rfl, hM3, ⟨rfl, rfl, rfl, Nat.le_refl _, fun _ _ _ => rfl⟩⟩
end Go.Proofs.Ytekmdgjkadglmaa
