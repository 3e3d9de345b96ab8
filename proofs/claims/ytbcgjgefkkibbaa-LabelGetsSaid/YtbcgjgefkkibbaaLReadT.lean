/- Package label: the reader takes a rune. -/
import Derived.Test.YtbcgjgefkkibbaaLReadE
namespace Go.Proofs.Ytbcgjgefkkibbaa
open Go.RowKit

/-- What the reader holds. -/
structure RdS where
  md : Md
  nm : ByteArray
  v : ByteArray
  done : List Lab
/-- A rune is taken. -/
def stepR (r : Int) (s : RdS) : RdS := match s.md with
  | .name => if r = 61 then { s with md := .value } else { s with nm := s.nm ++ Utf8.encode r }
  | .value => if r = 44 then ⟨.name, { data := #[] }, { data := #[] }, s.done ++ [(s.nm, s.v)]⟩ else if r = 92 then { s with md := .quoted } else { s with v := s.v ++ Utf8.encode r }
  | .quoted => { s with md := .value, v := s.v ++ Utf8.encode r }
def RdF (rb : Nat) (s : RdS) (W : World) : Prop := ∃ dv, RdA rb s.md s.nm s.v dv W ∧ W.ownsRow (rb + 1) 41 2 dv s.done.length (cellsL s.done)
theorem mapAt_grown {rb : Nat} {md : Md} {d : Value} {cs : Array Value} {w w' : World} (hC : HasC w rb 73 cs) (h : MapAt rb md d w) (g : w.grownBy w' (some rb)) : MapAt rb md d w' := by
  have key : ∀ mb es c, w.heap[mb]? = some (Obj.map es c) → w'.heap[mb]? = some (Obj.map es c) := fun mb es c hm =>
    (g.block mb (Array.getElem?_eq_some_iff.1 hm).1 (fun e => by
      have e2 := Option.some.inj e
      subst e2
      rw [show w.heap[mb]? = _ from hC] at hm
      cases hm)).trans hm
  cases md with
  | name => obtain ⟨mb, rfl, hm⟩ := h; exact ⟨mb, rfl, key _ _ _ hm⟩
  | value => obtain ⟨mb, rfl, hm⟩ := h; exact ⟨mb, rfl, key _ _ _ hm⟩
  | quoted => exact h

set_option maxHeartbeats 1000000 in
set_option maxRecDepth 100000 in
theorem take_any (rb : Nat) (r : Int) (s : RdS) (w : World) (h : RdF rb s w) (hz : s.nm.size + (Utf8.encode r).size ≤ 1000000) (hz2 : s.v.size + (Utf8.encode r).size ≤ 1000000) (hD : s.done.length ≤ 2000) :
    Calls Try.prog 46 #[.pointer (some ⟨rb, 0, none⟩), .int .i32 r] w fun x w' => x = .returned (.tuple #[]) ∧ RdF rb (stepR r s) w' ∧ KeepR rb w w' := by
  obtain ⟨md, nm, v, D⟩ := s
  obtain ⟨dv, ⟨d, hC, hM⟩, hO⟩ := h
  dsimp only at hC hM hO hz hz2 hD
  have hlt := hC.lt
  have HC := Lib.hid hC
  have HO := Lib.hid hO
  have HM := Lib.hid hM
  have c3 : w.cell? ⟨rb, 3, none⟩ = some d := hC.cell 3
  have c4 : w.cell? ⟨rb, 4, none⟩ = some (.func (.func (othF md)) #[.pointer (some ⟨rb, 0, none⟩)] #[]) := hC.cell 4
  clear hC hO
  cases md with
  | name =>
    obtain ⟨mb, rfl, hm⟩ := hM
    have hl := look1 w mb 61 r (meth 57 rb) hm
    have c4' : w.cell? ⟨rb, 4, none⟩ = some (.func (.func 58) #[.pointer (some ⟨rb, 0, none⟩)] #[]) := c4
    unfold meth at hl
    clear hm c4
    by_cases hr : r = 61
    · subst hr
      rw [if_pos rfl] at hl
      have E1 := Lib.hid (endName_any rb 61 nm v dv _ _ w HC.out)
      go_enter Try.func46, Try.ntmps46
      go_wp2_with fail
      with_reducible refine E1.out.mono ?_
      rintro x w2 ⟨rfl, hR, g⟩
      clear E1
      go_wp2_with fail
      refine bodyPost_ret (results_none rfl _ _ _) rfl ?_
      exact ⟨rfl, ⟨dv, hR, owns_set HO.out g⟩, keepR_grown hlt g⟩
    · rw [if_neg hr] at hl
      have E1 := Lib.hid (addName_any rb r nm v dv _ _ w HC.out hz)
      have HS : Hid (stepR r ⟨.name, nm, v, D⟩ = ⟨.name, nm ++ Utf8.encode r, v, D⟩) := by show (if r = 61 then _ else _) = _; rw [if_neg hr]
      clear hr
      go_enter Try.func46, Try.ntmps46
      go_wp2_with fail
      with_reducible refine E1.out.mono ?_
      rintro x w2 ⟨rfl, hR, g⟩
      clear E1
      go_wp2_with fail
      go_end0
      exact ⟨rfl, by rw [HS.out]; exact ⟨dv, ⟨_, hR, mapAt_grown HC.out HM.out g⟩, owns_set HO.out g⟩, keepR_grown hlt g⟩
  | value =>
    obtain ⟨mb, rfl, hm⟩ := hM
    have hl := look2 w mb 44 92 r (meth 78 rb) (meth 79 rb) hm
    have c4' : w.cell? ⟨rb, 4, none⟩ = some (.func (.func 80) #[.pointer (some ⟨rb, 0, none⟩)] #[]) := c4
    unfold meth at hl
    clear hm c4
    by_cases hr : r = 44
    · subst hr
      rw [if_pos rfl] at hl
      have E1 := Lib.hid (endLabel_any rb 44 nm v dv _ _ D w HC.out HO.out hD)
      go_enter Try.func46, Try.ntmps46
      go_wp2_with fail
      with_reducible refine E1.out.mono ?_
      rintro x w2 ⟨rfl, ⟨dv', hR, hO'⟩, hK⟩
      clear E1
      go_wp2_with fail
      refine bodyPost_ret (results_none rfl _ _ _) rfl ?_
      exact ⟨rfl, ⟨dv', hR, by show World.ownsRow _ _ _ _ _ (D ++ [(nm, v)]).length _; rw [List.length_append]; exact hO'⟩, hK⟩
    · rw [if_neg hr] at hl
      by_cases hq : r = 92
      · subst hq
        rw [if_pos rfl] at hl
        have E1 := Lib.hid (beginQuoted_any rb 92 nm v dv _ _ w HC.out)
        clear hr
        go_enter Try.func46, Try.ntmps46
        go_wp2_with fail
        with_reducible refine E1.out.mono ?_
        rintro x w2 ⟨rfl, hR, g⟩
        clear E1
        go_wp2_with fail
        refine bodyPost_ret (results_none rfl _ _ _) rfl ?_
        exact ⟨rfl, ⟨dv, hR, owns_set HO.out g⟩, keepR_grown hlt g⟩
      · rw [if_neg hq] at hl
        have E1 := Lib.hid (addValue_any rb r nm v dv _ _ w HC.out hz2)
        have HS : Hid (stepR r ⟨.value, nm, v, D⟩ = ⟨.value, nm, v ++ Utf8.encode r, D⟩) := by show (if r = 44 then _ else if r = 92 then _ else _) = _; rw [if_neg hr, if_neg hq]
        clear hr hq
        go_enter Try.func46, Try.ntmps46
        go_wp2_with fail
        with_reducible refine E1.out.mono ?_
        rintro x w2 ⟨rfl, hR, g⟩
        clear E1
        go_wp2_with fail
        go_end0
        exact ⟨rfl, by rw [HS.out]; exact ⟨dv, ⟨_, hR, mapAt_grown HC.out HM.out g⟩, owns_set HO.out g⟩, keepR_grown hlt g⟩
  | quoted =>
    obtain rfl : d = .map none := hM
    have hl := look0 w r
    have c4' : w.cell? ⟨rb, 4, none⟩ = some (.func (.func 82) #[.pointer (some ⟨rb, 0, none⟩)] #[]) := c4
    have E1 := Lib.hid (addQuoted_any rb r nm v dv _ _ w HC.out hz2)
    clear c4
    go_enter Try.func46, Try.ntmps46
    go_wp2_with fail
    with_reducible refine E1.out.mono ?_
    rintro x w2 ⟨rfl, hR, g⟩
    clear E1
    go_wp2_with fail
    go_end0
    exact ⟨rfl, ⟨dv, hR, owns_set HO.out g⟩, keepR_grown hlt g⟩
end Go.Proofs.Ytbcgjgefkkibbaa
