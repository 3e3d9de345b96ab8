/- Package label: the reader's label ends; a rune is taken. -/
import Derived.Test.YtbcgjgefkkibbaaLReadM
import Derived.Deep.RegionHeldLaw
import Derived.Deep.RegionLaw
import Derived.Deep.AppendLies
namespace Go.Proofs.Ytbcgjgefkkibbaa
open Go.RowKit

/-- What a method keeps: all but the reader's block, and rows of labels. -/
def KeepR (rb : Nat) (w w' : World) : Prop := Lib.OthersKept 41 (some rb) w w' ∧ Below rb w w'
theorem KeepR.trans {rb : Nat} {a b c : World} (h : KeepR rb a b) (h2 : KeepR rb b c) : KeepR rb a c := ⟨h.1.trans h2.1, h.2.trans h2.2⟩
theorem keepR_grown {rb : Nat} {w w' : World} (hrb : rb < w.heap.size) (h : w.grownBy w' (some rb)) : KeepR rb w w' :=
  ⟨fun k _ hk hb _ => (h.block k (Array.getElem?_eq_some_iff.1 hk).1 hb).trans hk, ⟨h.os, h.tape, h.output, h.size, fun _ hk => h.block _ (by omega) (fun e => by have := Option.some.inj e; omega)⟩⟩
theorem keepR_row {rb n : Nat} {w w' : World} {dv : Value} {xs : List Value} (hrb : rb < w.heap.size) (hown : w.ownsRow (rb + 1) 41 2 dv n xs) (h : w.grownBy w' dv.ownBlock) : KeepR rb w w' := by
  have hk : ∀ g, dv.ownBlock = some g → ∃ c fz, w.heap[g]? = some (.cells c 41 fz) := by
    intro g hg
    rcases hown.2 with ⟨hv, _⟩ | ⟨g2, cap, cur, hv, _, h2, _⟩
    · rw [hv] at hg; cases hg
    · rw [hv] at hg
      cases hg
      exact ⟨_, _, h2⟩
  exact ⟨(Lib.OthersKept.refl 41 (some rb) w).grown h hk, ⟨h.os, h.tape, h.output, h.size, fun k hk2 => h.block k (by omega) (fun e => by have := (hown.lt _ e.symm).1; omega)⟩⟩
theorem owns_set {rb n : Nat} {w w' : World} {dv : Value} {xs : List Value} (hown : w.ownsRow (rb + 1) 41 2 dv n xs) (h : w.grownBy w' (some rb)) : w'.ownsRow (rb + 1) 41 2 dv n xs :=
  hown.kept h (.inr fun e => by have := (hown.lt _ e).1; omega)
theorem HasC.grown3 {w w3 : World} {rb n : Nat} {cs : Array Value} {o : Obj} {dv : Value} {xs : List Value} (h : HasC w rb 73 cs) (hown : w.ownsRow (rb + 1) 41 2 dv n xs) (hg : ((w.alloc o).drew).grownBy w3 dv.ownBlock) : HasC w3 rb 73 cs :=
  (hg.block rb (Nat.lt_of_lt_of_le h.lt (by simp)) (fun e => by have := (hown.lt _ e.symm).1; omega)).trans (h.alloc o)
set_option maxHeartbeats 1000000 in
set_option maxRecDepth 100000 in
theorem endLabel_any (rb : Nat) (r : Int) (nm v : ByteArray) (dv d e : Value) (D : List Lab) (w : World) (h : HasC w rb 73 #[.string nm, .string v, dv, d, e]) (hown : w.ownsRow (rb + 1) 41 2 dv D.length (cellsL D)) (hD : D.length ≤ 2000) :
    Calls Try.prog 78 #[.pointer (some ⟨rb, 0, none⟩), .int .i32 r] w fun x w' => x = .returned (.tuple #[]) ∧ (∃ dv', RdA rb .name { data := #[] } { data := #[] } dv' w' ∧ w'.ownsRow (rb + 1) 41 2 dv' (D.length + 1) (cellsL (D ++ [(nm, v)]))) ∧ KeepR rb w w' := by
  have hlt := h.lt
  have H := Lib.hid h
  obtain ⟨n, hn⟩ : ∃ n, n = D.length := ⟨_, rfl⟩
  have HN := Lib.hid hn
  rw [← hn] at hown hD ⊢
  have c0 : w.cell? ⟨rb, 0, none⟩ = some (.string nm) := h.cell 0
  have c1 : w.cell? ⟨rb, 1, none⟩ = some (.string v) := h.cell 1
  have c2 : w.cell? ⟨rb, 2, none⟩ = some dv := h.cell 2
  have f2 := h.frozen 2
  have HO := Lib.hid hown
  clear h hn
  go_enter Try.func78, Try.ntmps78
  go_wp2_with fail
  go_region_law (first
    | (refine step_app _ (by rfl) (.tmp 8) (.tmp 13) (by rfl) (rb + 1) dv n (cellsL D) (by rfl) ((HO.out.alloc _).drew) (.slice (some ⟨w.heap.size, 0, none⟩) 1 1) 1 (cellsL [(nm, v)]) (by rfl) (.inr ⟨_, _, rfl, rfl, World.news_of_block (cs := #[.string nm, .string v]) (t := 41) (fr := (0, 0)) (heap_alloc_new w _), cellsL_one _⟩) (by omega) (by simp; omega) ?_; intro v3 w3 hown' hgrow; obtain ⟨g3, cap3, rfl, _, _⟩ := hown'.form (by omega); have h3 := HasC.grown3 H.out HO.out hgrow; have d2 : w3.cell? ⟨rb, 2, none⟩ = some dv := h3.cell 2; have z2 := h3.frozen 2)
    | fail)
  all_goals
    have hV := (h3.set 2 (.slice (some ⟨g3, 0, none⟩) (n + 1) cap3)).eq (cs' := #[.string nm, .string v, .slice (some ⟨g3, 0, none⟩) (n + 1) cap3, d, e]) rfl
    have hK : KeepR rb w (w3.setCell ⟨rb, 2, none⟩ (.slice (some ⟨g3, 0, none⟩) (n + 1) cap3)) := by
      refine KeepR.trans (b := (w.alloc (.cells #[.string nm, .string v] 41)).drew) ?_ (KeepR.trans (keepR_row (by simp; omega) ((HO.out.alloc _).drew) hgrow) (keepR_grown h3.lt (grown_set w3 rb 2 _)))
      exact ⟨((Lib.OthersKept.refl 41 (some rb) w).alloc _).drew, ((Below.refl rb w).alloc (by omega) _).drew⟩
    have hO := owns_set hown' (grown_set w3 rb 2 (.slice (some ⟨g3, 0, none⟩) (n + 1) cap3))
    have hca : cellsL D ++ cellsL [(nm, v)] = cellsL (D ++ [(nm, v)]) := (cellsL_app _ _).symm
    rw [hca] at hO
    generalize w3.setCell ⟨rb, 2, none⟩ (.slice (some ⟨g3, 0, none⟩) (n + 1) cap3) = V at hV hK hO
    generalize (.slice (some ⟨g3, 0, none⟩) (n + 1) cap3 : Value) = nv at hV hO
    clear hca hown' hgrow h3 d2 z2 c0 c1 c2 f2 hown
    have HVV := Lib.hid hV
    have HKK := Lib.hid hK
    have HOO := Lib.hid hO
    have k0 : V.cell? ⟨rb, 0, none⟩ = some (.string nm) := hV.cell 0
    have k1 : V.cell? ⟨rb, 1, none⟩ = some (.string v) := hV.cell 1
    have z0 := hV.frozen 0
    have z1 := hV.frozen 1
    clear hV hK hO
    go_wp2_with fail
    have hV2 := ((HVV.out.set 0 (.string { data := #[] })).set 1 (.string { data := #[] })).eq (cs' := #[.string { data := #[] }, .string { data := #[] }, nv, d, e]) rfl
    with_reducible refine (beginName_any rb _ _ _ _ _ _ hV2).mono ?_
    rintro x w5 ⟨rfl, hR5, g5⟩
    have g6 := grown_trans (grown_put (grown_set V rb 0 (.string { data := #[] })) 1 (.string { data := #[] })) g5
    clear k0 k1 z0 z1 hV2 g5
    go_wp2_with fail
    go_end0
    exact ⟨rfl, ⟨nv, hR5, owns_set HOO.out g6⟩, HKK.out.trans (keepR_grown HVV.out.lt g6)⟩

end Go.Proofs.Ytbcgjgefkkibbaa
