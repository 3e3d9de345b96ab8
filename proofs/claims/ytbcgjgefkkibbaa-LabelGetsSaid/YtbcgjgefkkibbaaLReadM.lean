/- Package label: the reader's methods. -/
import Derived.Test.YtbcgjgefkkibbaaLApp
import Derived.Test.YtbcgjgefkkibbaaLRune
import Derived.Lib.OthersKept
import Derived.RangeFuncRecord
import Derived.Carry
import Derived.Laws.EntriesVeiled
import Derived.WalkKit
namespace Go.Proofs.Ytbcgjgefkkibbaa
open Go.RowKit

/-- A function value of the reader's own. -/
def meth (f rb : Nat) : Value := .func (.func f) #[.pointer (some ⟨rb, 0, none⟩)] #[]
theorem heap_new (w : World) (o : Obj) : (w.alloc o).heap[w.heap.size]? = some o := World.alloc_heap_new w o
theorem heap_at {w : World} {o : Obj} {k : Nat} (h : w.heap.size = k) : (w.alloc o).heap[k]? = some o := by subst h; exact heap_new w o
theorem set_size (w : World) (p : Addr) (u : Value) : (w.setCell p u).heap.size = w.heap.size := by simp [World.setCell]
theorem put_new (w : World) (o o' : Obj) : (w.alloc o).putObj w.heap.size o' = w.alloc o' := by
  have : (w.heap.push o).setIfInBounds w.heap.size o' = w.heap.push o' := by
    apply Array.ext
    · simp
    · intro i h1 h2
      rw [Array.getElem_setIfInBounds (by simpa using h1)]
      by_cases h : i = w.heap.size
      · subst h; simp
      · rw [if_neg (fun e => h e.symm)]
        have : i < w.heap.size := by simp at h1; omega
        rw [Array.getElem_push_lt this, Array.getElem_push_lt this]
  unfold World.alloc World.putObj
  rw [this]
theorem run_setMap {P : Program} {w : World} {b : Nat} {es : Array MapEntry} {c : Nat} (o : Obj) (h : w.heap[b]? = some (.map es c)) : (setObj b o).run P w = .ok () (w.putObj b o) := by simp [setObj, Sem.run, h, World.putObj]
theorem run_getMap {P : Program} {w : World} {b : Nat} {es : Array MapEntry} {c : Nat} (h : w.heap[b]? = some (.map es c)) : (getObj b).run P w = .ok (.map es c) w := by simp [getObj, Sem.run, h]
theorem chk32 (e : Bool) (n : Nat) (k : Int) (w : World) : (Instr.checkKey e (n + 1) 21 (.int .i32 k)).run Try.prog w = .ok () w := by
  unfold Instr.checkKey
  simp only [Sem.run_bind, run_underlying (P := Try.prog) Try.underlying21, Result.andThen_ok, Sem.run_pure]
theorem ins0 (w : World) (k : Int) (v : Value) : (Instr.mapUpdate 70 (.map (some w.heap.size)) (.int .i32 k) v).run Try.prog (w.alloc (.map #[] 0)) = .ok () (w.alloc (.map #[⟨.int .i32 k, v, 0⟩] 1)) := by
  have hb := heap_new w (.map #[] 0)
  unfold Instr.mapUpdate
  simp only [Sem.run_bind, run_underlying (P := Try.prog) Try.underlying70, Result.andThen_ok, run_getMap hb, chk32, Instr.findKey, run_underlying (P := Try.prog) Try.underlying21, Instr.findNow, Sem.run_pure, run_setMap _ hb]
  rw [put_new]
  rfl
theorem ins1 (w : World) (k k2 : Int) (hk : k ≠ k2) (v v2 : Value) : (Instr.mapUpdate 70 (.map (some w.heap.size)) (.int .i32 k2) v2).run Try.prog (w.alloc (.map #[⟨.int .i32 k, v, 0⟩] 1)) = .ok () (w.alloc (.map #[⟨.int .i32 k, v, 0⟩, ⟨.int .i32 k2, v2, 1⟩] 2)) := by
  have hb := heap_new w (.map #[⟨.int .i32 k, v, 0⟩] 1)
  have hne : (k2 == k) = false := by simpa using fun e => hk e.symm
  unfold Instr.mapUpdate
  simp only [Sem.run_bind, run_underlying (P := Try.prog) Try.underlying70, Result.andThen_ok, run_getMap hb, chk32, Instr.findKey, run_underlying (P := Try.prog) Try.underlying21, Instr.findNow, Instr.sameNow, Sem.run_pure, run_setMap _ hb, if_true, hne]
  rw [put_new]
  rfl
theorem look1 (w : World) (b : Nat) (k r : Int) (v : Value) (h : w.heap[b]? = some (.map #[⟨.int .i32 k, v, 0⟩] 1)) : (Instr.lookup 70 (.map (some b)) (.int .i32 r) true).run Try.prog w = .ok (if r = k then .tuple #[v, .bool true] else .tuple #[.nilFunc, .bool false]) w := by
  unfold Instr.lookup
  by_cases hr : r = k
  · subst hr
    simp only [Sem.run_bind, run_underlying (P := Try.prog) Try.underlying70, Result.andThen_ok, run_getMap h, chk32, Instr.findKey, run_underlying (P := Try.prog) Try.underlying21, Instr.findNow, Instr.sameNow, Sem.run_pure, if_true, beq_self_eq_true]
  · have hne : (r == k) = false := by simpa using hr
    simp only [Sem.run_bind, run_underlying (P := Try.prog) Try.underlying70, Result.andThen_ok, run_getMap h, chk32, Instr.findKey, run_underlying (P := Try.prog) Try.underlying21, Instr.findNow, Instr.sameNow, Sem.run_pure, if_true, hne, Try.zeroValue71, if_neg hr]
theorem look2 (w : World) (b : Nat) (k k2 r : Int) (v v2 : Value) (h : w.heap[b]? = some (.map #[⟨.int .i32 k, v, 0⟩, ⟨.int .i32 k2, v2, 1⟩] 2)) :
    (Instr.lookup 70 (.map (some b)) (.int .i32 r) true).run Try.prog w = .ok (if r = k then .tuple #[v, .bool true] else if r = k2 then .tuple #[v2, .bool true] else .tuple #[.nilFunc, .bool false]) w := by
  unfold Instr.lookup
  by_cases hr : r = k
  · subst hr
    simp only [Sem.run_bind, run_underlying (P := Try.prog) Try.underlying70, Result.andThen_ok, run_getMap h, chk32, Instr.findKey, run_underlying (P := Try.prog) Try.underlying21, Instr.findNow, Instr.sameNow, Sem.run_pure, if_true, beq_self_eq_true]
  · have hne : (r == k) = false := by simpa using hr
    by_cases hr2 : r = k2
    · subst hr2
      simp only [Sem.run_bind, run_underlying (P := Try.prog) Try.underlying70, Result.andThen_ok, run_getMap h, chk32, Instr.findKey, run_underlying (P := Try.prog) Try.underlying21, Instr.findNow, Instr.sameNow, Sem.run_pure, if_true, hne, beq_self_eq_true, if_neg hr]
    · have hne2 : (r == k2) = false := by simpa using hr2
      simp only [Sem.run_bind, run_underlying (P := Try.prog) Try.underlying70, Result.andThen_ok, run_getMap h, chk32, Instr.findKey, run_underlying (P := Try.prog) Try.underlying21, Instr.findNow, Instr.sameNow, Sem.run_pure, if_true, hne, hne2, Try.zeroValue71, if_neg hr, if_neg hr2]
theorem look0 (w : World) (r : Int) : (Instr.lookup 70 (.map none) (.int .i32 r) true).run Try.prog w = .ok (.tuple #[.nilFunc, .bool false]) w := by
  unfold Instr.lookup
  simp only [Sem.run_bind, run_underlying (P := Try.prog) Try.underlying70, Result.andThen_ok, chk32, Instr.findKey, run_underlying (P := Try.prog) Try.underlying21, Instr.findNow, Sem.run_pure, if_true, Try.zeroValue71]

/-- What stands in the map at a name, at a value. -/
def mapN (rb : Nat) : Obj := .map #[⟨.int .i32 61, meth 57 rb, 0⟩] 1
def mapV (rb : Nat) : Obj := .map #[⟨.int .i32 44, meth 78 rb, 0⟩, ⟨.int .i32 92, meth 79 rb, 1⟩] 2

/-- Where the reader stands: in a name, in a value, behind a quote. -/
inductive Md
  | name
  | value
  | quoted
def othF : Md → Nat
  | .name => 58
  | .value => 80
  | .quoted => 82
def MapAt (rb : Nat) : Md → Value → World → Prop
  | .name, d, W => ∃ mb, d = .map (some mb) ∧ W.heap[mb]? = some (mapN rb)
  | .value, d, W => ∃ mb, d = .map (some mb) ∧ W.heap[mb]? = some (mapV rb)
  | .quoted, d, _ => d = .map none
/-- The reader in memory. -/
def RdA (rb : Nat) (md : Md) (nm v : ByteArray) (dv : Value) (W : World) : Prop := ∃ d, HasC W rb 73 #[.string nm, .string v, dv, d, meth (othF md) rb] ∧ MapAt rb md d W
theorem grown_set (w : World) (rb i : Nat) (u : Value) : w.grownBy (w.setCell ⟨rb, i, none⟩ u) (some rb) :=
  ⟨rfl, rfl, rfl, by simp [World.setCell], fun k _ hne => Below.heap_setCell w ⟨rb, i, none⟩ u k (fun e => hne (by rw [e]))⟩
theorem grown_trans {w w1 w2 : World} {row : Option Nat} (h : w.grownBy w1 row) (h2 : w1.grownBy w2 row) : w.grownBy w2 row :=
  ⟨h2.os.trans h.os, h2.tape.trans h.tape, h2.output.trans h.output, Nat.le_trans h.size h2.size, fun k hk hne => (h2.block k (Nat.lt_of_lt_of_le hk h.size) hne).trans (h.block k hk hne)⟩
theorem grown_alloc {w w1 : World} {row : Option Nat} (h : w.grownBy w1 row) (o : Obj) : w.grownBy (w1.alloc o) row := grown_trans h (World.grownBy_alloc w1 o row)
theorem grown_put {w w1 : World} {rb : Nat} (h : w.grownBy w1 (some rb)) (i : Nat) (u : Value) : w.grownBy (w1.setCell ⟨rb, i, none⟩ u) (some rb) := grown_trans h (grown_set w1 rb i u)

set_option maxRecDepth 100000 in
theorem beginName_any (rb : Nat) (nm v : ByteArray) (dv d e : Value) (w : World) (h : HasC w rb 73 #[.string nm, .string v, dv, d, e]) :
    Calls Try.prog 45 #[.pointer (some ⟨rb, 0, none⟩)] w fun x w' => x = .returned (.tuple #[]) ∧ RdA rb .name nm v dv w' ∧ w.grownBy w' (some rb) := by
  have hlt := h.lt
  have H := Lib.hid h
  have hi := ins0 w 61 (.func (.func 57) #[.pointer (some ⟨rb, 0, none⟩)] #[])
  have c3 : w.cell? ⟨rb, 3, none⟩ = some d := h.cell 3
  have f3 := h.frozen 3
  have c4 : w.cell? ⟨rb, 4, none⟩ = some e := h.cell 4
  have f4 := h.frozen 4
  have hmm := @run_makeMap Try.prog
  clear h
  go_enter Try.func45, Try.ntmps45
  go_wp2
  go_end0
  refine ⟨rfl, ⟨.map (some w.heap.size), ?_, w.heap.size, rfl, ?_⟩, grown_alloc (grown_put (grown_set w rb 3 _) 4 _) _⟩
  · exact HasC.alloc (((H.out.set 3 (.map (some w.heap.size))).set 4 (meth 58 rb)).eq rfl) _
  · exact heap_at ((set_size _ _ _).trans (set_size _ _ _))
set_option maxRecDepth 100000 in
theorem beginValue_any (rb : Nat) (nm v : ByteArray) (dv d e : Value) (w : World) (h : HasC w rb 73 #[.string nm, .string v, dv, d, e]) :
    Calls Try.prog 72 #[.pointer (some ⟨rb, 0, none⟩)] w fun x w' => x = .returned (.tuple #[]) ∧ RdA rb .value nm v dv w' ∧ w.grownBy w' (some rb) := by
  have hlt := h.lt
  have H := Lib.hid h
  have hi := ins0 w 44 (.func (.func 78) #[.pointer (some ⟨rb, 0, none⟩)] #[])
  have hj := ins1 w 44 92 (by decide) (.func (.func 78) #[.pointer (some ⟨rb, 0, none⟩)] #[]) (.func (.func 79) #[.pointer (some ⟨rb, 0, none⟩)] #[])
  have c3 : w.cell? ⟨rb, 3, none⟩ = some d := h.cell 3
  have f3 := h.frozen 3
  have c4 : w.cell? ⟨rb, 4, none⟩ = some e := h.cell 4
  have f4 := h.frozen 4
  have hmm := @run_makeMap Try.prog
  clear h
  go_enter Try.func72, Try.ntmps72
  go_wp2
  go_end0
  refine ⟨rfl, ⟨.map (some w.heap.size), ?_, w.heap.size, rfl, ?_⟩, grown_alloc (grown_put (grown_set w rb 3 _) 4 _) _⟩
  · exact HasC.alloc (((H.out.set 3 (.map (some w.heap.size))).set 4 (meth 80 rb)).eq rfl) _
  · exact heap_at ((set_size _ _ _).trans (set_size _ _ _))
set_option maxRecDepth 100000 in
theorem beginQuoted_any (rb : Nat) (r : Int) (nm v : ByteArray) (dv d e : Value) (w : World) (h : HasC w rb 73 #[.string nm, .string v, dv, d, e]) :
    Calls Try.prog 79 #[.pointer (some ⟨rb, 0, none⟩), .int .i32 r] w fun x w' => x = .returned (.tuple #[]) ∧ RdA rb .quoted nm v dv w' ∧ w.grownBy w' (some rb) := by
  have hlt := h.lt
  have H := Lib.hid h
  have c3 : w.cell? ⟨rb, 3, none⟩ = some d := h.cell 3
  have f3 := h.frozen 3
  have c4 : w.cell? ⟨rb, 4, none⟩ = some e := h.cell 4
  have f4 := h.frozen 4
  clear h
  go_enter Try.func79, Try.ntmps79
  go_wp2
  go_end0
  exact ⟨rfl, ⟨.map none, ((H.out.set 3 (.map none)).set 4 (meth 82 rb)).eq rfl, rfl⟩, grown_put (grown_set w rb 3 _) 4 _⟩
set_option maxRecDepth 100000 in
theorem addName_any (rb : Nat) (r : Int) (nm v : ByteArray) (dv d e : Value) (w : World) (h : HasC w rb 73 #[.string nm, .string v, dv, d, e]) (hz : nm.size + (Utf8.encode r).size ≤ 1000000) :
    Calls Try.prog 58 #[.pointer (some ⟨rb, 0, none⟩), .int .i32 r] w fun x w' => x = .returned (.tuple #[]) ∧ HasC w' rb 73 #[.string (nm ++ Utf8.encode r), .string v, dv, d, e] ∧ w.grownBy w' (some rb) := by
  have hlt := h.lt
  have H := Lib.hid h
  have c0 : w.cell? ⟨rb, 0, none⟩ = some (.string nm) := h.cell 0
  have f0 := h.frozen 0
  clear h
  go_enter Try.func58, Try.ntmps58
  go_wp2
  go_end0
  exact ⟨rfl, (H.out.set 0 _).eq rfl, grown_set w rb 0 _⟩
set_option maxRecDepth 100000 in
theorem addValue_any (rb : Nat) (r : Int) (nm v : ByteArray) (dv d e : Value) (w : World) (h : HasC w rb 73 #[.string nm, .string v, dv, d, e]) (hz : v.size + (Utf8.encode r).size ≤ 1000000) :
    Calls Try.prog 80 #[.pointer (some ⟨rb, 0, none⟩), .int .i32 r] w fun x w' => x = .returned (.tuple #[]) ∧ HasC w' rb 73 #[.string nm, .string (v ++ Utf8.encode r), dv, d, e] ∧ w.grownBy w' (some rb) := by
  have hlt := h.lt
  have H := Lib.hid h
  have c0 : w.cell? ⟨rb, 1, none⟩ = some (.string v) := h.cell 1
  have f0 := h.frozen 1
  clear h
  go_enter Try.func80, Try.ntmps80
  go_wp2
  go_end0
  exact ⟨rfl, (H.out.set 1 _).eq rfl, grown_set w rb 1 _⟩
set_option maxRecDepth 100000 in
theorem addQuoted_any (rb : Nat) (r : Int) (nm v : ByteArray) (dv d e : Value) (w : World) (h : HasC w rb 73 #[.string nm, .string v, dv, d, e]) (hz : v.size + (Utf8.encode r).size ≤ 1000000) :
    Calls Try.prog 82 #[.pointer (some ⟨rb, 0, none⟩), .int .i32 r] w fun x w' => x = .returned (.tuple #[]) ∧ RdA rb .value nm (v ++ Utf8.encode r) dv w' ∧ w.grownBy w' (some rb) := by
  have A1 := Lib.hid (addValue_any rb r nm v dv d e w h hz)
  have B1 := Lib.hid (fun W hW => beginValue_any rb nm (v ++ Utf8.encode r) dv d e W hW)
  clear h hz
  go_enter Try.func82, Try.ntmps82
  go_wp2_with fail
  with_reducible refine A1.out.mono ?_
  rintro x w1 ⟨rfl, h1, g1⟩
  clear A1
  go_wp2_with fail
  with_reducible refine (B1.out _ h1).mono ?_
  rintro x w2 ⟨rfl, h2, g2⟩
  clear B1
  go_wp2_with fail
  go_end0
  exact ⟨rfl, h2, grown_trans g1 g2⟩
set_option maxRecDepth 100000 in
theorem endName_any (rb : Nat) (r : Int) (nm v : ByteArray) (dv d e : Value) (w : World) (h : HasC w rb 73 #[.string nm, .string v, dv, d, e]) :
    Calls Try.prog 57 #[.pointer (some ⟨rb, 0, none⟩), .int .i32 r] w fun x w' => x = .returned (.tuple #[]) ∧ RdA rb .value nm v dv w' ∧ w.grownBy w' (some rb) := by
  have B1 := Lib.hid (beginValue_any rb nm v dv d e w h)
  clear h
  go_enter Try.func57, Try.ntmps57
  go_wp2_with fail
  with_reducible refine B1.out.mono ?_
  rintro x w2 ⟨rfl, h2, g2⟩
  clear B1
  go_wp2_with fail
  go_end0
  exact ⟨rfl, h2, g2⟩
end Go.Proofs.Ytbcgjgefkkibbaa
