/- Package frame: All. -/
import Derived.Test.YthbfibnpfdegaaaDoorRRdd
import Derived.Test.YthbfibnpfdegaaaDoorQuietIn
namespace Go.Proofs.YthbfibnpfdegaaaDoor
open Go.RowKit Go.Shelf
attribute [local go_sem] Oper.semAt_some

theorem frames_any (s : ByteArray) (w : World) :
    Calls Tryd.prog 32 #[.string s] w fun e w' => e = .returned (.func (.func 41) #[] #[.pointer (some ⟨w.heap.size, 0, none⟩)]) ∧ w' = w.alloc (.cells #[.string s] 9) := by
  go_enter Tryd.func32, Tryd.ntmps32
  go_wp2
  go_ret
  exact ⟨rfl, rfl⟩

/-- An error, by its number. -/
def errV (e : Int) : Value := if e = 0 then .nilIface else faultV e
/-- What is read next: bytes, what is behind them, the error's number. -/
def nxF (s : ByteArray) : ByteArray × ByteArray × Int := match readL s.data.toList with
  | .more => ({ data := #[] }, s, 20)
  | .frame => ({ data := #[] }, s, 30)
  | .check => ({ data := #[] }, s, 31)
  | .ok a k => (s.extract a k, s.extract (k + 4) s.size, 0)
theorem nx_rd (s : ByteArray) : RdOut s = .tuple #[.agg #[.string (nxF s).1, .string (nxF s).2.1], errV (nxF s).2.2] := by
  unfold RdOut nxF
  cases readL s.data.toList <;> rfl
theorem nx_all {s r : ByteArray} {ts : List ByteArray} {E : Int} (h : AllR s ts r E) :
    ((nxF s).2.2 = E ∧ E ≠ 0 ∧ (nxF s).2.1 = r ∧ ts = []) ∨
    ((nxF s).2.2 = 0 ∧ ∃ ts', ts = (nxF s).1 :: ts' ∧ AllR (nxF s).2.1 ts' r E ∧ (nxF s).2.1.size < s.size) := by
  unfold nxF
  cases h with
  | more h => rw [h]; exact .inl ⟨rfl, by decide, rfl, rfl⟩
  | frame h => rw [h]; exact .inl ⟨rfl, by decide, rfl, rfl⟩
  | check h => rw [h]; exact .inl ⟨rfl, by decide, rfl, rfl⟩
  | step h h2 =>
    have hl := read_less h
    rw [h]
    exact .inr ⟨rfl, _, rfl, h2, by dsimp only; omega⟩
def encF (x : ByteArray × ByteArray × Int) : Array Value := #[.agg #[.string x.1, .string x.2.1], errV x.2.2]
/-- What a round keeps: blocks of such pairs. -/
def KpF (W W' : World) : Prop := ∀ b cs, HasC W b 47 cs → HasC W' b 47 cs
def sizeAt : Option Value → Nat
  | some (.string x) => x.size
  | _ => 0
/-- How much is to be read yet: what is behind the block's bytes, twice; one more, if there is no error. -/
def meaF (f e : Value) (W : World) : Nat := (match f with
  | .pointer (some p) => 2 * sizeAt (W.cell? ⟨p.block, 1, none⟩)
  | _ => 0) + (match e with
  | .nilIface => 1
  | _ => 0)

set_option maxHeartbeats 1000000 in
set_option maxRecDepth 100000 in
/-- The iterator's contract: each frame's bytes are handed over, what is behind them, the error; it ends when the body leaves. -/
theorem frames_in {am af : Addr} {N : Nat} (n : Nat) (hn : 1 ≤ n) (l Bn : Nat) (s : ByteArray) (J : ByteArray → World → Prop) (Jx : World → Prop)
    (hJb : ∀ ri W W', J ri W → Below W.heap.size W W' → J ri W') (hJs : ∀ ri W, J ri W → ri.size ≤ maxLen ∧ SentR am af N W)
    (hY : ∀ ri W, J ri W → YieldAt Fence.wide (n - 1) Tryd.prog l (encF (nxF ri)) W fun e W' =>
      (e = .returned (.bool true) ∧ (nxF ri).2.2 = 0 ∧ (nxF (nxF ri).2.1).2.1.size ≤ (nxF ri).2.1.size ∧ ((nxF (nxF ri).2.1).2.2 = 0 → (nxF (nxF ri).2.1).2.1.size < (nxF ri).2.1.size) ∧ J (nxF ri).2.1 W' ∧ KpF W W') ∨ (e = .returned (.bool false) ∧ Jx W'))
    (W : World) (hBn : HasC W Bn 9 #[.string s]) (h0 : J s W) :
    CallsIn Fence.wide n Tryd.prog 41 #[.func (.yield l) #[] #[], .pointer (some ⟨Bn, 0, none⟩)] W fun e W' => (∃ v, e = .returned v) ∧ Jx W' := by
  have c0 : W.cell? ⟨Bn, 0, none⟩ = some (.string s) := hBn.cell 0
  clear hBn
  have HR := Lib.hid (fun W (h : SentR am af N W) => rd_val s _ (nx_rd s) (hJs s _ h0).1 W h)
  refine callsIn_of_wp Tryd.func41 rfl trivial ?_ rfl
  simp only [Tryd.ntmps41, List.size_toArray, List.length_cons, List.length_nil, Nat.reduceAdd, Nat.reduceSub, Array.replicate_succ, Array.replicate_zero, List.push_toArray, List.append_toArray, List.nil_append, List.cons_append]
  gi_wp2_with fail
  refine ⟨trivial, ?_⟩
  refine (callsIn_wide.2 (HR.out _ (hJs _ _ h0).2)).mono ?_
  rintro e w1 ⟨rfl, hb⟩
  have hJ1 := hJb _ _ _ h0 hb
  clear c0 hb h0
  gi_wp2_with fail
  clear HR
  gi_loopw [3, 4] (fun f e wr => ∃ (ri : ByteArray) (bf : Nat), f = .pointer (some ⟨bf, 0, none⟩) ∧ e = errV (nxF ri).2.2 ∧ HasC wr bf 47 #[.string (nxF ri).1, .string (nxF ri).2.1] ∧ J ri wr) (fun f e wr => meaF f e wr)
  case atStart => exact ⟨s, w1.heap.size, rfl, rfl, HasC.new _ _ _, hJb _ _ _ hJ1 ((Below.refl _ _).alloc (Nat.le_refl _) _)⟩
  case round =>
    obtain ⟨ri, bf, rfl, rfl, hF, hJ⟩ := hrel
    have d0 : wr.cell? ⟨bf, 0, none⟩ = some (.string (nxF ri).1) := hF.cell 0
    have d1 : wr.cell? ⟨bf, 1, none⟩ = some (.string (nxF ri).2.1) := hF.cell 1
    obtain ⟨fn, tmps, assign, body, hy, hR⟩ := hY ri wr hJ
    unfold encF at hy
    gi_wp2
    refine hR.mono ?_
    rintro e W3 (⟨rfl, he0, hle, hlt, hJ3, hK3⟩ | ⟨rfl, hJx⟩)
    · have hF3 := hK3 _ _ hF
      have f0 : W3.cell? ⟨bf, 0, none⟩ = some (.string (nxF ri).1) := hF3.cell 0
      have f1 : W3.cell? ⟨bf, 1, none⟩ = some (.string (nxF ri).2.1) := hF3.cell 1
      have HE0 := Lib.hid he0
      have HLE := Lib.hid hle
      have HLT := Lib.hid hlt
      have HD1 := Lib.hid d1
      clear d0 d1 hF hF3 hK3 he0 hle hlt hy
      obtain ⟨hm3, hS3⟩ := hJs _ _ hJ3
      have HR3 := Lib.hid (fun W (h : SentR am af N W) => rd_val (nxF ri).2.1 _ (nx_rd (nxF ri).2.1) hm3 W h)
      gi_wp2_with fail
      refine ⟨trivial, ?_⟩
      refine (callsIn_wide.2 (HR3.out _ (hS3.on ((Below.refl _ _).alloc (Nat.le_refl _) _)))).mono ?_
      rintro e w4 ⟨rfl, hb4⟩
      have hF4 : HasC w4 W3.heap.size 47 #[.string (nxF ri).1, .string (nxF ri).2.1] := (HasC.new W3 _ _).below hb4 (by simp)
      have hb5 : Below W3.heap.size W3 w4 := ((Below.refl _ _).alloc (Nat.le_refl _) _).trans (hb4.mono (by simp))
      have g0 : w4.cell? ⟨W3.heap.size, 0, none⟩ = some (.string (nxF ri).1) := hF4.cell 0
      have g1 : w4.cell? ⟨W3.heap.size, 1, none⟩ = some (.string (nxF ri).2.1) := hF4.cell 1
      have z0 := hF4.frozen 0
      have z1 := hF4.frozen 1
      clear hb4 f0 f1 HR3 hS3
      gi_wp2
      have hF5 : HasC ((w4.setCell ⟨W3.heap.size, 0, none⟩ (.string (nxF (nxF ri).2.1).1)).setCell ⟨W3.heap.size, 1, none⟩ (.string (nxF (nxF ri).2.1).2.1)) W3.heap.size 47 #[.string (nxF (nxF ri).2.1).1, .string (nxF (nxF ri).2.1).2.1] := HasC.eq ((hF4.set 0 _).set 1 _) rfl
      have HF5 := Lib.hid hF5
      go_roundw
      case rel => exact ⟨(nxF ri).2.1, W3.heap.size, rfl, rfl, hF5, hJb _ _ _ hJ3 ((hb5.setCell (p := ⟨W3.heap.size, 0, none⟩) (Nat.le_refl _) _).setCell (p := ⟨W3.heap.size, 1, none⟩) (Nat.le_refl _) _)⟩
      case measure =>
        have m1 : meaF (.pointer (some ⟨bf, 0, none⟩)) (errV (nxF ri).2.2) wr = 2 * (nxF ri).2.1.size + 1 := by
          unfold meaF
          rw [HE0.out]
          show 2 * sizeAt (wr.cell? ⟨bf, 1, none⟩) + 1 = _
          rw [HD1.out]
          rfl
        have m2 : meaF (.pointer (some ⟨W3.heap.size, 0, none⟩)) (errV (nxF (nxF ri).2.1).2.2) ((w4.setCell ⟨W3.heap.size, 0, none⟩ (.string (nxF (nxF ri).2.1).1)).setCell ⟨W3.heap.size, 1, none⟩ (.string (nxF (nxF ri).2.1).2.1)) < 2 * (nxF ri).2.1.size + 1 := by
          have hc : (((w4.setCell ⟨W3.heap.size, 0, none⟩ (.string (nxF (nxF ri).2.1).1)).setCell ⟨W3.heap.size, 1, none⟩ (.string (nxF (nxF ri).2.1).2.1)) : World).cell? ⟨W3.heap.size, 1, none⟩ = some (.string (nxF (nxF ri).2.1).2.1) := hF5.cell 1
          unfold meaF
          dsimp only
          rw [hc]
          by_cases h0 : (nxF (nxF ri).2.1).2.2 = 0
          · rw [h0]
            have := HLT.out h0
            show 2 * (nxF (nxF ri).2.1).2.1.size + 1 < _
            omega
          · have e1 : errV (nxF (nxF ri).2.1).2.2 = faultV (nxF (nxF ri).2.1).2.2 := by unfold errV; rw [if_neg h0]
            rw [e1]
            have := HLE.out
            show 2 * (nxF (nxF ri).2.1).2.1.size + 0 < _
            omega
        rw [← m1] at m2
        exact m2
    · gi_wp2
      go_end0
      exact ⟨⟨_, rfl⟩, hJx⟩

theorem HasC.put {W : World} {b L : Nat} {T : TypeId} {cs : Array Value} (h : HasC W b T cs) (hne : b ≠ L) (o : Obj) : HasC (W.putObj L o) b T cs := (World.putObj_heap_other hne).trans h
theorem HasC.notLoop {W : World} {b L : Nat} {T : TypeId} {cs : Array Value} {o : Loop} (h : HasC W b T cs) (hl : W.heap[L]? = some (.loop o)) : b ≠ L := fun e => by
  subst e
  have := (show W.heap[b]? = some (.cells cs T (0, 0)) from h).symm.trans hl
  cases this
theorem owns_far {W W' : World} {base n size k : Nat} {e : TypeId} {v : Value} {xs : List Value} (h : W.ownsRow base e size v n xs) (hg : W.grownBy W' (some k)) (hk : k < base ∨ ∃ o : Loop, W.heap[k]? = some (.loop o)) : W'.ownsRow base e size v n xs := by
  refine h.kept hg (.inr fun e' => ?_)
  rcases hk with hk | ⟨o, ho⟩
  · have := (h.lt k e').1
    omega
  · rcases h.2 with ⟨rfl, _⟩ | ⟨g, cap, cur, rfl, _, hb, _⟩
    · cases e'
    · obtain rfl : g = k := by simpa [Value.ownBlock] using e'
      have := hb.symm.trans ho
      cases this
/-- The three variables' blocks, the list's row, the loop's two blocks. -/
structure AllW (w : World) (o : Loop) (v : Value) (pre : List ByteArray) (rr : ByteArray) (eC : Int) (W : World) : Prop where
  list : HasC W w.heap.size 32 #[v]
  rest : HasC W (w.heap.size + 1) 9 #[.string rr]
  err : HasC W (w.heap.size + 1 + 1) 23 #[.int .i64 eC]
  own : W.ownsRow (w.heap.size + 6) 9 1 v pre.length (pre.map .string)
  late : W.heap[w.heap.size + 1 + 1 + 1 + 1]? = some (.deferred (some []))
  loop : W.heap[w.heap.size + 1 + 1 + 1 + 1 + 1]? = some (.loop o)
  below : Below w.heap.size w W
theorem AllW.on {w W W' : World} {o : Loop} {v : Value} {pre : List ByteArray} {rr : ByteArray} {eC : Int} (h : AllW w o v pre rr eC W) (hb : Below W.heap.size W W') : AllW w o v pre rr eC W' :=
  ⟨h.list.below hb h.list.lt, h.rest.below hb h.rest.lt, h.err.below hb h.err.lt, h.own.kept (row := none) ⟨hb.os, hb.tape, hb.output, hb.size, fun i hi _ => hb.block i hi⟩ (Classical.em _),
    (hb.block _ (Array.getElem?_eq_some_iff.1 h.late).1).trans h.late, (hb.block _ (Array.getElem?_eq_some_iff.1 h.loop).1).trans h.loop, h.below.trans (hb.mono h.below.size)⟩
theorem AllW.turn {w W : World} {o : Loop} {v : Value} {pre : List ByteArray} {rr : ByteArray} {eC : Int} (h : AllW w o v pre rr eC W) (o' : Loop) : AllW w o' v pre rr eC (W.putObj (w.heap.size + 1 + 1 + 1 + 1 + 1) (.loop o')) :=
  ⟨h.list.put (by omega) _, h.rest.put (by omega) _, h.err.put (by omega) _, owns_far h.own (grownBy_putObj' _ _ _) (.inr ⟨_, h.loop⟩),
    (World.putObj_heap_other (by omega)).trans h.late, World.putObj_heap_same (Array.getElem?_eq_some_iff.1 h.loop).1,
    h.below.grown (grownBy_putObj' _ _ _) h.below.size (fun k e => by cases e; omega)⟩
theorem AllW.setErr {w W : World} {o : Loop} {v : Value} {pre : List ByteArray} {rr : ByteArray} {eC : Int} (h : AllW w o v pre rr eC W) (e : Int) : AllW w o v pre rr e (W.setCell ⟨w.heap.size + 1 + 1, 0, none⟩ (.int .i64 e)) :=
  ⟨h.list.far _ _ (by simp; omega), h.rest.far _ _ (by simp), HasC.eq (h.err.set 0 _) rfl, owns_far h.own (grownBy_setCell' _ _ _) (.inl (by omega)),
    (Below.heap_setCell _ _ _ _ (by simp; omega)).trans h.late, (Below.heap_setCell _ _ _ _ (by simp; omega)).trans h.loop, h.below.setCell (p := ⟨w.heap.size + 1 + 1, 0, none⟩) (by simp; omega) _⟩
theorem AllW.setRest {w W : World} {o : Loop} {v : Value} {pre : List ByteArray} {rr : ByteArray} {eC : Int} (h : AllW w o v pre rr eC W) (r : ByteArray) : AllW w o v pre r eC (W.setCell ⟨w.heap.size + 1, 0, none⟩ (.string r)) :=
  ⟨h.list.far _ _ (by simp), HasC.eq (h.rest.set 0 _) rfl, h.err.far _ _ (by simp), owns_far h.own (grownBy_setCell' _ _ _) (.inl (by omega)),
    (Below.heap_setCell _ _ _ _ (by simp; omega)).trans h.late, (Below.heap_setCell _ _ _ _ (by simp; omega)).trans h.loop, h.below.setCell (p := ⟨w.heap.size + 1, 0, none⟩) (by simp) _⟩
theorem AllW.grown {w W W' : World} {o : Loop} {v v' : Value} {pre pre' : List ByteArray} {rr : ByteArray} {eC : Int} (h : AllW w o v pre rr eC W) (hg : W.grownBy W' v.ownBlock) (ho : W'.ownsRow (w.heap.size + 6) 9 1 v' pre'.length (pre'.map .string)) :
    AllW w o v' pre' rr eC (W'.setCell ⟨w.heap.size, 0, none⟩ v') := by
  have hlt := fun k e => (h.own.lt k e).1
  have hl : HasC W' w.heap.size 32 #[v] := (hg.block _ h.list.lt (fun e => by have := hlt _ e.symm; omega)).trans h.list
  exact ⟨HasC.eq (hl.set 0 _) rfl,
    HasC.far ((hg.block _ h.rest.lt (fun e => by have := hlt _ e.symm; omega)).trans h.rest) _ _ (by simp),
    HasC.far ((hg.block _ h.err.lt (fun e => by have := hlt _ e.symm; omega)).trans h.err) _ _ (by simp; omega),
    owns_far ho (grownBy_setCell' _ _ _) (.inl (by omega)),
    (Below.heap_setCell _ _ _ _ (by simp; omega)).trans ((hg.block _ (Array.getElem?_eq_some_iff.1 h.late).1 (fun e => by have := hlt _ e.symm; omega)).trans h.late),
    (Below.heap_setCell _ _ _ _ (by simp; omega)).trans ((hg.block _ (Array.getElem?_eq_some_iff.1 h.loop).1 (fun e => by have := hlt _ e.symm; omega)).trans h.loop),
    (h.below.grown hg h.below.size (fun k e => by have := hlt k e; omega)).setCell (p := ⟨w.heap.size, 0, none⟩) (by simp) _⟩

theorem KpF.trans {A B C : World} (h : KpF A B) (k : KpF B C) : KpF A C := fun b cs hb => k b cs (h b cs hb)
theorem kp_below {W W' : World} (hb : Below W.heap.size W W') : KpF W W' := fun _ _ h => h.below hb h.lt
theorem kp_grown {W W' : World} {row : Option Nat} (hg : W.grownBy W' row) (hn : ∀ k, row = some k → ∀ cs, ¬ HasC W k 47 cs) : KpF W W' := fun b cs h =>
  (hg.block b h.lt (fun e => hn b e.symm cs h)).trans h
theorem HasC.other {W : World} {b : Nat} {T T' : TypeId} {cs cs' : Array Value} (h : HasC W b T cs) (hT : T ≠ T') : ¬ HasC W b T' cs' := fun h' => by
  have := (show W.heap[b]? = some (.cells cs T (0, 0)) from h).symm.trans h'
  cases this
  exact hT rfl
theorem owns_other {W : World} {base n size : Nat} {e T : TypeId} {v : Value} {xs : List Value} (h : W.ownsRow base e size v n xs) (hT : e ≠ T) : ∀ k, v.ownBlock = some k → ∀ cs, ¬ HasC W k T cs := fun k e' cs h' => by
  rcases h.2 with ⟨rfl, _⟩ | ⟨g, cap, cur, rfl, _, hb, _⟩
  · cases e'
  · obtain rfl : g = k := by simpa [Value.ownBlock] using e'
    have := hb.symm.trans h'
    cases this
    exact hT rfl
theorem kp_turn {W : World} {L : Nat} {o o' : Loop} (h : W.heap[L]? = some (.loop o)) : KpF W (W.putObj L (.loop o')) :=
  kp_grown (grownBy_putObj' _ _ _) (fun k e cs h' => by
    cases e
    exact h'.notLoop h rfl)
theorem kp_set {W : World} {b : Nat} {T : TypeId} {cs : Array Value} (h : HasC W b T cs) (hT : T ≠ 47) (u : Value) : KpF W (W.setCell ⟨b, 0, none⟩ u) :=
  kp_grown (grownBy_setCell' _ _ _) (fun k e cs h' => by
    cases e
    exact h.other hT h')
/-- What holds ahead of a round: frames' bytes are laid down, the rest is to be read. -/
def AllJ (w : World) (o : Loop) (r : ByteArray) (E : Int) (ts : List ByteArray) (ri : ByteArray) (W : World) : Prop :=
  ∃ (v : Value) (pre rest : List ByteArray) (eC : Int), AllW w o v pre { data := #[] } eC W ∧ AllR ri rest r E ∧ pre ++ rest = ts ∧ ri.size ≤ 1000000

end Go.Proofs.YthbfibnpfdegaaaDoor
