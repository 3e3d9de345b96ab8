/- A range over a function, whatever its iterator: one law of it, over a contract of the iterator. -/
import Derived.RangeFuncNested
import Derived.RangeFuncBound
import Derived.RangeFuncCalls
import Derived.RangeFuncLeaves
import Derived.Shelf.Abstract
import Derived.Shelf.RegionOpen
import Derived.WalkKit
import Derived.OwnWalkIn
import Derived.TacticsInMore
import Derived.LoopNIn
import Derived.LoopIn
import Derived.Lib.Hide
import Derived.Test.YtpdedogdffolnaaRows
import Derived.Test.YtpdedogdffolnaaLaws
namespace Go.Proofs.Ytpdedogdffolnaa
open Go.RowKit Go.Shelf
attribute [local go_sem] Oper.semAt_some

/-- An iterator's contract: it hands on L, one by one, till a body says no; what holds (J) is of the blocks that are there, and tells what the iterator reads (G). -/
def IterOk (f : Nat) (caps : Array Value) {α : Type} (enc : α → Array Value) (L : List α) (G : World → Prop) : Prop :=
  ∀ (n : Nat), 1 ≤ n → ∀ (l : Nat) (J : Nat → World → Prop) (Jx : World → Prop), (∀ k W W', J k W → Below W.heap.size W W' → J k W') → (∀ k W, J k W → G W) →
    (∀ k (hk : k < L.length) W, J k W → YieldAt Fence.wide (n - 1) Try.prog l (enc L[k]) W fun e W' => (e = .returned (.bool true) ∧ J (k + 1) W') ∨ (e = .returned (.bool false) ∧ Jx W')) →
    ∀ W, J 0 W → CallsIn Fence.wide n Try.prog f (#[.func (.yield l) #[] #[]] ++ caps) W fun e W' => (∃ v, e = .returned v) ∧ (J L.length W' ∨ Jx W')

/-- The two blocks of a loop over a function: the deferred calls', the loop's own. -/
def Lp (D : Nat) (o : Obj) (W : World) : Prop := W.heap[D]? = some (.deferred (some [])) ∧ W.heap[D + 1]? = some o
theorem Lp.lt {D : Nat} {o : Obj} {W : World} (h : Lp D o W) : D + 1 < W.heap.size := (Array.getElem?_eq_some_iff.1 h.2).1
theorem Lp.below {D B : Nat} {o : Obj} {W W' : World} (h : Lp D o W) (hb : Below B W W') (hB : D + 1 < B) : Lp D o W' := ⟨(hb.block D (by omega)).trans h.1, (hb.block (D + 1) hB).trans h.2⟩
theorem Lp.alloc {D : Nat} {o : Obj} {W : World} (h : Lp D o W) (x : Obj) : Lp D o (W.alloc x) := h.below (((Below.refl W.heap.size W).alloc (Nat.le_refl _) x)) h.lt
theorem Lp.set {D : Nat} {o : Obj} {W : World} (h : Lp D o W) (p : Addr) (u : Value) (h1 : D ≠ p.block) (h2 : D + 1 ≠ p.block) : Lp D o (W.setCell p u) := ⟨(Below.heap_setCell W p u D h1).trans h.1, (Below.heap_setCell W p u (D + 1) h2).trans h.2⟩
theorem Lp.put {D : Nat} {o : Obj} {W : World} (h : Lp D o W) (x : Obj) : Lp D x (W.putObj (D + 1) x) := ⟨(World.putObj_heap_other (by omega)).trans h.1, World.putObj_heap_same h.lt⟩
theorem HasC.put {W : World} {b L : Nat} {T : TypeId} {cs : Array Value} (h : HasC W b T cs) (hne : b ≠ L) (o : Obj) : HasC (W.putObj L o) b T cs := (World.putObj_heap_other hne).trans h
theorem below_put {B : Nat} {w W : World} (h : Below B w W) (l : Nat) (o : Obj) (hl : B ≤ l) : Below B w (W.putObj l o) := by
  refine h.trans ⟨rfl, rfl, rfl, by simp, fun b hb => World.putObj_heap_other (by omega)⟩

/-- How a round may be left. -/
def eachPost (D : Nat) (bz : Obj) (I : World → Prop) (Ix : Code → World → Prop) : Exit → Act → World → Prop
  | .normal, _, W => Lp D bz W ∧ I W
  | .ret, _, W => Lp D bz W ∧ Ix .ret W
  | .exit id, _, W => Lp D bz W ∧ Ix (.exit id) W
  | .goto t, _, W => Lp D bz W ∧ Ix (.goto t) W
  | .panic _, _, _ => False
  | .outgrown, _, _ => False

set_option maxHeartbeats 1000000 in
/-- A range over a function: what holds when so many have come (I), where a round has left by a jump (Ix). -/
theorem range_fn {α : Type} {n : Nat} (h1 : 2 ≤ n) {f : Nat} {caps : Array Value} {enc : α → Array Value} {L : List α} {G : World → Prop} (hit : IterOk f caps enc L G)
    (heg : ∀ args w, (callFunc f args).run Try.prog w = .ok (.enter f args) w)
    {g : Operand} {ps : Array Tmp} {assign body : Code} {Q : Exit → Act → World → Prop} {a : Act} {w : World}
    (hg : a.eval g = .func (.func f) #[] caps) (hps : ∀ x, ps.size = (enc x).size)
    (I : Nat → World → Prop) (Ix : Code → World → Prop) (hIb : ∀ k W W', I k W → Below W.heap.size W W' → I k W') (hIG : ∀ k W, I k W → G W)
    (hIp : ∀ k W (lo o : Loop), I k W → Lp w.heap.size (.loop lo) W → I k (W.putObj (w.heap.size + 1) (.loop o))) (hXp : ∀ c W (lo o : Loop), Ix c W → Lp w.heap.size (.loop lo) W → Ix c (W.putObj (w.heap.size + 1) (.loop o)))
    (h0 : ∀ o : Loop, I 0 ((w.alloc (.deferred (some []))).alloc (.loop o)))
    (hbody : ∀ k (hk : k < L.length) W, I k W → ∀ rd bz : Loop, Lp w.heap.size (.loop rd) W →
      assign.wpIn (Fence.wide.inRound (w.heap.size + 1)) (n - 1 - 1) Try.prog (Exit.then (fun a₁ w₁ => Lp w.heap.size (.loop rd) w₁ ∧ body.wpIn (Fence.wide.inRound (w.heap.size + 1)) (n - 1 - 1) Try.prog (eachPost w.heap.size (.loop bz) (I (k + 1)) Ix) a₁ (w₁.putObj (w.heap.size + 1) (.loop bz))) (fun _ _ _ => False))
        { tmps := (ps.zip (enc L[k])).foldl (fun tmps (t, a) => tmps.setIfInBounds t a) a.tmps, defers := [] } W)
    (hdone : ∀ W, I L.length W → W.heap[w.heap.size]? = some (.deferred (some [])) → Q .normal { a with defers := { target := .collected w.heap.size, args := #[] } :: a.defers } W)
    (hstop : ∀ c W, Ix c W → W.heap[w.heap.size]? = some (.deferred (some [])) → c.wpIn Fence.wide n Try.prog Q { a with defers := { target := .collected w.heap.size, args := #[] } :: a.defers } W) :
    (Code.rangeFunc g ps assign body).wpIn Fence.wide n Try.prog Q a w := by
  refine wpIn_rangeFunc fun fn _ => ?_
  have he := run_enterLoop_outer (P := Try.prog) (w := w) fn a.tmps ps assign body
  obtain ⟨o, ho⟩ : ∃ o : Loop, o = { state := .ready, pending := none, fn, tmps := a.tmps, params := ps, assign, body, defers := w.heap.size } := ⟨_, rfl⟩
  rw [← ho] at he
  have hst : o.state = .ready := by rw [ho]
  have hpe : o.pending = none := by rw [ho]
  have hto : o.tmps = a.tmps := by rw [ho]
  have hpo : o.params = ps := by rw [ho]
  have hao : o.assign = assign := by rw [ho]
  have hbo : o.body = body := by rw [ho]
  clear ho
  have hL1 : Lp w.heap.size (.loop o) ((w.alloc (.deferred (some []))).alloc (.loop o)) := by
    refine ⟨?_, ?_⟩
    · exact (Below.heap_alloc _ _ _ (by simp)).trans (World.alloc_heap_new w _)
    · have := World.alloc_heap_new (w.alloc (.deferred (some []))) (.loop o)
      rwa [World.size_alloc] at this
  have hI1 := h0 o
  generalize (w.alloc (.deferred (some []))).alloc (.loop o) = W1 at he hL1 hI1
  refine ⟨_, _, W1, { target := .fn (.func f) caps, args := #[.func (.yield (w.heap.size + 1)) #[] #[]] }, W1, f, _, W1, he, ?_, fun _ _ => trivial, ?_, fun _ => by omega,
    (hit (n - 1) (by omega) (w.heap.size + 1) (fun k W => I k W ∧ Lp w.heap.size (.loop o) W) (fun W => ∃ (j : Code) (o' : Loop), Ix j W ∧ o'.state = .done ∧ o'.pending = some j ∧ Lp w.heap.size (.loop o') W)
      (fun k W W' h hb => ⟨hIb k W W' h.1 hb, h.2.below hb h.2.lt⟩) (fun k W h => hIG k W h.1) ?_ W1 ⟨hI1, hL1⟩).mono ?_⟩
  · simp only [resolve, hg]
    simp [go_sem]
  · simp [invoke, go_sem, heg]
  · rintro k hk W ⟨hI, hL⟩
    have hb := hbody k hk W hI o { o with state := .busy } hL
    refine ⟨_, _, _, _, run_yield hL.2 (by rw [hpo, hps]), roundIn_of_wpIn trivial ?_⟩
    rw [hpo, hto, hao, hbo]
    refine wpIn_mono hb ?_
    rintro e a' W'
    cases e with
    | normal =>
      rintro ⟨hL', hbd⟩
      refine ⟨_, run_beginRound hL'.2 hst, ?_⟩
      refine wpIn_mono hbd ?_
      rintro e2 a2 W2 hp
      have hready : ({ ({ o with state := .busy } : Loop) with state := .ready, pending := none } : Loop) = o := by
        cases o
        dsimp only at hst hpe
        subst hst
        subst hpe
        rfl
      cases e2 with
      | normal =>
        obtain ⟨hLb, hI2⟩ := hp
        refine ⟨_, _, run_endRound none hLb.2, .inl ⟨rfl, hIp _ _ _ _ hI2 hLb, ?_⟩⟩
        have := hLb.put (.loop { ({ o with state := .busy } : Loop) with state := .ready, pending := none })
        rw [hready] at this
        simpa [hready] using this
      | ret => obtain ⟨hLb, hx⟩ := hp; exact ⟨_, _, run_endRound (some .ret) hLb.2, .inr ⟨rfl, _, _, hXp _ _ _ _ hx hLb, rfl, rfl, hLb.put _⟩⟩
      | exit id => obtain ⟨hLb, hx⟩ := hp; exact ⟨_, _, run_endRound (some (.exit id)) hLb.2, .inr ⟨rfl, _, _, hXp _ _ _ _ hx hLb, rfl, rfl, hLb.put _⟩⟩
      | goto t => obtain ⟨hLb, hx⟩ := hp; exact ⟨_, _, run_endRound (some (.goto t)) hLb.2, .inr ⟨rfl, _, _, hXp _ _ _ _ hx hLb, rfl, rfl, hLb.put _⟩⟩
      | panic _ => exact hp
      | outgrown => exact hp
    | _ => exact fun h => h
  · rintro e W ⟨⟨v, rfl⟩, ⟨hI, hL⟩ | ⟨j, o', hx, hs', hp', hL⟩⟩
    · refine ⟨none, W.putObj (w.heap.size + 1) (.loop { o with state := .exhausted }), ?_, ?_⟩
      · rw [run_endLoop (P := Try.prog) hL.2 (by rw [hst]; simp), hpe]
      · exact hdone _ (hIp _ _ _ _ hI hL) (hL.put (.loop { o with state := .exhausted })).1
    · refine ⟨some j, W.putObj (w.heap.size + 1) (.loop { o' with state := .exhausted }), ?_, hstop j _ (hXp _ _ _ _ hx hL) (hL.put (.loop { o' with state := .exhausted })).1⟩
      rw [run_endLoop (P := Try.prog) hL.2 (by rw [hs']; simp), hp']
end Go.Proofs.Ytpdedogdffolnaa
