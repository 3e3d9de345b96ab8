/- Package exact: the range over numbers: one law of it. -/
import Derived.RangeFuncNested
import Derived.RangeFuncBound
import Derived.RangeFuncCalls
import Derived.RangeFuncLeaves
import Derived.Shelf.Abstract
import Derived.Shelf.RegionOpen
import Derived.WalkKit
import Derived.OwnWalkIn
import Derived.TacticsInMore
import Derived.LoopNIn
import Derived.LoopIn
import Derived.Lib.Hide
import Derived.Test.YtncjbbgenngegaaEOut
namespace Go.Proofs.Ytncjbbgenngegaa
open Go.RowKit Go.Shelf
attribute [local go_sem] Oper.semAt_some

/-- What comes: how many numbers stand ahead, the number. -/
def encE (k : Nat) (x : Nat) : Array Value := #[.int .i64 (k : Int), nV x]
/-- A list of numbers below a block. -/
def NumAt (n0 : Nat) (ao : Option Addr) (L : List Nat) (w : World) : Prop :=
  ∀ j (hj : j < L.length), ∃ g o, ao = some ⟨g, o, none⟩ ∧ g < n0 ∧ w.cell? ⟨g, o + j, none⟩ = some (nV L[j])
theorem NumAt.below {n0 : Nat} {ao : Option Addr} {L : List Nat} {w W : World} (h : NumAt n0 ao L w) (hb : Below n0 w W) : NumAt n0 ao L W := fun j hj => by
  obtain ⟨g, o, h1, h2, h3⟩ := h j hj
  exact ⟨g, o, h1, h2, (hb.cell (p := ⟨g, o + j, none⟩) h2).trans h3⟩
theorem NumAt.mono {n0 n1 : Nat} {ao : Option Addr} {L : List Nat} {w : World} (h : NumAt n0 ao L w) (hn : n0 ≤ n1) : NumAt n1 ao L w := fun j hj => by
  obtain ⟨g, o, h1, h2, h3⟩ := h j hj
  exact ⟨g, o, h1, by omega, h3⟩
theorem NumSl.at_ {w : World} {v : Value} {L : List Nat} (h : NumSl w v L) : ∃ ao c, v = .slice ao L.length c ∧ NumAt w.heap.size ao L w := by
  rcases h with ⟨a, c, rfl, _, rfl⟩ | ⟨g, o, c, rfl, _, hg, hc⟩
  · exact ⟨a, c, rfl, fun j hj => absurd hj (by simp)⟩
  · exact ⟨_, _, rfl, fun j hj => ⟨g, o, rfl, hg, hc j hj⟩⟩

theorem each1 (n : Nat) (hn : 1 ≤ n) (l Bn n0 : Nat) (ao : Option Addr) (c : Nat) (L : List Nat) (J : Nat → World → Prop) (Jx : World → Prop) (hJb : ∀ k W, J k W → W.cell? ⟨Bn, 0, none⟩ = some (.slice ao L.length c) ∧ NumAt n0 ao L W)
    (hY : ∀ k (hk : k < L.length) W, J k W → YieldAt Fence.wide (n - 1) Try.prog l (encE k L[k]) W fun e W' => (e = .returned (.bool true) ∧ J (k + 1) W') ∨ (e = .returned (.bool false) ∧ Jx W'))
    (hn1 : L.length ≤ 1000) (W : World) (h0 : J 0 W) :
    CallsIn Fence.wide n Try.prog 39 #[.func (.yield l) #[] #[], .pointer (some ⟨Bn, 0, none⟩)] W fun e W' => (∃ v, e = .returned v) ∧ (J L.length W' ∨ Jx W') := by
  obtain ⟨m, hm⟩ : ∃ m, m = L.length := ⟨_, rfl⟩
  have HM := Lib.hid hm
  have hb00 := (hJb 0 W h0).1
  rw [← hm] at hb00
  have HJ := Lib.hid hJb
  have HY := Lib.hid hY
  rw [← hm]
  rw [← hm] at hn1
  clear hm hJb hY
  refine callsIn_of_wp Try.func39 rfl trivial ?_ rfl
  simp only [Try.ntmps39, List.size_toArray, List.length_cons, List.length_nil, Nat.reduceAdd, Nat.reduceSub, Array.replicate_succ, Array.replicate_zero, List.push_toArray, List.append_toArray, List.nil_append, List.cons_append]
  gi_wp2
  gi_loopw [7] (fun i wr => ∃ k : Nat, k ≤ m ∧ i = .int .i64 k ∧ J k wr) (fun i wr => m - (intOf i).toNat)
  case atStart => exact ⟨0, Nat.zero_le _, rfl, h0⟩
  case round =>
    obtain ⟨k, hk, rfl, hJ⟩ := hrel
    obtain ⟨hBn, hC⟩ := HJ.out k wr hJ
    by_cases hlt : k < m
    · have hkl : k < L.length := by have := HM.out; omega
      obtain ⟨g, o, rfl, hg, hc1⟩ := hC k hkl
      obtain ⟨fn, tmps, assign, body, hy, hR⟩ := HY.out k hkl wr hJ
      obtain ⟨x, hx⟩ : ∃ x : Nat, x = L[k] := ⟨_, rfl⟩
      rw [← hx] at hc1 hy
      have hBn' : wr.cell? ⟨Bn, 0, none⟩ = some (.slice (some ⟨g, o, none⟩) m c) := by
        rw [HM.out]
        exact hBn
      clear hx hb00 hBn hC
      dsimp only [encE] at hy
      gi_wp2
      refine hR.mono ?_
      rintro e W3 (⟨rfl, hJ3⟩ | ⟨rfl, hJx3⟩)
      · gi_wp2
        go_roundw
        case rel => exact ⟨k + 1, by omega, by go_num, hJ3⟩
        case measure => simp [intOf]; omega
      · gi_wp2
        refine bodyPost_ret (results_none rfl _ _ _) rfl ?_
        exact ⟨⟨_, rfl⟩, .inr hJx3⟩
    · obtain rfl : k = m := by omega
      gi_wp2
      go_end0
      exact ⟨⟨_, rfl⟩, .inl hJ⟩
theorem each_any (ao : Option Addr) (n c : Nat) (w : World) :
    Calls Try.prog 35 #[.slice ao n c] w fun e w' => e = .returned (.func (.func 39) #[] #[.pointer (some ⟨w.heap.size, 0, none⟩)]) ∧ w' = w.alloc (.cells #[.slice ao n c] 22) := by
  go_enter Try.func35, Try.ntmps35
  go_wp2
  go_ret
  exact ⟨rfl, rfl⟩

/-- The two blocks of a loop over a function: the deferred calls', the loop's own. -/
def Lp (D : Nat) (o : Obj) (W : World) : Prop := W.heap[D]? = some (.deferred (some [])) ∧ W.heap[D + 1]? = some o
theorem Lp.lt {D : Nat} {o : Obj} {W : World} (h : Lp D o W) : D + 1 < W.heap.size := (Array.getElem?_eq_some_iff.1 h.2).1
theorem Lp.below {D B : Nat} {o : Obj} {W W' : World} (h : Lp D o W) (hb : Below B W W') (hB : D + 1 < B) : Lp D o W' := ⟨(hb.block D (by omega)).trans h.1, (hb.block (D + 1) hB).trans h.2⟩
theorem Lp.alloc {D : Nat} {o : Obj} {W : World} (h : Lp D o W) (x : Obj) : Lp D o (W.alloc x) := h.below (((Below.refl W.heap.size W).alloc (Nat.le_refl _) x)) h.lt
theorem Lp.set {D : Nat} {o : Obj} {W : World} (h : Lp D o W) (p : Addr) (u : Value) (h1 : D ≠ p.block) (h2 : D + 1 ≠ p.block) : Lp D o (W.setCell p u) := ⟨(Below.heap_setCell W p u D h1).trans h.1, (Below.heap_setCell W p u (D + 1) h2).trans h.2⟩
theorem Lp.put {D : Nat} {o : Obj} {W : World} (h : Lp D o W) (x : Obj) : Lp D x (W.putObj (D + 1) x) := ⟨(World.putObj_heap_other (by omega)).trans h.1, World.putObj_heap_same h.lt⟩
theorem HasC.put {W : World} {b L : Nat} {T : TypeId} {cs : Array Value} (h : HasC W b T cs) (hne : b ≠ L) (o : Obj) : HasC (W.putObj L o) b T cs := (World.putObj_heap_other hne).trans h
theorem below_put {B : Nat} {w W : World} (h : Below B w W) (l : Nat) (o : Obj) (hl : B ≤ l) : Below B w (W.putObj l o) := by
  refine h.trans ⟨rfl, rfl, rfl, by simp, fun b hb => World.putObj_heap_other (by omega)⟩

/-- How a round may be left. -/
def eachPost (D : Nat) (bz : Obj) (I : World → Prop) (Ix : Code → World → Prop) : Exit → Act → World → Prop
  | .normal, _, W => Lp D bz W ∧ I W
  | .ret, _, W => Lp D bz W ∧ Ix .ret W
  | .exit id, _, W => Lp D bz W ∧ Ix (.exit id) W
  | .goto t, _, W => Lp D bz W ∧ Ix (.goto t) W
  | .panic _, _, _ => False
  | .outgrown, _, _ => False

set_option maxHeartbeats 1000000 in
/-- A range over numbers: what holds when so many have come (I), where a round has left by a jump (Ix). -/
theorem range_eachL {n : Nat} (h1 : 2 ≤ n) {g : Operand} {ps : Array Tmp} {assign body : Code} {Q : Exit → Act → World → Prop} {a : Act} {w : World} {Bn c : Nat} {ao : Option Addr} {L : List Nat}
    (hg : a.eval g = .func (.func 39) #[] #[.pointer (some ⟨Bn, 0, none⟩)]) (hps : ps.size = 2)
    (hn1 : L.length ≤ 1000) (n0 : Nat)
    (I : Nat → World → Prop) (Ix : Code → World → Prop) (hbel : ∀ k W, I k W → W.cell? ⟨Bn, 0, none⟩ = some (.slice ao L.length c) ∧ NumAt n0 ao L W)
    (hIp : ∀ k W (lo o : Loop), I k W → Lp w.heap.size (.loop lo) W → I k (W.putObj (w.heap.size + 1) (.loop o))) (hXp : ∀ c W (lo o : Loop), Ix c W → Lp w.heap.size (.loop lo) W → Ix c (W.putObj (w.heap.size + 1) (.loop o)))
    (h0 : ∀ o : Loop, I 0 ((w.alloc (.deferred (some []))).alloc (.loop o)))
    (hbody : ∀ k (hk : k < L.length) W, I k W → ∀ rd bz : Loop, Lp w.heap.size (.loop rd) W →
      assign.wpIn (Fence.wide.inRound (w.heap.size + 1)) (n - 1 - 1) Try.prog (Exit.then (fun a₁ w₁ => Lp w.heap.size (.loop rd) w₁ ∧ body.wpIn (Fence.wide.inRound (w.heap.size + 1)) (n - 1 - 1) Try.prog (eachPost w.heap.size (.loop bz) (I (k + 1)) Ix) a₁ (w₁.putObj (w.heap.size + 1) (.loop bz))) (fun _ _ _ => False))
        { tmps := (ps.zip (encE k L[k])).foldl (fun tmps (t, a) => tmps.setIfInBounds t a) a.tmps, defers := [] } W)
    (hdone : ∀ W, I L.length W → W.heap[w.heap.size]? = some (.deferred (some [])) → Q .normal { a with defers := { target := .collected w.heap.size, args := #[] } :: a.defers } W)
    (hstop : ∀ c W, Ix c W → W.heap[w.heap.size]? = some (.deferred (some [])) → c.wpIn Fence.wide n Try.prog Q { a with defers := { target := .collected w.heap.size, args := #[] } :: a.defers } W) :
    (Code.rangeFunc g ps assign body).wpIn Fence.wide n Try.prog Q a w := by
  refine wpIn_rangeFunc fun fn _ => ?_
  have he := run_enterLoop_outer (P := Try.prog) (w := w) fn a.tmps ps assign body
  obtain ⟨o, ho⟩ : ∃ o : Loop, o = { state := .ready, pending := none, fn, tmps := a.tmps, params := ps, assign, body, defers := w.heap.size } := ⟨_, rfl⟩
  rw [← ho] at he
  have hst : o.state = .ready := by rw [ho]
  have hpe : o.pending = none := by rw [ho]
  have hto : o.tmps = a.tmps := by rw [ho]
  have hpo : o.params = ps := by rw [ho]
  have hao : o.assign = assign := by rw [ho]
  have hbo : o.body = body := by rw [ho]
  clear ho
  have hL1 : Lp w.heap.size (.loop o) ((w.alloc (.deferred (some []))).alloc (.loop o)) := by
    refine ⟨?_, ?_⟩
    · exact (Below.heap_alloc _ _ _ (by simp)).trans (World.alloc_heap_new w _)
    · have := World.alloc_heap_new (w.alloc (.deferred (some []))) (.loop o)
      rwa [World.size_alloc] at this
  have hI1 := h0 o
  generalize (w.alloc (.deferred (some []))).alloc (.loop o) = W1 at he hL1 hI1
  refine ⟨_, _, W1, { target := .fn (.func 39) #[.pointer (some ⟨Bn, 0, none⟩)], args := #[.func (.yield (w.heap.size + 1)) #[] #[]] }, W1, 39, _, W1, he, ?_, fun _ _ => trivial, ?_, fun _ => by omega,
    (each1 (n - 1) (by omega) (w.heap.size + 1) Bn n0 ao c L (fun k W => I k W ∧ Lp w.heap.size (.loop o) W) (fun W => ∃ (j : Code) (o' : Loop), Ix j W ∧ o'.state = .done ∧ o'.pending = some j ∧ Lp w.heap.size (.loop o') W)
      (fun k W h => hbel k W h.1) ?_ hn1 W1 ⟨hI1, hL1⟩).mono ?_⟩
  · simp only [resolve, hg]
    simp [go_sem]
  · have eg : ∀ args w, (callFunc 39 args).run Try.prog w = .ok (.enter 39 args) w := enters_of Try.func39 (by kernel_rfl) rfl
    simp [invoke, go_sem, eg]
  · rintro k hk W ⟨hI, hL⟩
    have hb := hbody k hk W hI o { o with state := .busy } hL
    refine ⟨_, _, _, _, run_yield hL.2 (by rw [hpo, hps]; rfl), roundIn_of_wpIn trivial ?_⟩
    rw [hpo, hto, hao, hbo]
    refine wpIn_mono hb ?_
    rintro e a' W'
    cases e with
    | normal =>
      rintro ⟨hL', hbd⟩
      refine ⟨_, run_beginRound hL'.2 hst, ?_⟩
      refine wpIn_mono hbd ?_
      rintro e2 a2 W2 hp
      have hready : ({ ({ o with state := .busy } : Loop) with state := .ready, pending := none } : Loop) = o := by
        cases o
        dsimp only at hst hpe
        subst hst
        subst hpe
        rfl
      cases e2 with
      | normal =>
        obtain ⟨hLb, hI2⟩ := hp
        refine ⟨_, _, run_endRound none hLb.2, .inl ⟨rfl, hIp _ _ _ _ hI2 hLb, ?_⟩⟩
        have := hLb.put (.loop { ({ o with state := .busy } : Loop) with state := .ready, pending := none })
        rw [hready] at this
        simpa [hready] using this
      | ret => obtain ⟨hLb, hx⟩ := hp; exact ⟨_, _, run_endRound (some .ret) hLb.2, .inr ⟨rfl, _, _, hXp _ _ _ _ hx hLb, rfl, rfl, hLb.put _⟩⟩
      | exit id => obtain ⟨hLb, hx⟩ := hp; exact ⟨_, _, run_endRound (some (.exit id)) hLb.2, .inr ⟨rfl, _, _, hXp _ _ _ _ hx hLb, rfl, rfl, hLb.put _⟩⟩
      | goto t => obtain ⟨hLb, hx⟩ := hp; exact ⟨_, _, run_endRound (some (.goto t)) hLb.2, .inr ⟨rfl, _, _, hXp _ _ _ _ hx hLb, rfl, rfl, hLb.put _⟩⟩
      | panic _ => exact hp
      | outgrown => exact hp
    | _ => exact fun h => h
  · rintro e W ⟨⟨v, rfl⟩, ⟨hI, hL⟩ | ⟨j, o', hx, hs', hp', hL⟩⟩
    · refine ⟨none, W.putObj (w.heap.size + 1) (.loop { o with state := .exhausted }), ?_, ?_⟩
      · rw [run_endLoop (P := Try.prog) hL.2 (by rw [hst]; simp), hpe]
      · exact hdone _ (hIp _ _ _ _ hI hL) (hL.put (.loop { o with state := .exhausted })).1
    · refine ⟨some j, W.putObj (w.heap.size + 1) (.loop { o' with state := .exhausted }), ?_, hstop j _ (hXp _ _ _ _ hx hL) (hL.put (.loop { o' with state := .exhausted })).1⟩
      rw [run_endLoop (P := Try.prog) hL.2 (by rw [hs']; simp), hp']
/-- A range over numbers: what holds when so many have come (I), where a round has left by a jump (Ix). -/
theorem range_each {n : Nat} (h1 : 2 ≤ n) {g : Operand} {ps : Array Tmp} {assign body : Code} {Q : Exit → Act → World → Prop} {a : Act} {w : World} {Bn c : Nat} {ao : Option Addr} {L : List Nat}
    (hg : a.eval g = .func (.func 39) #[] #[.pointer (some ⟨Bn, 0, none⟩)]) (hps : ps.size = 2)
    (hn1 : L.length ≤ 1000) (n0 : Nat)
    (I : Nat → World → Prop) (Ix : Code → World → Prop) (hbel : ∀ k W, I k W → W.cell? ⟨Bn, 0, none⟩ = some (.slice ao L.length c) ∧ NumAt n0 ao L W)
    (hIp : ∀ k W o, I k W → I k (W.putObj (w.heap.size + 1) o)) (hXp : ∀ c W o, Ix c W → Ix c (W.putObj (w.heap.size + 1) o))
    (h0 : ∀ o, I 0 ((w.alloc (.deferred (some []))).alloc o))
    (hbody : ∀ k (hk : k < L.length) W, I k W → ∀ rd bz : Obj, Lp w.heap.size rd W →
      assign.wpIn (Fence.wide.inRound (w.heap.size + 1)) (n - 1 - 1) Try.prog (Exit.then (fun a₁ w₁ => Lp w.heap.size rd w₁ ∧ body.wpIn (Fence.wide.inRound (w.heap.size + 1)) (n - 1 - 1) Try.prog (eachPost w.heap.size bz (I (k + 1)) Ix) a₁ (w₁.putObj (w.heap.size + 1) bz)) (fun _ _ _ => False))
        { tmps := (ps.zip (encE k L[k])).foldl (fun tmps (t, a) => tmps.setIfInBounds t a) a.tmps, defers := [] } W)
    (hdone : ∀ W, I L.length W → W.heap[w.heap.size]? = some (.deferred (some [])) → Q .normal { a with defers := { target := .collected w.heap.size, args := #[] } :: a.defers } W)
    (hstop : ∀ c W, Ix c W → W.heap[w.heap.size]? = some (.deferred (some [])) → c.wpIn Fence.wide n Try.prog Q { a with defers := { target := .collected w.heap.size, args := #[] } :: a.defers } W) :
    (Code.rangeFunc g ps assign body).wpIn Fence.wide n Try.prog Q a w :=
  range_eachL h1 hg hps hn1 n0 I Ix hbel (fun k W _ _ h _ => hIp k W _ h) (fun c W _ _ h _ => hXp c W _ h) (fun _ => h0 _) (fun k hk W hI _ _ hL => hbody k hk W hI _ _ hL) hdone hstop
end Go.Proofs.Ytncjbbgenngegaa
