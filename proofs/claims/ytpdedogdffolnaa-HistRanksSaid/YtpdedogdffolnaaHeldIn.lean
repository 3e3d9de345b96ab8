/- A region that asks the tape, inside a fence (a function's or a round's): operations that only read, in whatever world of a class, are taken first; the others of the first n, which are a chain, come in order, and each leaves a world of the class; then the last few, in order. -/
import Derived.Test.YtpdedogdffolnaaQuietIn
import Derived.OrdersHeld
import Derived.OrdersIn
import Derived.Lib.Hide
namespace Go.Proofs.Ytpdedogdffolnaa
open Go.RowKit

/-- A fence that lets every function in, and whose round changes no operation of these. -/
structure FOk (F : Fence) (ops : Array Oper) : Prop where
  fn : ∀ f, F.fn f
  sem : ∀ (i : Nat) (o : Oper), ops[i]? = some o → ∀ ρ, o.semAt F.round ρ = execOp ρ o
theorem FOk.wide (ops : Array Oper) : FOk Fence.wide ops := ⟨fun _ => trivial, fun _ _ _ _ => Oper.semAt_none _ _⟩
theorem FOk.round {ops : Array Oper} (l : Nat) (hnd : noDefer ops = true) : FOk (Fence.wide.inRound l) ops := ⟨fun _ => trivial, fun _ _ hi _ => Oper.semAt_eq _ _ _ (noDefer_spec hnd hi)⟩

section
variable {P : Program} {ops : Array Oper} {md : Region.Mode} {C : World → Prop} {F : Fence} {m : Nat} {Q : Exit → Act → World → Prop}

theorem yields_wpOpIn {i : Nat} {o : Oper} {v : Value} {a : Act} (hF : FOk F ops) (hi : ops[i]? = some o) (hy : YieldsIf P ops C o v a)
    {K : Act → World → Prop} {w : World} (hC : C w) (h : K (a.put o.dst v) w) : Go.wpOpIn F m P ops Q i K a w := by
  unfold Go.wpOpIn
  simp only [hi]
  rcases hy with ⟨hw, hv⟩ | ⟨hw, rfl⟩
  · simp only [hw, if_true]
    refine ⟨fun _ _ => hF.fn _, ?_⟩
    rw [hF.sem i o hi, hv w hC]
    simp only [Oper.uponIn]
    exact h
  · simp only [hw, Bool.false_eq_true, if_false]
    exact ⟨fun _ _ => hF.fn _, h⟩

theorem wpOpIn_putIf {j : Nat} {oi oj : Oper} {v : Value} (hF : FOk F ops) (hj : ops[j]? = some oj) (hap : oi.apart ops oj = true)
    (hsi : ∀ cs b, oi.op ≠ .select cs b) (hsj : ∀ cs b, oj.op ≠ .select cs b)
    (hQ : ∀ c a w, Q (.panic c) (a.put oi.dst v) w → Q (.panic c) a w) {K : Act → World → Prop} {a : Act} {w : World}
    (hy : YieldsIf P ops C oi v a) (h : wpOpIn F m P ops Q j K (a.put oi.dst v) w) :
    wpOpIn F m P ops Q j (fun a' w' => YieldsIf P ops C oi v a' ∧ K (a'.put oi.dst v) w') a w := by
  obtain ⟨h1, h2, h3⟩ := Oper.apart_spec hap
  have keep : ∀ (a : Act), YieldsIf P ops C oi v a → ∀ u, YieldsIf P ops C oi v (a.put oj.dst u) := fun a hy u =>
    hy.of_same (execOp_put oi hsi a oj.dst u h3) (wanted_put oi a oj.dst u h3)
  have keepD : ∀ d, YieldsIf P ops C oi v { a with defers := d :: a.defers } := fun d => hy.of_same rfl rfl
  unfold wpOpIn at h ⊢
  simp only [hj] at h ⊢
  rw [wanted_put oj a oi.dst v h1] at h
  split
  · rename_i hw
    simp only [hw, if_true] at h
    refine ⟨fun _ _ => hF.fn _, ?_⟩
    have h := h.2
    rw [hF.sem j oj hj, execOp_put oj hsj a oi.dst v h1] at h
    rw [hF.sem j oj hj]
    generalize (execOp a.eval oj).run P w = r at *
    cases r with
    | ok x w' =>
      cases x <;> simp only [Oper.uponIn] at h ⊢
      case value u => exact ⟨keep a hy u, by rw [← Act.put_comm a v u h2]; exact h⟩
      case skip => exact ⟨keep a hy _, by rw [← Act.put_comm a v undef h2]; exact h⟩
      case defer d =>
        refine ⟨keep _ (keepD d) _, ?_⟩
        rw [← Act.put_comm _ v undef h2, ← Act.put_defers]
        exact h
      case enter f args =>
        refine ⟨h.1, CallsIn.mono h.2 fun e w'' he => ?_⟩
        cases e with
        | returned u => exact ⟨keep a hy u, by rw [← Act.put_comm a v u h2]; exact he⟩
        | panicked c => exact hQ _ _ _ he
        | outgrown => exact he
      case row row args => exact ⟨h.1, RowsIn.mono h.2 fun u w'' he => ⟨keep a hy u, by rw [← Act.put_comm a v u h2]; exact he⟩⟩
      case round l f tmps assign body =>
        refine ⟨h.1, RoundIn.mono h.2 fun e w'' he => ?_⟩
        cases e with
        | returned u => exact ⟨keep a hy u, by rw [← Act.put_comm a v u h2]; exact he⟩
        | panicked c => exact hQ _ _ _ he
        | outgrown => exact he
    | halt x w' =>
      cases x <;> simp only [Oper.uponIn] at h ⊢
      case panic u => exact hQ _ _ _ h
  · rename_i hw
    simp only [hw] at h
    refine ⟨fun _ _ => hF.fn _, keep a hy _, ?_⟩
    rw [← Act.put_comm a v undef h2]
    exact h.2

/-- Whatever order is picked, the first f operations are of those ahead of number n, and the class is kept. -/
def headsH (F : Fence) (m : Nat) (P : Program) (md : Region.Mode) (ops : Array Oper) (Q : Exit → Act → World → Prop) (C : World → Prop) (n : Nat) (L : Array Bool → Act → World → Prop) : Nat → Array Bool → Act → World → Prop
  | 0, listed, a, w => L listed a w
  | f + 1, listed, a, w => Region.ready md ops listed ≠ [] ∧ ∀ i ∈ Region.ready md ops listed, i < n ∧ wpOpIn F m P ops Q i (fun a' w' => C w' ∧ headsH F m P md ops Q C n L f (listed.setIfInBounds i true) a' w') a w
theorem headsH_run {n g : Nat} {L : Array Bool → Act → World → Prop} (hL : ∀ listed a w, L listed a w → wpAnyIn F m P md ops Q g listed a w) :
    ∀ (f : Nat) (listed : Array Bool) (a : Act) (w : World), headsH F m P md ops Q C n L f listed a w → wpAnyIn F m P md ops Q (f + g) listed a w := by
  intro f
  induction f with
  | zero => intro listed a w h; rw [Nat.zero_add]; exact hL _ _ _ h
  | succ f ih =>
    intro listed a w h
    rw [show f + 1 + g = (f + g) + 1 by omega]
    exact ⟨fun h0 => absurd h0 h.1, fun i hi => wpOpIn_mono (fun a' w' h' => ih _ a' w' h'.2) (h.2 i hi).2⟩
theorem headsH_first {n i : Nat} {oi : Oper} {v : Value} {L : Array Bool → Act → World → Prop} (hF : FOk F ops) (hi : ops[i]? = some oi) (hsel : ∀ (j : Nat) (o : Oper) cs b, ops[j]? = some o → o.op ≠ .select cs b)
    (hs : Region.sinkB md ops n = true) (hc : Region.chainB md ops n = true) (hn : n < ops.size) (hin : i < n)
    (hQ : ∀ c a w, Q (.panic c) (a.put oi.dst v) w → Q (.panic c) a w) (hdone : ∀ listed a w, L listed a w → ∀ j ∈ Region.ready md ops listed, n ≤ j) :
    ∀ (f : Nat) (listed : Array Bool) (a : Act) (w : World), HeadInv md ops n listed →
      (∀ j oj, ops[j]? = some oj → j ≠ i → listed.getD j true = false → (∀ e ∈ oj.after, Region.binds md e = true → e.on ≠ i) → oi.apart ops oj = true) →
      i ∈ Region.ready md ops listed → YieldsIf P ops C oi v a → C w →
      headsH F m P md ops Q C n L f (listed.setIfInBounds i true) (a.put oi.dst v) w → headsH F m P md ops Q C n L (f + 1) listed a w := by
  intro f
  induction f with
  | zero =>
    intro listed a w inv _ hr hy hS H
    have hun := (mem_ready.1 hr).1
    refine ⟨List.ne_nil_of_mem hr, fun j hj => ?_⟩
    have hjn : j < n := Nat.lt_of_not_le fun h => tail_waits hs hc hn inv _ i rfl hin hun j h hj
    refine ⟨hjn, ?_⟩
    by_cases hji : j = i
    · subst hji; exact yields_wpOpIn hF hi hy hS ⟨hS, H⟩
    · exact absurd (hdone _ _ _ H j (ready_mono hj hji)) (by omega)
  | succ f ih =>
    intro listed a w inv hfree hr hy hS H
    have hun := (mem_ready.1 hr).1
    refine ⟨List.ne_nil_of_mem hr, fun j hj => ?_⟩
    have hjn : j < n := Nat.lt_of_not_le fun h => tail_waits hs hc hn inv _ i rfl hin hun j h hj
    refine ⟨hjn, ?_⟩
    by_cases hji : j = i
    · subst hji; exact yields_wpOpIn hF hi hy hS ⟨hS, H⟩
    · have h1 := (H.2 j (ready_mono hj hji)).2
      obtain ⟨hjun, oj, hoj, hall⟩ := mem_ready.1 hj
      have hnot : ∀ e ∈ oj.after, Region.binds md e = true → e.on ≠ i := by
        intro e he hb heq
        have h0 := hall e he hb
        rw [heq, getD_both hun] at h0
        cases h0
      have h2 := wpOpIn_putIf hF hoj (hfree j oj hoj hji hjun hnot) (fun cs b => hsel i oi cs b hi) (fun cs b => hsel j oj cs b hoj) hQ hy h1
      have hfree' : ∀ k ok, ops[k]? = some ok → k ≠ i → (listed.setIfInBounds j true).getD k true = false →
          (∀ e ∈ ok.after, Region.binds md e = true → e.on ≠ i) → oi.apart ops ok = true := fun k ok hk hki hun hno => by
        refine hfree k ok hk hki ?_ hno
        by_cases hjk : j = k
        · subst hjk; exact hjun
        · rw [getD_set_ne true hjk] at hun; exact hun
      refine wpOpIn_mono (fun a' w' h3 => ⟨h3.2.1, ih (listed.setIfInBounds j true) a' w' (inv.set hj hjn) hfree' (ready_mono hr (Ne.symm hji)) h3.1 h3.2.1 ?_⟩) h2
      rw [Array.setIfInBounds_comm _ _ hji]
      exact h3.2.2

/-- An operation that yields a value, or none at all, and calls nobody. -/
def lightB (o : Oper) : Bool := match o.op with
  | .move _ | .assign _ | .load _ _ | .nilCheck _ | .binOp .. | .unOp .. | .convert .. | .fieldAddr .. | .field .. | .indexAddr .. | .index .. | .extract .. | .slice .. => true
  | _ => false
theorem run_v (s : Sem Value) (w w' : World) (x : Next) (h : (do pure (Next.value (← s)) : Sem Next).run P w = .ok x w') : ∃ v, x = .value v := by
  simp only [Sem.run_bind] at h
  generalize s.run P w = r at h
  cases r with
  | ok v w2 => simp only [Result.andThen, Sem.run_pure] at h; injection h with h1 _; exact ⟨v, h1.symm⟩
  | halt x w2 => simp [Result.andThen] at h
theorem run_bind_ok {α β : Type} {s : Sem α} {f : α → Sem β} {w w' : World} {x : β} (h : (s >>= f).run P w = .ok x w') : ∃ y w2, (f y).run P w2 = .ok x w' := by
  simp only [Sem.run_bind] at h
  generalize s.run P w = r at h
  cases r with
  | ok v w2 => exact ⟨v, w2, h⟩
  | halt x w2 => simp [Result.andThen] at h
theorem light_value {o : Oper} (h : lightB o = true) {ρ : Operand → Value} {w w' : World} {x : Next} (hr : (execOp ρ o).run P w = .ok x w') : ∃ v, x = .value v := by
  cases hop : o.op <;> simp only [lightB, hop, Bool.false_eq_true] at h <;> simp only [execOp, hop] at hr
  all_goals first
    | exact run_v _ _ _ _ hr
    | (simp only [Sem.run_pure] at hr; injection hr with h1 _; exact ⟨_, h1.symm⟩)
    | skip
  repeat' split at hr
  all_goals first
    | (simp only [Sem.run_pure] at hr; injection hr with h1 _; exact ⟨_, h1.symm⟩)
    | (simp [runtimePanic] at hr; done)
    | skip
  obtain ⟨_, _, hr⟩ := run_bind_ok hr
  obtain ⟨_, _, hr⟩ := run_bind_ok hr
  split at hr
  · obtain ⟨_, _, hr⟩ := run_bind_ok hr
    simp only [Sem.run_pure] at hr; injection hr with h1 _; exact ⟨_, h1.symm⟩
  · simp only [Sem.run_pure] at hr; injection hr with h1 _; exact ⟨_, h1.symm⟩
theorem yieldsIf_of_in {o : Oper} {v : Value} {a : Act} (hl : lightB o = true) (hy : YieldsIn P ops C o v a) : YieldsIf P ops C o v a := by
  rcases hy with ⟨hw, h⟩ | h
  · refine .inl ⟨hw, fun w hC => ?_⟩
    have h1 := h w hC
    unfold Oper.quietAt at h1
    cases hr : (execOp a.eval o).run P w with
    | ok x w' =>
      obtain ⟨u, rfl⟩ := light_value hl hr
      rw [hr] at h1
      obtain ⟨rfl, rfl⟩ := h1
      rfl
    | halt x w' => rw [hr] at h1; exact h1.elim
  · exact .inr h

/-- The light ones in this order, then the heavy ones, each alone ready, then those from number n on, in order. -/
def chainOf (md : Region.Mode) (ops : Array Oper) (n g : Nat) : List Nat → Array Bool → Bool
  | [], listed => Region.seqB md ops g n listed
  | h :: r, listed => (Region.ready md ops listed == [h]) && decide (h < n) && chainOf md ops n g r (listed.setIfInBounds h true)
def orderB (md : Region.Mode) (ops : Array Oper) (n g : Nat) (hs : List Nat) : List Nat → Array Bool → Bool
  | [], listed => chainOf md ops n g hs listed
  | i :: r, listed => (Region.ready md ops listed).contains i && Region.free md ops listed i && (match ops[i]? with | some o => lightB o | none => false) && decide (i < n) && orderB md ops n g hs r (listed.setIfInBounds i true)
def nthL : List Oper → Nat → Oper
  | [], _ => { dst := none, op := .move (.const undef), type := 0, pos := "", after := #[], guard := none }
  | o :: _, 0 => o
  | _ :: t, n + 1 => nthL t n
theorem nth_get : ∀ (l : List Oper) (k : Nat) (hk : k < l.length), nthL l k = l[k]
  | [], _, h => absurd h (by simp)
  | _ :: _, 0, _ => rfl
  | _ :: t, n + 1, h => nth_get t n (by simpa using h)
def pickL (l : List Oper) : List Nat → List Oper
  | [] => []
  | i :: r => nthL l i :: pickL l r
/-- The heavy ones: one by one. -/
def heavyRun (F : Fence) (m : Nat) (P : Program) (ops : Array Oper) (Q : Exit → Act → World → Prop) (C : World → Prop) (E : Act → World → Prop) : List Oper → Act → World → Prop
  | [], a, w => E a w
  | o :: r, a, w => ∀ K : Act → World → Prop, Hid (∀ a' w', C w' → heavyRun F m P ops Q C E r a' w' → K a' w') → wpListIn F m P ops (Exit.then K Q) [o] a w

theorem opIn_then {o : Oper} {a : Act} {w : World} {K : Act → World → Prop} (h : o.wpIn F m P a w K (Exit.then K Q)) : o.wpIn F m P a w K Q := by
  unfold Oper.wpIn at *
  refine ⟨h.1, ?_⟩
  have h := h.2
  generalize (o.semAt F.round a.eval).run P w = r at *
  cases r with
  | ok x w' =>
    cases x <;> simp only [Oper.uponIn] at h ⊢ <;>
      first
        | exact h
        | exact ⟨h.1, CallsIn.mono h.2 (fun e w'' he => by cases e <;> exact he)⟩
        | exact ⟨h.1, RoundIn.mono h.2 (fun e w'' he => by cases e <;> exact he)⟩
  | halt x w' => cases x <;> simp only [Oper.uponIn] at h ⊢ <;> exact h
theorem seq_runF : ∀ (r : List Oper) (k : Nat) (listed : Array Bool) (a : Act) (w : World), (∀ j, r[j]? = ops[k + j]?) →
    Region.seqB md ops r.length k listed = true → wpListIn F m P ops Q r a w → wpAnyIn F m P md ops Q r.length listed a w := by
  intro r
  induction r with
  | nil => intro _ _ _ _ _ hB h; exact ⟨by simpa [Region.seqB] using hB, h⟩
  | cons o r ih =>
    intro k listed a w hl hB h
    have h0 : ops[k]? = some o := by simpa using (hl 0).symm
    simp only [List.length_cons, Region.seqB, Bool.and_eq_true, decide_eq_true_eq] at hB
    refine ⟨fun h1 => (by rw [hB.1] at h1; cases h1), fun i hi => ?_⟩
    rw [hB.1] at hi
    obtain rfl : i = k := by simpa using hi
    have hw : wpOpIn F m P ops Q i (wpListIn F m P ops Q r) a w := by unfold wpOpIn; simp only [h0]; exact h
    exact wpOpIn_mono (fun a' w' h' => ih (i + 1) _ a' w' (fun j => by have := hl (j + 1); simpa [Nat.add_assoc, Nat.add_comm 1 j] using this) hB.2 h') hw

theorem heavy_any {l : List Oper} (hl : l.toArray = ops) {n g : Nat} {E : Act → World → Prop} : ∀ (hs : List Nat) (listed : Array Bool) (a : Act) (w : World), chainOf md ops n g hs listed = true →
    heavyRun F m P ops Q C E (pickL l hs) a w → headsH F m P md ops Q C n (fun listed' a' w' => Region.seqB md ops g n listed' = true ∧ E a' w') hs.length listed a w := by
  intro hs
  induction hs with
  | nil => intro listed a w hB h; exact ⟨by simpa [chainOf] using hB, h⟩
  | cons k r ih =>
    intro listed a w hB h
    simp only [chainOf, Bool.and_eq_true, decide_eq_true_eq] at hB
    obtain ⟨⟨hr, hk⟩, hB'⟩ := hB
    have hr : Region.ready md ops listed = [k] := by simpa using hr
    have hmem : k ∈ Region.ready md ops listed := by rw [hr]; simp
    obtain ⟨_, ok, hok, _⟩ := mem_ready.1 hmem
    subst hl
    have hk' : k < l.length := by have := (Array.getElem?_eq_some_iff.1 hok).1; simpa using this
    have hp : pickL l (k :: r) = l[k] :: pickL l r := by simp only [pickL, nth_get l k hk']
    rw [hp] at h
    refine ⟨by rw [hr]; simp, fun i hi => ?_⟩
    rw [hr] at hi
    obtain rfl : i = k := by simpa using hi
    refine ⟨hk, ?_⟩
    have h1 := h (fun a' w' => C w' ∧ headsH F m P md l.toArray Q C n (fun listed' a' w' => Region.seqB md l.toArray g n listed' = true ∧ E a' w') r.length (listed.setIfInBounds i true) a' w') (Lib.hid fun a' w' hC hh => ⟨hC, ih _ _ _ hB' hh⟩)
    have h0 : l.toArray[i]? = some l[i] := by simp [hk']
    unfold wpOpIn
    simp only [h0]
    simp only [wpListIn] at h1
    split
    · rename_i hw
      simp only [hw, if_true] at h1
      exact opIn_then h1
    · rename_i hw
      simp only [hw] at h1
      exact h1
theorem light_any {l : List Oper} (hl : l.toArray = ops) {n g : Nat} {E : Act → World → Prop} (hF : FOk F ops) (hs : List Nat) (hsel : Region.noSelect ops = true)
    (hsk : Region.sinkB md ops n = true) (hch : Region.chainB md ops n = true) (hn : n < ops.size)
    (hQ : ∀ c (a : Act) (d : Option Tmp) v w, Q (.panic c) (a.put d v) w → Q (.panic c) a w) {w : World} (hC : C w) :
    ∀ (ls : List Nat) (listed : Array Bool) (a : Act), HeadInv md ops n listed → orderB md ops n g hs ls listed = true →
    wpQuiet P ops C (fun a' => heavyRun F m P ops Q C E (pickL l hs) a' w) (pickL l ls) a → headsH F m P md ops Q C n (fun listed' a' w' => Region.seqB md ops g n listed' = true ∧ E a' w') (ls.length + hs.length) listed a w := by
  intro ls
  induction ls with
  | nil =>
    intro listed a _ hB h
    rw [List.length_nil, Nat.zero_add]
    exact heavy_any hl hs listed a w (by simpa [orderB] using hB) h
  | cons k r ih =>
    intro listed a inv hB h
    simp only [orderB, Bool.and_eq_true, decide_eq_true_eq] at hB
    obtain ⟨⟨⟨⟨hr, hf⟩, hlo⟩, hkn⟩, hB'⟩ := hB
    have hk : k < l.length := by
      subst hl
      refine Nat.lt_of_not_le fun hc => ?_
      have : l[k]? = none := List.getElem?_eq_none hc
      simp [this] at hlo
    have h0 : ops[k]? = some l[k] := by subst hl; simp [hk]
    simp only [h0] at hlo
    have hp : pickL l (k :: r) = l[k] :: pickL l r := by simp only [pickL, nth_get l k hk]
    rw [hp] at h
    have hst : qOp P ops C k (wpQuiet P ops C (fun a' => heavyRun F m P ops Q C E (pickL l hs) a' w) (pickL l r)) a := by unfold qOp; simp only [h0]; exact h
    obtain ⟨v, hy, hK⟩ := yieldsIn_of_qOp h0 hst
    have hr' : k ∈ Region.ready md ops listed := by simpa using hr
    rw [List.length_cons, show r.length + 1 + hs.length = (r.length + hs.length) + 1 by omega]
    exact headsH_first hF h0 (Region.noSelect_spec hsel) hsk hch hn hkn (fun c a w => hQ c a _ _ w) (fun listed' a' w' hL => seqB_ready hL.1) _ listed a w inv (Region.free_spec h0 hf) hr' (yieldsIf_of_in hlo hy) hC (ih _ _ (inv.set hr' hkn) hB' hK)

/-- A region in a fence: the light operations (ls) yield one value in every world of the class; the heavy ones (hs) come in order, and leave worlds of the class; then those from number n on, in order. -/
theorem region_heldIn {id : Nat} {a : Act} {w : World} {l : List Oper} (n : Nat) (ls hs : List Nat) (D : World → Prop) (hm : P.follows .mixedOrders = true) (hF : FOk F l.toArray)
    (hB : (orderB .any l.toArray n (l.length - n) hs ls (Array.replicate l.toArray.size false) && Region.noSelect l.toArray && Region.sinkB .any l.toArray n && Region.chainB .any l.toArray n && decide (ls.length + hs.length = n) && decide (n < l.length)) = true)
    (hQ : ∀ c (a : Act) (d : Option Tmp) v w, Q (.panic c) (a.put d v) w → Q (.panic c) a w) (hD : D w.drew)
    (h : Nonempty (InC D) → wpQuiet P l.toArray (fun w' => ∃ i : InC D, w' = i.w) (fun a' => heavyRun F m P l.toArray Q (fun w' => ∃ i : InC D, w' = i.w) (wpListIn F m P l.toArray Q (l.drop n)) (pickL l hs) a' w.drew) (pickL l ls) a) :
    (Code.region id l.toArray true).wpIn F m P Q a w := by
  simp only [Bool.and_eq_true, decide_eq_true_eq] at hB
  obtain ⟨⟨⟨⟨⟨hB, hsel⟩, hsk⟩, hch⟩, hlen⟩, hn⟩ := hB
  have inv0 : HeadInv .any l.toArray n (Array.replicate l.toArray.size false) :=
    ⟨by simp, fun j oj _ hl => (by rw [getD_replicate_false] at hl; cases hl), fun t _ ht => getD_in (by simpa using ht) (getD_replicate_false _ _)⟩
  refine wpIn_region_any hm ?_
  have H := light_any (md := .any) (Q := Q) rfl hF hs hsel hsk hch (by simpa using hn) hQ ⟨⟨_, hD⟩, rfl⟩ ls _ a inv0 hB (h ⟨⟨_, hD⟩⟩)
  rw [hlen] at H
  have := headsH_run (g := l.length - n) (fun listed a' w' ⟨h1, h2⟩ => by
    have h3 := seq_runF (F := F) (m := m) (md := .any) (P := P) (Q := Q) (ops := l.toArray) (l.drop n) n listed a' w' (fun j => by simp [List.getElem?_drop]) (by rw [List.length_drop]; exact h1) h2
    rwa [List.length_drop] at h3) _ _ _ _ H
  rw [show n + (l.length - n) = l.toArray.size by simp; omega] at this
  exact this
end
end Go.Proofs.Ytpdedogdffolnaa
