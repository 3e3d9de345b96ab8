/- A region that asks the tape: its first operations quiet in one class of worlds, then ONE that may write or call, that all others wait for, then the rest, quiet in another class. -/
import Derived.Test.YthbfibnpfdegaaaDoorQuiet
namespace Go.Proofs.YthbfibnpfdegaaaDoor

section
variable {P : Program} {ops : Array Oper} {md : Region.Mode}

/-- Each operation behind number n waits for n, or for one between. -/
def chainW (md : Region.Mode) (ops : Array Oper) (n : Nat) : Bool :=
  (List.range ops.size).all fun t => decide (t ≤ n) || (List.range t).any fun j => decide (n ≤ j) && Region.waitsFor md ops t j

theorem tail_waits' {n : Nat} {listed : Array Bool} (hs : Region.sinkB md ops n = true) (hc : chainW md ops n = true) (hn : n < ops.size) (inv : HeadInv md ops n listed) :
    ∀ (d i : Nat), n - i = d → i < n → listed.getD i true = false → ∀ t, n ≤ t → t ∉ Region.ready md ops listed := by
  intro d
  induction d using Nat.strongRecOn with
  | _ d ih =>
    intro i hd hi hun t ht hr
    obtain ⟨_, ot, hot, hall⟩ := mem_ready.1 hr
    have htlt : t < ops.size := (Array.getElem?_eq_some_iff.1 hot).1
    by_cases htn : t = n
    · subst htn
      have h1 := List.all_eq_true.1 hs i (List.mem_range.2 hi)
      obtain ⟨j, hj, hj2⟩ := List.any_eq_true.1 h1
      simp only [Bool.and_eq_true, decide_eq_true_eq] at hj2
      obtain ⟨oj, hoj, e, he, hb, hon⟩ := Region.waitsFor_spec hj2.2
      have hjle : j ≤ t := by have := List.mem_range.1 hj; omega
      by_cases hjt : j = t
      · subst hjt
        have : oj = ot := Option.some.inj (hoj.symm.trans hot)
        subst this
        have h2 := hall e he hb
        rw [hon, getD_both hun] at h2
        cases h2
      · cases hl : listed.getD j false with
        | true =>
          have h2 := inv.closed j oj hoj hl e he hb
          rw [hon, getD_both hun] at h2
          cases h2
        | false =>
          have hjs : j < listed.size := by rw [inv.size]; omega
          exact ih (t - j) (by omega) j rfl (by omega) (getD_in hjs hl) t (Nat.le_refl _) hr
    · have h1 := List.all_eq_true.1 hc t (List.mem_range.2 htlt)
      simp only [Bool.or_eq_true, decide_eq_true_eq] at h1
      rcases h1 with h1 | h1
      · omega
      · obtain ⟨j, hj, hj2⟩ := List.any_eq_true.1 h1
        simp only [Bool.and_eq_true, decide_eq_true_eq] at hj2
        have hjt := List.mem_range.1 hj
        obtain ⟨o', ho', e, he, hb, hon⟩ := Region.waitsFor_spec hj2.2
        have : o' = ot := Option.some.inj (ho'.symm.trans hot)
        subst this
        have h2 := hall e he hb
        rw [hon, getD_both (inv.tail j hj2.1 (by omega))] at h2
        cases h2

variable {C : World → Prop}

theorem heads_first' {n i : Nat} {oi : Oper} {v : Value} {L : Array Bool → Act → Prop} (hi : ops[i]? = some oi) (hsel : Region.noSelect ops = true)
    (hs : Region.sinkB md ops n = true) (hc : chainW md ops n = true) (hn : n < ops.size) (hin : i < n)
    (hdone : ∀ listed a, L listed a → ∀ j ∈ Region.ready md ops listed, n ≤ j) :
    ∀ (f : Nat) (listed : Array Bool) (a : Act), HeadInv md ops n listed →
      (∀ j oj, ops[j]? = some oj → j ≠ i → listed.getD j true = false → (∀ e ∈ oj.after, Region.binds md e = true → e.on ≠ i) → oi.apart ops oj = true) →
      i ∈ Region.ready md ops listed → YieldsIn P ops C oi v a →
      heads P md ops C n L f (listed.setIfInBounds i true) (a.put oi.dst v) → heads P md ops C n L (f + 1) listed a := by
  have nosel := Region.noSelect_spec hsel
  intro f
  induction f with
  | zero =>
    intro listed a inv _ hr hy H
    have hun := (mem_ready.1 hr).1
    refine ⟨List.ne_nil_of_mem hr, fun j hj => ?_⟩
    have hjn : j < n := Nat.lt_of_not_le fun h => tail_waits' hs hc hn inv _ i rfl hin hun j h hj
    refine ⟨hjn, ?_⟩
    by_cases hji : j = i
    · subst hji
      exact hy.qOp hi H
    · exact absurd (hdone _ _ H j (ready_mono hj hji)) (by omega)
  | succ f ih =>
    intro listed a inv hfree hr hy H
    have hun := (mem_ready.1 hr).1
    refine ⟨List.ne_nil_of_mem hr, fun j hj => ?_⟩
    have hjn : j < n := Nat.lt_of_not_le fun h => tail_waits' hs hc hn inv _ i rfl hin hun j h hj
    refine ⟨hjn, ?_⟩
    by_cases hji : j = i
    · subst hji
      exact hy.qOp hi H
    · obtain ⟨hjun, oj, hoj, hall⟩ := mem_ready.1 hj
      have hnot : ∀ e ∈ oj.after, Region.binds md e = true → e.on ≠ i := by
        intro e he hb heq
        have h0 := hall e he hb
        rw [heq, getD_both hun] at h0
        cases h0
      have hap := hfree j oj hoj hji hjun hnot
      have h2 := qOp_put hoj hap (fun cs b => nosel i oi cs b hi) (fun cs b => nosel j oj cs b hoj) hy (H.2 j (ready_mono hj hji)).2
      have hfree' : ∀ k ok, ops[k]? = some ok → k ≠ i → (listed.setIfInBounds j true).getD k true = false →
          (∀ e ∈ ok.after, Region.binds md e = true → e.on ≠ i) → oi.apart ops ok = true := by
        intro k ok hk hki hku hno
        refine hfree k ok hk hki ?_ hno
        by_cases hjk : j = k
        · rw [← hjk]; exact hjun
        · rw [getD_set_ne true hjk] at hku; exact hku
      refine qOp_mono (fun a' h3 => ih (listed.setIfInBounds j true) a' (inv.set hj hjn) hfree' (ready_mono hr (Ne.symm hji)) h3.1 ?_) h2
      rw [Array.setIfInBounds_comm _ _ hji]
      exact h3.2

/-- The first f operations in the text's order; then number n alone is ready, and behind it the rest come in the text's order. -/
def lexMid (md : Region.Mode) (ops : Array Oper) (n : Nat) : Nat → Nat → Array Bool → Bool
  | 0, _, listed => (Region.ready md ops listed == [n]) && Region.lexFrom md ops (ops.size - n - 1) (n + 1) (listed.setIfInBounds n true)
  | f + 1, k, listed => (Region.ready md ops listed).contains k && Region.free md ops listed k && lexMid md ops n f (k + 1) (listed.setIfInBounds k true)
def midB (md : Region.Mode) (ops : Array Oper) (n : Nat) : Bool :=
  Region.noSelect ops && decide (n < ops.size) && Region.sinkB md ops n && chainW md ops n && lexMid md ops n n 0 (Array.replicate ops.size false)

theorem heads_lexMid {n : Nat} {Lq : Act → Prop} (hsel : Region.noSelect ops = true) (hs : Region.sinkB md ops n = true) (hc : chainW md ops n = true) (hn : n < ops.size) :
    ∀ (l : List Oper) (k : Nat) (listed : Array Bool) (a : Act), (∀ j, j < l.length → l[j]? = ops[k + j]?) → k + l.length = n → HeadInv md ops n listed →
    lexMid md ops n l.length k listed = true → wpQuiet P ops C Lq l a →
    heads P md ops C n (fun listed' a' => (Region.ready md ops listed' = [n] ∧ Region.lexFrom md ops (ops.size - n - 1) (n + 1) (listed'.setIfInBounds n true) = true) ∧ Lq a') l.length listed a := by
  intro l
  induction l with
  | nil =>
    intro k listed a _ _ _ hB h
    refine ⟨?_, h⟩
    simpa [lexMid] using hB
  | cons o l ih =>
    intro k listed a hl hk inv hB h
    have h0 : ops[k]? = some o := by simpa using (hl 0 (by simp)).symm
    simp only [List.length_cons, lexMid, Bool.and_eq_true] at hB
    obtain ⟨⟨hr, hf⟩, hB'⟩ := hB
    have hkn : k < n := by simp only [List.length_cons] at hk; omega
    have hr' : k ∈ Region.ready md ops listed := by simpa using hr
    have hst : qOp P ops C k (wpQuiet P ops C Lq l) a := by unfold qOp; simp only [h0]; exact h
    obtain ⟨v, hy, hK⟩ := yieldsIn_of_qOp h0 hst
    refine heads_first' h0 hsel hs hc hn hkn (fun listed' a' hL j hj => by rw [hL.1.1] at hj; simp at hj; omega) l.length listed a inv (Region.free_spec h0 hf) hr' hy ?_
    refine ih (k + 1) _ _ (fun j hj => ?_) (by simp only [List.length_cons] at hk; omega) (inv.set hr' hkn) hB' hK
    have := hl (j + 1) (by simp; omega)
    simpa [Nat.add_assoc, Nat.add_comm 1 j] using this

theorem op_then {o : Oper} {a : Act} {w : World} {K : Act → World → Prop} {Q : Exit → Act → World → Prop} (h : o.wp P a w K (Exit.then K Q)) : o.wp P a w K Q := by
  unfold Oper.wp at *
  generalize (execOp a.eval o).run P w = r at *
  cases r with
  | ok n w' =>
    cases n <;> simp only [Oper.upon] at h ⊢ <;> first | exact h | (refine h.mono ?_; intro e w''; cases e <;> exact id)
  | halt x w' => cases x <;> exact h

theorem region_mid {id : Nat} {Q : Exit → Act → World → Prop} {a : Act} {w : World} {l : List Oper} (n : Nat) (D1 D2 : World → Prop) (hm : P.follows .mixedOrders = true) (hB : midB .any l.toArray n = true) (hD : D1 w.drew)
    (h : Nonempty (InC D1) → wpQuiet P l.toArray (fun w' => ∃ i : InC D1, w' = i.w) (fun a' => ∀ (i : InC D1) (K : Act → World → Prop),
      (∀ a2 w2, D2 w2 → (Nonempty (InC D2) → wpQuiet P l.toArray (fun w' => ∃ i : InC D2, w' = i.w) (fun a3 => ∀ i : InC D2, Q .normal a3 i.w) (l.drop (n + 1)) a2) → K a2 w2) → wpList P l.toArray (Exit.then K Q) ((l.drop n).take 1) a' i.w) (l.take n) a) :
    (Code.region id l.toArray true).wp P Q a w := by
  replace h := h ⟨⟨_, hD⟩⟩
  simp only [midB, Bool.and_eq_true, decide_eq_true_eq] at hB
  obtain ⟨⟨⟨⟨hsel, hn⟩, hs⟩, hc⟩, hlex⟩ := hB
  have hn' : n < l.length := by simpa using hn
  have htl : (l.take n).length = n := by simp; omega
  have inv0 : HeadInv .any l.toArray n (Array.replicate l.toArray.size false) :=
    ⟨by simp, fun j oj _ hl => (by rw [getD_replicate_false] at hl; cases hl), fun t _ ht => getD_in (by simpa using ht) (getD_replicate_false _ _)⟩
  have H := heads_lexMid (md := .any) hsel hs hc hn (l.take n) 0 _ a (fun j hj => by
    have hj' : j < n := by rw [htl] at hj; exact hj
    simp [hj']) (by simpa using htl) inv0 (by rw [htl]; exact hlex) h
  refine wp_region_any hm ?_
  have := heads_run (Q' := Q) (g := (l.toArray.size - n - 1) + 1) (fun listed a' w' ⟨i, hi⟩ hL => by
    obtain ⟨⟨hr, hx⟩, hop⟩ := hL
    refine ⟨fun h0 => (by rw [hr] at h0; cases h0), fun j hj => ?_⟩
    rw [hr] at hj
    obtain rfl : j = n := by simpa using hj
    have ho : l.toArray[j]? = some l[j] := by simp [hn']
    have h1 := hop i (fun a2 w2 => D2 w2 ∧ wpQuiet P l.toArray (fun w' => ∃ i : InC D2, w' = i.w) (fun a3 => ∀ i : InC D2, Q .normal a3 i.w) (l.drop (j + 1)) a2) (fun a2 w2 hd hq => ⟨hd, hq ⟨⟨_, hd⟩⟩⟩)
    rw [List.drop_eq_getElem_cons hn', List.take_succ_cons, List.take_zero] at h1
    refine wpOp_mono (K := fun a2 w2 => D2 w2 ∧ wpQuiet P l.toArray (fun w' => ∃ i : InC D2, w' = i.w) (fun a3 => ∀ i : InC D2, Q .normal a3 i.w) (l.drop (j + 1)) a2) (fun a2 w2 ⟨hd, hq⟩ => ?_) ?_
    · have hq2 := wpAnyQ_lex (md := .any) (ops := l.toArray) hsel (l.drop (j + 1)) (j + 1) (listed.setIfInBounds j true) a2 (fun k => by simp [List.getElem?_drop]) (by
        rw [List.length_drop]; have : l.length - (j + 1) = l.toArray.size - j - 1 := by simp; omega
        rw [this]; exact hx) hq
      rw [List.length_drop, show l.length - (j + 1) = l.toArray.size - j - 1 by simp; omega] at hq2
      exact wpAny_of_quiet (fun a3 w3 hw3 hQ3 => by obtain ⟨i3, rfl⟩ := hw3; exact hQ3 i3) _ _ _ _ ⟨⟨w2, hd⟩, rfl⟩ hq2
    · rw [hi]
      unfold wpOp
      simp only [ho]
      simp only [wpList] at h1
      by_cases hw : Region.wanted l[j] (yielded l.toArray a'.tmps) = true
      · rw [if_pos hw] at h1 ⊢
        exact h1.imp op_then (fun ⟨h2, a3, w3, h3⟩ => ⟨h2, a3, w3, h3⟩)
      · rw [if_neg hw] at h1 ⊢
        exact h1) _ _ _ { w with drawn := w.drawn + 1 } ⟨⟨_, hD⟩, rfl⟩ H
  rw [htl, show n + (l.toArray.size - n - 1 + 1) = l.toArray.size by omega] at this
  exact this
end
end Go.Proofs.YthbfibnpfdegaaaDoor
