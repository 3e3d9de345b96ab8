/- Plain mathematics: histograms as rising lists of buckets (stage 9). Nothing of the program. -/
import Derived.Test.YtpdedogdffolnaaGMath
namespace Go.Proofs.Ytpdedogdffolnaa

/-- A bucket's number, and how many values it has. -/
abbrev Bn := Int × Nat
/-- How many values are in buckets of a sort. -/
def sumP (p : Int → Bool) : List Bn → Nat
  | [] => 0
  | x :: t => (if p x.1 then x.2 else 0) + sumP p t
theorem sumP_app (p : Int → Bool) (l m : List Bn) : sumP p (l ++ m) = sumP p l + sumP p m := by
  induction l with
  | nil => simp [sumP]
  | cons x t ih => simp only [List.cons_append, sumP, ih]; omega
theorem sumP_le {p q : Int → Bool} (h : ∀ a, p a = true → q a = true) (l : List Bn) : sumP p l ≤ sumP q l := by
  induction l with
  | nil => exact Nat.le_refl _
  | cons x t ih =>
    simp only [sumP]
    by_cases hp : p x.1 = true
    · rw [if_pos hp, if_pos (h _ hp)]; omega
    · rw [if_neg hp]; omega
theorem sumP_congr {p q : Int → Bool} {l : List Bn} (h : ∀ x ∈ l, p x.1 = q x.1) : sumP p l = sumP q l := by
  induction l with
  | nil => rfl
  | cons x t ih =>
    simp only [sumP]
    rw [h x (List.mem_cons_self ..), ih fun y hy => h y (List.mem_cons_of_mem _ hy)]
/-- One more in a bucket. -/
def putG : List Bn → Int → Nat → List Bn
  | [], a, n => [(a, n)]
  | x :: t, a, n => if x.1 < a then x :: putG t a n else if x.1 = a then (a, plusS x.2 n) :: t else (a, n) :: x :: t
def putBn (l : List Bn) (a : Int) (n : Nat) : List Bn := if n = 0 then l else putG l a n
/-- Rising, none 0, none too many. -/
def RiseG : List Bn → Prop
  | [] => True
  | x :: t => (∀ y ∈ t, x.1 < y.1) ∧ x.2 ≠ 0 ∧ x.2 ≤ topN ∧ RiseG t
theorem RiseG.tail {x : Bn} {t : List Bn} (h : RiseG (x :: t)) : RiseG t := h.2.2.2
theorem put_mem {l : List Bn} {a : Int} {n : Nat} {y : Bn} (h : y ∈ putG l a n) : y.1 = a ∨ y ∈ l := by
  induction l with
  | nil =>
    simp only [putG, List.mem_singleton] at h
    exact .inl (by rw [h])
  | cons x t ih =>
    unfold putG at h
    by_cases h1 : x.1 < a
    · rw [if_pos h1] at h
      rcases List.mem_cons.1 h with rfl | h
      · exact .inr (List.mem_cons_self ..)
      · rcases ih h with h2 | h2
        · exact .inl h2
        · exact .inr (List.mem_cons_of_mem _ h2)
    · rw [if_neg h1] at h
      by_cases h2 : x.1 = a
      · rw [if_pos h2] at h
        rcases List.mem_cons.1 h with rfl | h
        · exact .inl rfl
        · exact .inr (List.mem_cons_of_mem _ h)
      · rw [if_neg h2] at h
        rcases List.mem_cons.1 h with rfl | h
        · exact .inl rfl
        · exact .inr h
theorem put_rise {l : List Bn} (hl : RiseG l) (a : Int) {n : Nat} (h0 : n ≠ 0) (hn : n ≤ topN) : RiseG (putG l a n) := by
  induction l with
  | nil => exact ⟨(fun y hy => by cases hy), h0, hn, trivial⟩
  | cons x t ih =>
    obtain ⟨h1, h2, h3, h4⟩ := hl
    unfold putG
    by_cases g1 : x.1 < a
    · rw [if_pos g1]
      refine ⟨fun y hy => ?_, h2, h3, ih h4⟩
      rcases put_mem hy with e | e
      · rw [e]; exact g1
      · exact h1 y e
    · rw [if_neg g1]
      by_cases g2 : x.1 = a
      · rw [if_pos g2]
        refine ⟨fun y hy => by have := h1 y hy; show a < y.1; omega, ?_, plus_le _ _, h4⟩
        show plusS x.2 n ≠ 0
        unfold plusS
        omega
      · rw [if_neg g2]
        refine ⟨fun y hy => ?_, h0, hn, h1, h2, h3, h4⟩
        show a < y.1
        rcases List.mem_cons.1 hy with rfl | hy
        · omega
        · have := h1 y hy; omega
theorem putBn_rise {l : List Bn} (hl : RiseG l) (a : Int) {n : Nat} (hn : n ≤ topN) : RiseG (putBn l a n) := by
  unfold putBn
  split
  · exact hl
  · rename_i h; exact put_rise hl a h hn
theorem putBn_mem {l : List Bn} {a : Int} {n : Nat} {y : Bn} (h : y ∈ putBn l a n) : y.1 = a ∨ y ∈ l := by
  unfold putBn at h
  split at h
  · exact .inr h
  · exact put_mem h
theorem putBn_len (l : List Bn) (a : Int) (n : Nat) : (putBn l a n).length ≤ l.length + 1 := by
  have : ∀ l : List Bn, (putG l a n).length ≤ l.length + 1 := fun l => by
    induction l with
    | nil => exact Nat.le_refl _
    | cons x t ih =>
      unfold putG
      split
      · simp only [List.length_cons]; omega
      · split <;> simp
  unfold putBn
  split
  · omega
  · exact this l
/-- What one more does to all sums, saturated. -/
theorem put_sum (p : Int → Bool) (l : List Bn) (a : Int) (n : Nat) : min (sumP p (putBn l a n)) topN = min (sumP p l + if p a then n else 0) topN := by
  unfold putBn
  by_cases h0 : n = 0
  · rw [if_pos h0, h0]
    simp
  · rw [if_neg h0]
    induction l with
    | nil => simp [putG, sumP]
    | cons x t ih =>
      unfold putG
      by_cases h1 : x.1 < a
      · rw [if_pos h1]
        simp only [sumP]
        by_cases hp : p a = true
        · rw [if_pos hp] at ih ⊢; omega
        · rw [if_neg hp] at ih ⊢; omega
      · rw [if_neg h1]
        by_cases h2 : x.1 = a
        · rw [if_pos h2]
          simp only [sumP, h2]
          by_cases hp : p a = true
          · simp only [hp, if_true]; unfold plusS; omega
          · simp only [hp]; simp
        · rw [if_neg h2]
          simp only [sumP]
          by_cases hp : p a = true
          · rw [if_pos hp]; omega
          · rw [if_neg hp]; omega
/-- Lists of one's own are told by their sums. -/
theorem sum_none {a : Int} {t : List Bn} (h : ∀ y ∈ t, y.1 ≠ a) : sumP (fun b => decide (b = a)) t = 0 := by
  induction t with
  | nil => rfl
  | cons y t ih =>
    simp only [sumP]
    rw [ih fun z hz => h z (List.mem_cons_of_mem _ hz), if_neg (by simpa using h y (List.mem_cons_self ..))]
theorem sum_head {x : Bn} {t : List Bn} (h : RiseG (x :: t)) : sumP (fun b => decide (b = x.1)) (x :: t) = x.2 := by
  simp only [sumP]
  rw [sum_none fun y hy => by have := h.1 y hy; omega, if_pos (by simp)]
  rfl
theorem rise_extG {l m : List Bn} (hl : RiseG l) (hm : RiseG m) (h : ∀ a, sumP (fun b => decide (b = a)) l = sumP (fun b => decide (b = a)) m) : l = m := by
  induction l generalizing m with
  | nil =>
    cases m with
    | nil => rfl
    | cons y s =>
      have h1 := h y.1
      rw [sum_head hm] at h1
      exact absurd h1.symm hm.2.1
  | cons x t ih =>
    cases m with
    | nil =>
      have h1 := h x.1
      rw [sum_head hl] at h1
      exact absurd h1 hl.2.1
    | cons y s =>
      have low : ∀ {x y : Bn} {t s : List Bn}, RiseG (x :: t) → RiseG (y :: s) → (∀ a, sumP (fun b => decide (b = a)) (x :: t) = sumP (fun b => decide (b = a)) (y :: s)) → y.1 ≤ x.1 := fun {x y t s} h1 h2 h3 => by
        rcases Int.lt_or_le x.1 y.1 with g | g
        · have h4 := h3 x.1
          rw [sum_head h1, sum_none (t := y :: s) fun z hz => by
            rcases List.mem_cons.1 hz with rfl | hz
            · omega
            · have := h2.1 z hz; omega] at h4
          exact absurd h4 h1.2.1
        · exact g
      have e1 : x.1 = y.1 := by
        have g1 := low hl hm h
        have g2 := low hm hl fun a => (h a).symm
        omega
      have e2 : x.2 = y.2 := by
        have := h x.1
        rw [sum_head hl] at this
        rw [e1, sum_head hm] at this
        exact this
      have e3 : x = y := Prod.ext e1 e2
      subst e3
      rw [ih hl.tail hm.tail fun a => by
        have := h a
        simp only [sumP] at this
        omega]
theorem sum_top {l : List Bn} (hl : RiseG l) (a : Int) : sumP (fun b => decide (b = a)) l ≤ topN := by
  induction l with
  | nil => exact Nat.zero_le _
  | cons x t ih =>
    by_cases h : x.1 = a
    · subst h
      rw [sum_head hl]
      exact hl.2.2.1
    · simp only [sumP]
      rw [if_neg (by simpa using h), Nat.zero_add]
      exact ih hl.tail
/-- Two lists of one's own whose saturated sums are the same. -/
theorem rise_extG' {l m : List Bn} (hl : RiseG l) (hm : RiseG m) (h : ∀ p, min (sumP p l) topN = min (sumP p m) topN) : l = m :=
  rise_extG hl hm fun a => by
    have h1 := sum_top hl a
    have h2 := sum_top hm a
    have h3 := h fun b => decide (b = a)
    omega
/-! A histogram of values; merged; lowered. -/
def ofG (f : Nat) (l : List (Nat × Nat)) : List Bn := l.foldl (fun x i => putBn x (bktP f i.1 : Int) i.2) []
def mergeG (l m : List Bn) : List Bn := m.foldl (fun x y => putBn x y.1 y.2) l
def lowG (f : Nat) (l : List Bn) : List Bn := l.foldl (fun x y => putBn x (bktP (f - 1) (loP f y.1.toNat) : Int) y.2) []
def cntG (f : Nat) (p : Int → Bool) : List (Nat × Nat) → Nat
  | [] => 0
  | i :: t => (if p (bktP f i.1 : Int) then i.2 else 0) + cntG f p t
theorem cntG_app (f : Nat) (p : Int → Bool) (l m : List (Nat × Nat)) : cntG f p (l ++ m) = cntG f p l + cntG f p m := by
  induction l with
  | nil => simp [cntG]
  | cons x t ih => simp only [List.cons_append, cntG, ih]; omega
theorem cntG_rev (f : Nat) (p : Int → Bool) (l : List (Nat × Nat)) : cntG f p l.reverse = cntG f p l := by
  induction l with
  | nil => rfl
  | cons x t ih => rw [List.reverse_cons, cntG_app, ih]; simp only [cntG]; omega
theorem fold_sum (p : Int → Bool) {α : Type} (k : α → Int) (c : α → Nat) (m : List α) : ∀ l : List Bn, min (sumP p (m.foldl (fun x y => putBn x (k y) (c y)) l)) topN = min (sumP p l + sumP p (m.map fun y => (k y, c y))) topN := by
  induction m with
  | nil => intro l; simp [sumP]
  | cons y t ih =>
    intro l
    rw [List.foldl_cons, ih]
    have := put_sum p l (k y) (c y)
    simp only [List.map_cons, sumP]
    omega
theorem fold_rise {α : Type} (k : α → Int) (c : α → Nat) (m : List α) (hm : ∀ y ∈ m, c y ≤ topN) : ∀ l : List Bn, RiseG l → RiseG (m.foldl (fun x y => putBn x (k y) (c y)) l) := by
  induction m with
  | nil => intro l hl; exact hl
  | cons y t ih =>
    intro l hl
    rw [List.foldl_cons]
    exact ih (fun z hz => hm z (List.mem_cons_of_mem _ hz)) _ (putBn_rise hl _ (hm y (List.mem_cons_self ..)))
theorem of_map (f : Nat) (p : Int → Bool) (l : List (Nat × Nat)) : sumP p (l.map fun i => ((bktP f i.1 : Int), i.2)) = cntG f p l := by
  induction l with
  | nil => rfl
  | cons x t ih => simp only [List.map_cons, sumP, cntG, ih]
theorem of_sumG (f : Nat) (p : Int → Bool) (l : List (Nat × Nat)) : min (sumP p (ofG f l)) topN = min (cntG f p l) topN := by
  have := fold_sum p (fun i : Nat × Nat => (bktP f i.1 : Int)) (fun i => i.2) l []
  rw [of_map] at this
  simpa [ofG, sumP] using this
theorem of_riseG (f : Nat) {l : List (Nat × Nat)} (hl : ∀ x ∈ l, x.2 ≤ topN) : RiseG (ofG f l) := fold_rise (fun i : Nat × Nat => (bktP f i.1 : Int)) (fun i => i.2) l hl [] trivial
theorem of_snocG (f : Nat) (l : List (Nat × Nat)) (h n : Nat) : ofG f (l ++ [(h, n)]) = putBn (ofG f l) (bktP f h : Int) n := by simp [ofG]
theorem merge_sumG (p : Int → Bool) (l m : List Bn) : min (sumP p (mergeG l m)) topN = min (sumP p l + sumP p m) topN := by
  have := fold_sum p (fun y : Bn => y.1) (fun y => y.2) m l
  rw [show (m.map fun y : Bn => (y.1, y.2)) = m from List.map_id' m] at this
  exact this
theorem merge_riseG {l m : List Bn} (hl : RiseG l) (hm : ∀ x ∈ m, x.2 ≤ topN) : RiseG (mergeG l m) := fold_rise (fun y : Bn => y.1) (fun y => y.2) m hm l hl
theorem RiseG.le {l : List Bn} (h : RiseG l) : ∀ x ∈ l, x.2 ≤ topN := by
  induction l with
  | nil => intro x hx; cases hx
  | cons y t ih =>
    intro x hx
    rcases List.mem_cons.1 hx with rfl | hx
    · exact h.2.2.1
    · exact ih h.tail x hx
theorem merge_ofG (f : Nat) {l m : List (Nat × Nat)} (hl : ∀ x ∈ l, x.2 ≤ topN) (hm : ∀ x ∈ m, x.2 ≤ topN) : mergeG (ofG f l) (ofG f m) = ofG f (l ++ m) := by
  refine rise_extG' (merge_riseG (of_riseG f hl) (of_riseG f hm).le) (of_riseG f fun x hx => ?_) fun p => ?_
  · rcases List.mem_append.1 hx with h | h
    · exact hl x h
    · exact hm x h
  · have h1 := merge_sumG p (ofG f l) (ofG f m)
    have h2 := of_sumG f p l
    have h3 := of_sumG f p m
    have h4 := of_sumG f p (l ++ m)
    rw [cntG_app] at h4
    omega
theorem of_commG (f : Nat) {l m : List (Nat × Nat)} (hl : ∀ x ∈ l, x.2 ≤ topN) (hm : ∀ x ∈ m, x.2 ≤ topN) : ofG f (l ++ m) = ofG f (m ++ l) := by
  refine rise_extG' (of_riseG f fun x hx => ?_) (of_riseG f fun x hx => ?_) fun p => ?_
  · rcases List.mem_append.1 hx with h | h
    · exact hl x h
    · exact hm x h
  · rcases List.mem_append.1 hx with h | h
    · exact hm x h
    · exact hl x h
  · have h4 := of_sumG f p (l ++ m)
    have h5 := of_sumG f p (m ++ l)
    rw [cntG_app] at h4 h5
    omega
theorem of_revG (f : Nat) {l : List (Nat × Nat)} (hl : ∀ x ∈ l, x.2 ≤ topN) : ofG f l.reverse = ofG f l := by
  refine rise_extG' (of_riseG f fun x hx => hl x (List.mem_reverse.1 hx)) (of_riseG f hl) fun p => ?_
  have h4 := of_sumG f p l
  have h5 := of_sumG f p l.reverse
  rw [cntG_rev] at h5
  omega
/-- Each bucket of a histogram of values has some. -/
theorem of_ok (f : Nat) {l : List (Nat × Nat)} (hl : ∀ x ∈ l, x.1 ≤ topN) : ∀ y ∈ ofG f l, 0 ≤ y.1 ∧ okP f y.1.toNat = true := by
  have : ∀ (l : List (Nat × Nat)) (x : List Bn), (∀ i ∈ l, i.1 ≤ topN) → (∀ y ∈ x, 0 ≤ y.1 ∧ okP f y.1.toNat = true) → ∀ y ∈ l.foldl (fun x i => putBn x (bktP f i.1 : Int) i.2) x, 0 ≤ y.1 ∧ okP f y.1.toNat = true := by
    intro l
    induction l with
    | nil => intro x _ hx; exact hx
    | cons i t ih =>
      intro x hl hx
      rw [List.foldl_cons]
      refine ih _ (fun j hj => hl j (List.mem_cons_of_mem _ hj)) fun y hy => ?_
      rcases putBn_mem hy with e | e
      · rw [e, Int.toNat_natCast]
        have := hl i (List.mem_cons_self ..)
        exact ⟨by omega, (bkt_in (f := f) (by show i.1 < 18446744073709551616; unfold topN at this; omega)).1⟩
      · exact hx y e
  exact this l [] hl (fun y hy => by cases hy)
theorem low_sum (f : Nat) (p : Int → Bool) (l : List Bn) : min (sumP p (lowG f l)) topN = min (sumP (fun a => p (bktP (f - 1) (loP f a.toNat) : Int)) l) topN := by
  have := fold_sum p (fun y : Bn => (bktP (f - 1) (loP f y.1.toNat) : Int)) (fun y => y.2) l []
  have e : ∀ l : List Bn, sumP p (l.map fun y => ((bktP (f - 1) (loP f y.1.toNat) : Int), y.2)) = sumP (fun a => p (bktP (f - 1) (loP f a.toNat) : Int)) l := fun l => by
    induction l with
    | nil => rfl
    | cons x t ih => simp only [List.map_cons, sumP, ih]
  rw [e] at this
  simpa [lowG, sumP] using this
theorem low_of9 (f : Nat) {l : List (Nat × Nat)} (hl : ∀ x ∈ l, x.1 ≤ topN ∧ x.2 ≤ topN) : lowG (f + 1) (ofG (f + 1) l) = ofG f l := by
  refine rise_extG' (fold_rise _ (fun y : Bn => y.2) _ (of_riseG (f + 1) fun x hx => (hl x hx).2).le [] trivial) (of_riseG f fun x hx => (hl x hx).2) fun p => ?_
  have h1 := low_sum (f + 1) p (ofG (f + 1) l)
  have h2 := of_sumG (f + 1) (fun a => p (bktP (f + 1 - 1) (loP (f + 1) a.toNat) : Int)) l
  have h3 := of_sumG f p l
  have e : ∀ l : List (Nat × Nat), (∀ x ∈ l, x.1 ≤ topN) → cntG (f + 1) (fun a => p (bktP (f + 1 - 1) (loP (f + 1) a.toNat) : Int)) l = cntG f p l := by
    intro l
    induction l with
    | nil => intro _; rfl
    | cons x t ih =>
      intro hl
      have hx := hl x (List.mem_cons_self ..)
      have e0 : bktP (f + 1 - 1) (loP (f + 1) ((bktP (f + 1) x.1 : Int)).toNat) = bktP f x.1 := by
        rw [Int.toNat_natCast, Nat.add_sub_cancel, bkt_coarse (by show x.1 < 18446744073709551616; unfold topN at hx; omega)]
      simp only [cntG, e0, ih fun y hy => hl y (List.mem_cons_of_mem _ hy)]
  rw [e l fun x hx => (hl x hx).1] at h2
  omega
end Go.Proofs.Ytpdedogdffolnaa
