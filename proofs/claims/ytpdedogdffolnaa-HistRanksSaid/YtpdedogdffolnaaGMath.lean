/- Plain mathematics: buckets of values, and their bounds (stage 9). Nothing of the program. -/
import Derived.Test.YtpdedogdffolnaaCMath
namespace Go.Proofs.Ytpdedogdffolnaa

theorem log_iff {v e : Nat} (hv : v ≠ 0) : v.log2 = e ↔ 2 ^ e ≤ v ∧ v < 2 ^ (e + 1) := by
  constructor
  · rintro rfl
    exact ⟨Nat.log2_self_le hv, Nat.lt_log2_self⟩
  · rintro ⟨h1, h2⟩
    have h3 : e ≤ v.log2 := (Nat.le_log2 hv).2 h1
    have h4 : v.log2 < e + 1 := (Nat.log2_lt hv).2 h2
    omega
/-- The digits of a value from the first one on, Fine behind it. -/
def mantP (f v : Nat) : Nat := v * 2 ^ f / 2 ^ v.log2
/-- A value's bucket. -/
def bktP (f v : Nat) : Nat := if v = 0 then 0 else 1 + v.log2 * 2 ^ f + (mantP f v - 2 ^ f)
theorem mant_lo {f v : Nat} (hv : v ≠ 0) : 2 ^ f ≤ mantP f v := by
  unfold mantP
  refine (Nat.le_div_iff_mul_le (Nat.two_pow_pos _)).2 ?_
  rw [Nat.mul_comm]
  exact Nat.mul_le_mul_right _ (Nat.log2_self_le hv)
theorem mant_hi {f v : Nat} : mantP f v < 2 * 2 ^ f := by
  unfold mantP
  refine (Nat.div_lt_iff_lt_mul (Nat.two_pow_pos _)).2 ?_
  have h := Nat.mul_lt_mul_of_pos_right (Nat.lt_log2_self (n := v)) (Nat.two_pow_pos f)
  rw [Nat.pow_succ] at h
  rw [show 2 * 2 ^ f * 2 ^ v.log2 = 2 ^ v.log2 * 2 * 2 ^ f by rw [Nat.mul_comm (2 * 2 ^ f), Nat.mul_assoc]]
  exact h
theorem bkt_zero (f : Nat) : bktP f 0 = 0 := rfl
theorem bkt_pos {f v : Nat} (hv : v ≠ 0) : bktP f v = 1 + v.log2 * 2 ^ f + (mantP f v - 2 ^ f) := by unfold bktP; rw [if_neg hv]
theorem bkt_mono {f v w : Nat} (h : v ≤ w) : bktP f v ≤ bktP f w := by
  by_cases hv : v = 0
  · rw [hv, bkt_zero]; exact Nat.zero_le _
  · have hw : w ≠ 0 := by omega
    rw [bkt_pos hv, bkt_pos hw]
    have h1 := mant_lo (f := f) hv
    have h2 := mant_hi (f := f) (v := v)
    have h3 := mant_lo (f := f) hw
    have hl : v.log2 ≤ w.log2 := (Nat.le_log2 hw).2 (Nat.le_trans (Nat.log2_self_le hv) h)
    rcases Nat.lt_or_ge v.log2 w.log2 with h4 | h4
    · have h5 : (v.log2 + 1) * 2 ^ f ≤ w.log2 * 2 ^ f := Nat.mul_le_mul_right _ h4
      rw [Nat.add_mul, Nat.one_mul] at h5
      omega
    · have h5 : v.log2 = w.log2 := by omega
      have h6 : mantP f v ≤ mantP f w := by
        unfold mantP
        rw [h5]
        exact Nat.div_le_div_right (Nat.mul_le_mul_right _ h)
      rw [h5]
      omega
theorem bkt_le {f v : Nat} (hv : v < 2 ^ 64) : bktP f v ≤ 64 * 2 ^ f := by
  by_cases h0 : v = 0
  · rw [h0, bkt_zero]; exact Nat.zero_le _
  · rw [bkt_pos h0]
    have h1 := mant_lo (f := f) h0
    have h2 := mant_hi (f := f) (v := v)
    have h3 : v.log2 < 64 := (Nat.log2_lt h0).2 hv
    have h4 : (v.log2 + 1) * 2 ^ f ≤ 64 * 2 ^ f := Nat.mul_le_mul_right _ h3
    rw [Nat.add_mul, Nat.one_mul] at h4
    omega
/-- A bucket's length in digits less one, its digits from the first one on. -/
def expP (f a : Nat) : Nat := (a - 1) / 2 ^ f
def firP (f a : Nat) : Nat := (a - 1) % 2 ^ f + 2 ^ f
/-- Has the bucket values? Its least and greatest one. -/
def okP (f a : Nat) : Bool := decide (a = 0) || (decide (a ≤ 64 * 2 ^ f) && (decide (f ≤ expP f a) || decide (firP f a % 2 ^ (f - expP f a) = 0)))
def loP (f a : Nat) : Nat := if a = 0 then 0 else if expP f a < f then firP f a / 2 ^ (f - expP f a) else firP f a * 2 ^ (expP f a - f)
def hiP (f a : Nat) : Nat := if a = 0 then 0 else if expP f a < f then firP f a / 2 ^ (f - expP f a) else firP f a * 2 ^ (expP f a - f) + (2 ^ (expP f a - f) - 1)
theorem exp_bkt {f v : Nat} (hv : v ≠ 0) : expP f (bktP f v) = v.log2 := by
  have h1 := mant_lo (f := f) hv
  have h2 := mant_hi (f := f) (v := v)
  unfold expP
  rw [bkt_pos hv, show 1 + v.log2 * 2 ^ f + (mantP f v - 2 ^ f) - 1 = v.log2 * 2 ^ f + (mantP f v - 2 ^ f) by omega]
  exact dm_div (by omega)
theorem fir_bkt {f v : Nat} (hv : v ≠ 0) : firP f (bktP f v) = mantP f v := by
  have h1 := mant_lo (f := f) hv
  have h2 := mant_hi (f := f) (v := v)
  unfold firP
  rw [bkt_pos hv, show 1 + v.log2 * 2 ^ f + (mantP f v - 2 ^ f) - 1 = v.log2 * 2 ^ f + (mantP f v - 2 ^ f) by omega, dm_mod (by omega)]
  omega
theorem mant_short {f v : Nat} (h : v.log2 < f) : mantP f v = v * 2 ^ (f - v.log2) := by
  unfold mantP
  have e : 2 ^ f = 2 ^ (f - v.log2) * 2 ^ v.log2 := by rw [← Nat.pow_add, show f - v.log2 + v.log2 = f by omega]
  rw [e, ← Nat.mul_assoc, Nat.mul_div_cancel _ (Nat.two_pow_pos _)]
theorem mant_long {f v : Nat} (h : f ≤ v.log2) : mantP f v = v / 2 ^ (v.log2 - f) := by
  unfold mantP
  have e : 2 ^ v.log2 = 2 ^ (v.log2 - f) * 2 ^ f := by rw [← Nat.pow_add, show v.log2 - f + f = v.log2 by omega]
  rw [show v * 2 ^ f / 2 ^ v.log2 = v * 2 ^ f / (2 ^ (v.log2 - f) * 2 ^ f) by rw [← e], Nat.mul_div_mul_right _ _ (Nat.two_pow_pos f)]
/-- A value is within its bucket's bounds. -/
theorem bkt_in {f v : Nat} (hv : v < 2 ^ 64) : okP f (bktP f v) = true ∧ loP f (bktP f v) ≤ v ∧ v ≤ hiP f (bktP f v) := by
  by_cases h0 : v = 0
  · rw [h0, bkt_zero]
    exact ⟨rfl, Nat.le_refl _, Nat.le_refl _⟩
  · have hne : bktP f v ≠ 0 := by rw [bkt_pos h0]; omega
    unfold okP loP hiP
    rw [if_neg hne, if_neg hne, exp_bkt h0, fir_bkt h0, decide_eq_false hne, decide_eq_true (bkt_le hv), Bool.false_or, Bool.true_and]
    by_cases hl : v.log2 < f
    · rw [if_pos hl, if_pos hl, mant_short hl, Nat.mul_div_cancel _ (Nat.two_pow_pos _), Nat.mul_mod_left]
      exact ⟨by simp, Nat.le_refl _, Nat.le_refl _⟩
    · have hl' : f ≤ v.log2 := by omega
      rw [if_neg hl, if_neg hl, mant_long hl', decide_eq_true hl', Bool.true_or]
      have hp := Nat.two_pow_pos (v.log2 - f)
      have hd := Nat.div_add_mod v (2 ^ (v.log2 - f))
      have hm := Nat.mod_lt v hp
      rw [Nat.mul_comm] at hd
      exact ⟨rfl, by omega, by omega⟩
/-- What is within a bucket's bounds has that bucket. -/
theorem bkt_of {f a v : Nat} (ho : okP f a = true) (h1 : loP f a ≤ v) (h2 : v ≤ hiP f a) : bktP f v = a := by
  by_cases h0 : a = 0
  · subst h0
    unfold hiP at h2
    rw [if_pos rfl] at h2
    obtain rfl : v = 0 := by omega
    rfl
  · unfold okP at ho
    rw [decide_eq_false h0, Bool.false_or] at ho
    obtain ⟨_, ho⟩ := (Bool.and_eq_true _ _).mp ho
    unfold loP at h1
    unfold hiP at h2
    rw [if_neg h0] at h1 h2
    have hf1 : 2 ^ f ≤ firP f a := by unfold firP; omega
    have hf2 : firP f a < 2 * 2 ^ f := by
      unfold firP
      have := Nat.mod_lt (a - 1) (Nat.two_pow_pos f)
      omega
    have ha : a = 1 + expP f a * 2 ^ f + (firP f a - 2 ^ f) := by
      unfold expP firP
      have := Nat.div_add_mod (a - 1) (2 ^ f)
      rw [Nat.mul_comm] at this
      omega
    obtain ⟨e, he⟩ : ∃ e, e = expP f a := ⟨_, rfl⟩
    obtain ⟨q, hq⟩ : ∃ q, q = firP f a := ⟨_, rfl⟩
    rw [← he, ← hq] at h1 h2 ho ha
    rw [← hq] at hf1 hf2
    have key : v.log2 = e ∧ mantP f v = q → bktP f v = a := fun ⟨k1, k2⟩ => by
      have hv : v ≠ 0 := by
        rintro rfl
        have : mantP f 0 = 0 := by unfold mantP; simp
        have := Nat.two_pow_pos f
        omega
      rw [bkt_pos hv, k1, k2]
      exact ha.symm
    by_cases hl : e < f
    · rw [if_pos hl] at h1 h2
      rw [decide_eq_false (by omega), Bool.false_or] at ho
      have hd := of_decide_eq_true ho
      have hp := Nat.two_pow_pos (f - e)
      have hv : q = v * 2 ^ (f - e) := by
        have := Nat.div_add_mod q (2 ^ (f - e))
        rw [hd, Nat.add_zero, Nat.mul_comm] at this
        rw [← this, show q / 2 ^ (f - e) = v by omega]
      have e1 : 2 ^ f = 2 ^ e * 2 ^ (f - e) := by rw [← Nat.pow_add, show e + (f - e) = f by omega]
      have g1 : 2 ^ e ≤ v := Nat.le_of_mul_le_mul_right (by rw [← e1, ← hv]; exact hf1) hp
      have g2 : v < 2 ^ (e + 1) := by
        refine Nat.lt_of_mul_lt_mul_right (a := 2 ^ (f - e)) ?_
        rw [← hv, Nat.pow_succ, Nat.mul_comm (2 ^ e) 2, Nat.mul_assoc, ← e1]
        exact hf2
      have hv0 : v ≠ 0 := by have := Nat.two_pow_pos e; omega
      have hlog := (log_iff hv0).2 ⟨g1, g2⟩
      exact key ⟨hlog, by rw [mant_short (by omega), hlog, hv]⟩
    · have hfe : f ≤ e := by omega
      rw [if_neg hl] at h1 h2
      have hp := Nat.two_pow_pos (e - f)
      have e1 : 2 ^ e = 2 ^ f * 2 ^ (e - f) := by rw [← Nat.pow_add, show f + (e - f) = e by omega]
      have hq1 : v / 2 ^ (e - f) = q := by
        refine Nat.le_antisymm ?_ ((Nat.le_div_iff_mul_le hp).2 h1)
        have : v / 2 ^ (e - f) < q + 1 := (Nat.div_lt_iff_lt_mul hp).2 (by rw [Nat.add_mul, Nat.one_mul]; omega)
        omega
      have g1 : 2 ^ e ≤ v := by
        rw [e1]
        exact Nat.le_trans (Nat.mul_le_mul_right _ hf1) h1
      have g2 : v < 2 ^ (e + 1) := by
        have : (q + 1) * 2 ^ (e - f) ≤ 2 * 2 ^ f * 2 ^ (e - f) := Nat.mul_le_mul_right _ hf2
        rw [Nat.add_mul, Nat.one_mul, Nat.mul_assoc, ← e1] at this
        rw [Nat.pow_succ]
        omega
      have hv0 : v ≠ 0 := by have := Nat.two_pow_pos e; omega
      have hlog := (log_iff hv0).2 ⟨g1, g2⟩
      exact key ⟨hlog, by rw [mant_long (by omega), hlog, hq1]⟩
theorem lo_le_hi (f a : Nat) : loP f a ≤ hiP f a := by
  unfold loP hiP
  split
  · exact Nat.le_refl _
  · split <;> omega
theorem bkt_lo {f a : Nat} (ho : okP f a = true) : bktP f (loP f a) = a := bkt_of ho (Nat.le_refl _) (lo_le_hi f a)
theorem bkt_hi {f a : Nat} (ho : okP f a = true) : bktP f (hiP f a) = a := bkt_of ho (lo_le_hi f a) (Nat.le_refl _)
theorem hi_lt {f a : Nat} (ho : okP f a = true) : hiP f a < 2 ^ 64 := by
  by_cases h0 : a = 0
  · subst h0; exact Nat.two_pow_pos _
  · have hb := bkt_hi ho
    have h1 : hiP f a ≠ 0 := by
      intro e
      rw [e, bkt_zero] at hb
      omega
    have ha : a ≤ 64 * 2 ^ f := by
      unfold okP at ho
      rw [decide_eq_false h0, Bool.false_or] at ho
      exact of_decide_eq_true ((Bool.and_eq_true _ _).mp ho).1
    have h2 := mant_lo (f := f) h1
    rw [bkt_pos h1] at hb
    have h3 : (hiP f a).log2 * 2 ^ f < 64 * 2 ^ f := by omega
    have h4 := Nat.lt_of_mul_lt_mul_right h3
    exact (Nat.log2_lt h1).1 h4
/-- What comes behind a bucket's greatest value has a greater bucket; what comes ahead of its least one a lesser one. -/
theorem bkt_gt {f a v : Nat} (ho : okP f a = true) (hv : v < 2 ^ 64) (h : hiP f a < v) : a < bktP f v := by
  have h1 := bkt_mono (f := f) (Nat.le_of_lt h)
  rw [bkt_hi ho] at h1
  rcases Nat.lt_or_eq_of_le h1 with h2 | h2
  · exact h2
  · have := (bkt_in (f := f) hv).2.2
    rw [← h2] at this
    omega
theorem bkt_lt {f a v : Nat} (ho : okP f a = true) (h : v < loP f a) : bktP f v < a := by
  have hv : v < 2 ^ 64 := Nat.lt_trans h (Nat.lt_of_le_of_lt (lo_le_hi f a) (hi_lt ho))
  have h1 := bkt_mono (f := f) (Nat.le_of_lt h)
  rw [bkt_lo ho] at h1
  rcases Nat.lt_or_eq_of_le h1 with h2 | h2
  · exact h2
  · have := (bkt_in (f := f) hv).2.1
    rw [h2] at this
    omega
theorem bkt_le_iff {f v w : Nat} (hv : v < 2 ^ 64) (hw : w < 2 ^ 64) : w ≤ hiP f (bktP f v) ↔ bktP f w ≤ bktP f v := by
  have ho := (bkt_in (f := f) hv).1
  constructor
  · intro h
    have := bkt_mono (f := f) h
    rwa [bkt_hi ho] at this
  · intro h
    rcases Nat.lt_or_ge (hiP f (bktP f v)) w with h1 | h1
    · have := bkt_gt ho hw h1
      omega
    · exact h1
/-- Buckets of one digit less do not tell more apart. -/
theorem bkt_coarse {f v : Nat} (hv : v < 2 ^ 64) : bktP f (loP (f + 1) (bktP (f + 1) v)) = bktP f v := by
  obtain ⟨ho, h1, h2⟩ := bkt_in (f := f + 1) hv
  have e1 := bkt_lo ho
  by_cases h0 : v = 0
  · subst h0; rfl
  · have hl0 : loP (f + 1) (bktP (f + 1) v) ≠ 0 := by
      intro e
      rw [e, bkt_zero] at e1
      rw [bkt_pos h0] at e1
      omega
    obtain ⟨u, hu⟩ : ∃ u, u = loP (f + 1) (bktP (f + 1) v) := ⟨_, rfl⟩
    rw [← hu] at e1 hl0 h1 ⊢
    have x1 := exp_bkt (f := f + 1) h0
    have x2 := fir_bkt (f := f + 1) h0
    have y1 := exp_bkt (f := f + 1) hl0
    have y2 := fir_bkt (f := f + 1) hl0
    rw [e1] at y1 y2
    have z1 : u.log2 = v.log2 := by rw [← y1, x1]
    have z2 : mantP (f + 1) u = mantP (f + 1) v := by rw [← y2, x2]
    have half : ∀ w, mantP f w = mantP (f + 1) w / 2 := fun w => by
      unfold mantP
      rw [Nat.div_div_eq_div_mul, Nat.pow_succ, ← Nat.mul_assoc, Nat.mul_div_mul_right _ _ (by decide : 0 < 2)]
    rw [bkt_pos hl0, bkt_pos h0, z1, half u, half v, z2]
theorem bkt_top (f : Nat) (hf : f ≤ 3) : bktP f 18446744073709551615 = 64 * 2 ^ f := by
  have h : f = 0 ∨ f = 1 ∨ f = 2 ∨ f = 3 := by omega
  rcases h with rfl | rfl | rfl | rfl <;> decide +kernel
end Go.Proofs.Ytpdedogdffolnaa
