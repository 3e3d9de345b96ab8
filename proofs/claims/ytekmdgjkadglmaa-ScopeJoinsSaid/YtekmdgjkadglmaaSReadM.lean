/- Plain mathematics: a scope by its parts. Nothing of the program. -/
import Derived.Test.YtekmdgjkadglmaaSParts
namespace Go.Proofs.Ytekmdgjkadglmaa

/-- A part as a term: what stands ahead of the '=', and behind it. -/
def termV (t : ByteArray) : Lab := ((cutV 61 t).1, (cutV 61 t).2.1)
/-- Is it one, with a pattern? -/
def okT (t : ByteArray) : Bool := (cutV 61 t).2.2 && isPatB (cutV 61 t).2.1
theorem termB_yes {t : ByteArray} (h : (cutV 61 t).2.2 = true) : termB t = termV t := by
  unfold termB termV
  unfold cutV at h ⊢
  rw [cutAt_eq] at h ⊢
  cases hc : cutEq t.data.toList with
  | none => rw [hc] at h; cases h
  | some r => rfl
theorem termB_no {t : ByteArray} (h : (cutV 61 t).2.2 = false) : termB t = ({ data := #[] }, { data := #[] }) := by
  unfold termB
  unfold cutV at h
  rw [cutAt_eq] at h
  cases hc : cutEq t.data.toList with
  | none => rfl
  | some r => rw [hc] at h; cases h
theorem terms_bad : ∀ (T : List ByteArray) (last t : ByteArray), t ∈ T → okT t = false → termsRight last T = false := by
  intro T
  induction T with
  | nil => intro _ t h; cases h
  | cons x T ih =>
    intro last t hm hb
    unfold termsRight
    rcases List.mem_cons.1 hm with rfl | hm
    · unfold okT at hb
      cases hc : (cutV 61 t).2.2 with
      | false =>
        rw [termB_no hc]
        have : nameB (ByteArray.data { data := #[] }).toList = false := rfl
        rw [this]
        simp
      | true =>
        rw [hc, Bool.true_and] at hb
        rw [termB_yes hc]
        have : isPatB (termV t).2 = false := hb
        rw [this]
        simp
    · rw [ih _ t hm hb]
      simp
theorem pat_value {p : ByteArray} (h : isPatB p = true) : valueB p.data.toList = true := by
  unfold isPatB at h
  obtain ⟨_, h2⟩ := (Bool.and_eq_true _ _).mp h
  unfold rightB rightF at h2
  simp only [Bool.and_eq_true] at h2
  exact h2.1.1.2.1
theorem terms_good : ∀ (T : List ByteArray) (last : ByteArray), (∀ t ∈ T, okT t = true) → termsRight last T = rightF (some last) (T.map termV) := by
  intro T
  induction T with
  | nil => intro _ _; rfl
  | cons x T ih =>
    intro last h
    have hx := h x (List.mem_cons_self ..)
    unfold okT at hx
    obtain ⟨h1, h2⟩ := (Bool.and_eq_true _ _).mp hx
    have h3 : isPatB (termV x).2 = true := h2
    have h4 := pat_value h3
    rw [List.map_cons]
    unfold termsRight rightF
    rw [termB_yes h1, ih _ fun t ht => h t (List.mem_cons_of_mem _ ht), h3, h4]
    unfold aheadB
    simp
theorem right_first (L : List Lab) : rightF (some { data := #[] }) L = rightF none L := by
  cases L with
  | nil => rfl
  | cons x L =>
    unfold rightF
    cases hn : nameB x.1.data.toList with
    | false => simp
    | true =>
      have : aheadB (some { data := #[] }) x.1 = true := by
        cases hx : x.1.data.toList with
        | nil => rw [hx] at hn; exact absurd hn (by decide)
        | cons c t =>
          show decide (Lib.compareBytes [] x.1.data.toList < 0) = true
          rw [hx]
          rfl
      rw [this]
      rfl
theorem segs_nil (s : ByteArray) : segsL s = [] ↔ s.size = 0 := by
  unfold segsL
  by_cases h : s.size = 0
  · rw [if_pos h]; simp [h]
  · rw [if_neg h, terms_step]; simp [h]
theorem scope_bad {s t : ByteArray} (ht : t ∈ segsL s) (hb : okT t = false) : scopeB s = false := by
  have h0 : s.size ≠ 0 := fun e => by rw [(segs_nil s).2 e] at ht; cases ht
  have ht' : t ∈ termsL s := by unfold segsL at ht; rwa [if_neg h0] at ht
  unfold scopeB
  rw [terms_bad _ _ t ht' hb]
  simp [h0]
theorem scope_long {s : ByteArray} (h : 4 < (segsL s).length) : scopeB s = false := by
  have h0 : s.size ≠ 0 := fun e => by rw [(segs_nil s).2 e] at h; simp at h
  unfold segsL at h
  rw [if_neg h0] at h
  unfold scopeB
  have : decide ((termsL s).length ≤ 4) = false := by simp; omega
  rw [this]
  simp [h0]
theorem scope_good {s : ByteArray} (h : ∀ t ∈ segsL s, okT t = true) (hl : (segsL s).length ≤ 4) (hne : (segsL s).length ≠ 0) : scopeB s = rightB ((segsL s).map termV) := by
  have h0 : s.size ≠ 0 := fun e => hne (by rw [(segs_nil s).2 e]; rfl)
  unfold segsL at h hl hne ⊢
  rw [if_neg h0] at h hl hne ⊢
  unfold scopeB rightB
  have h1 : decide ((termsL s).length ≤ 4) = true := by simpa using hl
  have h2 : (decide (1 ≤ ((termsL s).map termV).length) && decide (((termsL s).map termV).length ≤ 6)) = true := by
    rw [List.length_map]; simp; omega
  rw [h1, h2, terms_good _ _ h, right_first]
  simp [h0]
theorem scope_none {s : ByteArray} (h : (segsL s).length = 0) : scopeB s = true := by
  have h0 : s.size = 0 := (segs_nil s).1 (List.length_eq_zero_iff.1 h)
  unfold scopeB
  simp [h0]
theorem segs_size (s : ByteArray) : ∀ t ∈ segsL s, t.size ≤ s.size := by
  have hT : ∀ (n : Nat) (r : ByteArray), r.size ≤ n → ∀ t ∈ termsL r, t.size ≤ r.size := by
    intro n
    induction n with
    | zero =>
      intro r hr t ht
      rw [terms_step] at ht
      have hz := cutV_size 59 r
      rcases List.mem_cons.1 ht with rfl | ht
      · exact hz.1
      · have : (cutV 59 r).2.2 = false := by
          unfold cutV
          have : r.data.toList = [] := List.length_eq_zero_iff.1 (by rw [lenL]; omega)
          rw [this]
          rfl
        rw [this] at ht
        simp at ht
    | succ n ih =>
      intro r hr t ht
      rw [terms_step] at ht
      have hz := cutV_size 59 r
      rcases List.mem_cons.1 ht with rfl | ht
      · exact hz.1
      · split at ht
        · rename_i hc
          have hlt : (cutV 59 r).2.1.size < r.size := by
            unfold cutV at hc ⊢
            rcases cutAt_idx 59 r.data.toList with ⟨h1, _⟩ | ⟨i, _, h2, h3⟩
            · rw [h1] at hc; cases hc
            · rw [h3]
              rw [lenL] at h2
              dsimp only
              rw [← lenL]
              simp
              omega
          have := ih _ (by omega) t ht
          omega
        · cases ht
  intro t ht
  unfold segsL at ht
  split at ht
  · cases ht
  · exact hT _ s (Nat.le_refl _) t ht
end Go.Proofs.Ytekmdgjkadglmaa
