/- Plain mathematics: how many bytes a text has that tells a set. -/
import Derived.Test.YtbcgjgefkkibbaaLMach
namespace Go.Proofs.Ytbcgjgefkkibbaa
open Go.RowKit

/-- How many bytes begin a rune. -/
def nlB (l : List UInt8) : Nat := (l.filter fun c => decide (c.toNat / 64 ≠ 2)).length
theorem nl_app (a b : List UInt8) : nlB (a ++ b) = nlB a + nlB b := by unfold nlB; rw [List.filter_append, List.length_append]
theorem nl_cons (c : UInt8) (l : List UInt8) : nlB (c :: l) = (if c.toNat / 64 ≠ 2 then 1 else 0) + nlB l := by
  unfold nlB
  rw [List.filter_cons]
  by_cases h : c.toNat / 64 ≠ 2
  · simp only [h, not_false_eq_true, ne_eq, decide_true, if_true, List.length_cons]; omega
  · simp only [h, decide_false, if_false, Bool.false_eq_true]; omega
theorem dec_nl {l : List UInt8} {r k : Nat} (hl : l ≠ []) (hD : decL l = (r, k)) (hs : sizeL l ≠ 0) : sizeL l = k ∧ k ≤ 4 ∧ nlB (l.take k) = 1 := by
  have hlen : 0 < l.length := List.length_pos_iff.2 hl
  have hN : Lib.decodeN l.length (l.getD 0 0).toNat (l.getD 1 0).toNat (l.getD 2 0).toNat (l.getD 3 0).toNat = (r, k) := hD
  have hS : sizeL l = if (l.getD 0 0).toNat < 128 then 1 else if k = 1 then 0 else k := by unfold sizeL; rw [if_neg hl, hD]
  have q : ∀ c : UInt8, c.toNat / 64 = 2 → nlB [c] = 0 := fun c h => by rw [nl_cons, if_neg (by simp [h])]; rfl
  have q1 : ∀ c : UInt8, c.toNat / 64 ≠ 2 → nlB [c] = 1 := fun c h => by rw [nl_cons, if_pos h]; rfl
  rcases Lib.decodeN_shape l.length (l.getD 0 0).toNat (l.getD 1 0).toNat (l.getD 2 0).toNat (l.getD 3 0).toNat with ⟨c, e⟩ | ⟨c1, c2, c3, cv, e⟩ | ⟨c1, c2, c3, c4, cv, cs, e⟩ | ⟨c1, c2, c3, c4, c5, cv, cw, e⟩ | e
  · rw [hN, Prod.mk.injEq] at e
    obtain ⟨_, rfl⟩ := e
    rw [Lib.takeA l hlen]
    exact ⟨by rw [hS, if_pos c], by omega, q1 _ (by omega)⟩
  · rw [hN, Prod.mk.injEq] at e
    obtain ⟨_, rfl⟩ := e
    rw [Lib.takeB l c2]
    refine ⟨by rw [hS, if_neg (by omega), if_neg (by omega)], by omega, ?_⟩
    rw [nl_cons, if_pos (by omega), q _ c3]
  · rw [hN, Prod.mk.injEq] at e
    obtain ⟨_, rfl⟩ := e
    rw [Lib.takeC l c2]
    refine ⟨by rw [hS, if_neg (by omega), if_neg (by omega)], by omega, ?_⟩
    rw [nl_cons, if_pos (by omega), nl_cons, if_neg (by omega), q _ c4]
  · rw [hN, Prod.mk.injEq] at e
    obtain ⟨_, rfl⟩ := e
    rw [Lib.takeD l c2]
    refine ⟨by rw [hS, if_neg (by omega), if_neg (by omega)], by omega, ?_⟩
    rw [nl_cons, if_pos (by omega), nl_cons, if_neg (by omega), nl_cons, if_neg (by omega), q _ c5]
  · rw [hN, Prod.mk.injEq] at e
    obtain ⟨_, rfl⟩ := e
    by_cases h8 : (l.getD 0 0).toNat < 128
    · rw [Lib.takeA l hlen]
      exact ⟨by rw [hS, if_pos h8], by omega, q1 _ (by omega)⟩
    · rw [hS, if_neg h8, if_pos rfl] at hs
      exact absurd rfl hs
/-- A rune's bytes: at most four, one that begins it. -/
theorem chunk_nl (l : List UInt8) (h : sizeL l ≠ 0) : (l.take (sizeL l)).length ≤ 4 ∧ nlB (l.take (sizeL l)) = 1 ∧ (l.take (sizeL l)).length = sizeL l := by
  have hle := sizeL_le l
  have hl : l ≠ [] := fun e => h (by rw [e]; rfl)
  have hlen : (l.take (sizeL l)).length = sizeL l := by rw [List.length_take]; omega
  obtain ⟨r, k, hD⟩ : ∃ r k, decL l = (r, k) := ⟨_, _, rfl⟩
  obtain ⟨h1, h2, h3⟩ := dec_nl hl hD h
  rw [hlen, h1]
  exact ⟨h2, h3, rfl⟩
theorem nl_cnt : ∀ (l : List UInt8) (n : Nat), cntL l = some n → nlB l = n ∧ l.length ≤ 4 * n := by
  refine cnt_ind _ ?_ ?_ ?_
  · intro n h; cases h; exact ⟨rfl, Nat.le_refl _⟩
  · intro l hl hs n h; rw [cnt_wrong hl hs] at h; cases h
  · intro l hs ih n h
    rw [cnt_step hs] at h
    cases hc : cntL (l.drop (sizeL l)) with
    | none => rw [hc] at h; cases h
    | some m =>
      rw [hc] at h
      obtain ⟨i1, i2⟩ := ih m hc
      obtain ⟨c1, c2, c3⟩ := chunk_nl l hs
      have hm : m + 1 = n := by simpa using h
      have e : l = l.take (sizeL l) ++ l.drop (sizeL l) := (List.take_append_drop _ _).symm
      have hl : l.length = (l.take (sizeL l)).length + (l.drop (sizeL l)).length := by rw [← List.length_append, ← e]
      have hn : nlB l = nlB (l.take (sizeL l)) + nlB (l.drop (sizeL l)) := by rw [← nl_app, ← e]
      omega
theorem leads_nl {t : List UInt8} {n : Nat} (h : cntL t = some n) (ht : t ≠ []) : ∃ c t', t = c :: t' ∧ c.toNat / 64 ≠ 2 := by
  cases t with
  | nil => exact absurd rfl ht
  | cons c t' =>
    rcases cnt_leads h with h1 | h1
    · cases h1
    · exact ⟨c, t', rfl, by simpa using h1⟩
/-- What stands behind an ASCII byte is right, if the whole is. -/
theorem cnt_behind {x t : List UInt8} {c : UInt8} {n : Nat} (hc : c.toNat < 128) (h : cntL (x ++ c :: t) = some n) : ∃ m, cntL t = some m := by
  have hl : leads (c :: t) := .inr (by simp; omega)
  rw [cnt_app _ hl] at h
  cases hx : cntL x with
  | none => rw [hx] at h; simp at h
  | some a =>
    rw [hx] at h
    cases ht : cntL (c :: t) with
    | none => rw [ht] at h; simp at h
    | some b =>
      rw [cnt_ascii hc] at ht
      cases hq : cntL t with
      | none => rw [hq] at ht; simp at ht
      | some m => exact ⟨m, rfl⟩
theorem val_plain (ch t : List UInt8) (h : ∀ c ∈ ch, 128 ≤ c.toNat) : valL (ch ++ t) = (valL t).map fun q => (ch ++ q.1, q.2) := by
  induction ch with
  | nil => show valL t = _; cases valL t <;> rfl
  | cons c ch ih =>
    have hc := h c (List.mem_cons_self ..)
    rw [List.cons_append, valL_pl (fun e => by rw [e] at hc; exact absurd hc (by decide)) (fun e => by rw [e] at hc; exact absurd hc (by decide)), ih fun d hd => h d (List.mem_cons_of_mem _ hd)]
    cases valL t <;> simp
/-- A value's bytes in a text. -/
theorem val_size : ∀ (n : Nat) (t : List UInt8), t.length ≤ n → ∀ k, cntL t = some k → ∀ y r, valL t = some (y, r) → t.length ≤ r.length + y.length + nlB y := by
  intro n
  induction n with
  | zero =>
    intro t ht k _ y r h
    omega
  | succ n ih =>
    intro t ht k hk y r h
    by_cases hz : t = []
    · subst hz; simp
    · by_cases hs : sizeL t = 0
      · rw [cnt_wrong hz hs] at hk; cases hk
      · have hle := sizeL_le t
        obtain ⟨c, t', rfl, _⟩ := leads_nl hk hz
        by_cases h8 : c.toNat < 128
        · have hk' := hk
          rw [cnt_ascii h8] at hk'
          obtain ⟨m, hm⟩ : ∃ m, cntL t' = some m := by
            cases hq : cntL t' with
            | none => rw [hq] at hk'; simp at hk'
            | some m => exact ⟨m, rfl⟩
          simp only [List.length_cons] at ht ⊢
          by_cases hc : c = 44
          · have : valL (c :: t') = some ([], c :: t') := by cases t' <;> simp [valL, hc]
            rw [this] at h
            simp at h
            obtain ⟨rfl, rfl⟩ := h
            simp
          · by_cases hq : c = 92
            · cases t' with
              | nil => rw [valL_one, if_neg hc, if_pos hq] at h; simp at h
              | cons d t'' =>
                rw [valL_cons2, if_neg hc, if_pos hq] at h
                -- the rune behind the quote
                have hsd : sizeL (d :: t'') ≠ 0 := fun e => by rw [cnt_wrong (by simp) e] at hm; cases hm
                obtain ⟨c1, c2, c3⟩ := chunk_nl (d :: t'') hsd
                have hst := size_take hsd
                obtain ⟨z, hz2⟩ : ∃ z, sizeL (d :: t'') = z + 1 := ⟨sizeL (d :: t'') - 1, by omega⟩
                have hmd : ∃ j, cntL (t''.drop z) = some j := by
                  rw [cnt_step hsd, hz2, List.drop_succ_cons] at hm
                  cases hj : cntL (t''.drop z) with
                  | none => rw [hj] at hm; simp at hm
                  | some j => exact ⟨j, rfl⟩
                obtain ⟨j, hj⟩ := hmd
                rw [hz2, List.take_succ_cons] at c1 c2 c3
                have hch : ∀ b ∈ t''.take z, 128 ≤ b.toNat := fun b hb => by
                  by_cases hd8 : d.toNat < 128
                  · have : sizeL (d :: t'') = 1 := by unfold sizeL; rw [if_neg (by simp), if_pos (by simpa using hd8)]
                    rw [this] at hz2
                    have : z = 0 := by omega
                    subst this
                    simp at hb
                  · exact hst.2 (by simpa using Nat.le_of_not_lt hd8) b (by rw [hz2, List.take_succ_cons]; exact List.mem_cons_of_mem _ hb)
                have e2 : t'' = t''.take z ++ t''.drop z := (List.take_append_drop _ _).symm
                rw [e2, val_plain _ _ hch] at h
                cases hv : valL (t''.drop z) with
                | none => rw [hv] at h; simp at h
                | some q =>
                  rw [hv] at h
                  simp at h
                  obtain ⟨rfl, rfl⟩ := h
                  have i := ih (t''.drop z) (by rw [List.length_drop]; simp at ht; omega) j hj q.1 q.2 hv
                  have hl : t''.length = (t''.take z).length + (t''.drop z).length := by rw [← List.length_append, ← e2]
                  have hn1 : nlB (d :: (t''.take z ++ q.1)) = nlB (d :: t''.take z) + nlB q.1 := by rw [← nl_app]; rfl
                  rw [hn1, c2]
                  simp only [List.length_cons, List.length_append]
                  omega
            · rw [valL_pl hc hq] at h
              cases hv : valL t' with
              | none => rw [hv] at h; simp at h
              | some q =>
                rw [hv] at h
                simp at h
                obtain ⟨rfl, rfl⟩ := h
                have i := ih t' (by omega) m hm q.1 q.2 hv
                rw [nl_cons]
                simp only [List.length_cons]
                omega
        · -- a rune that is no ASCII
          have hst := size_take hs
          obtain ⟨c1, c2, c3⟩ := chunk_nl (c :: t') hs
          have hch := hst.2 (by simpa using Nat.le_of_not_lt h8)
          obtain ⟨z, hz2⟩ : ∃ z, sizeL (c :: t') = z := ⟨_, rfl⟩
          rw [hz2] at hch c1 c2 c3 hs
          have hmd : ∃ j, cntL ((c :: t').drop z) = some j := by
            rw [cnt_step (by rw [hz2]; exact hs), hz2] at hk
            cases hj : cntL ((c :: t').drop z) with
            | none => rw [hj] at hk; simp at hk
            | some j => exact ⟨j, rfl⟩
          obtain ⟨j, hj⟩ := hmd
          have e2 : c :: t' = (c :: t').take z ++ (c :: t').drop z := (List.take_append_drop _ _).symm
          have hl : (c :: t').length = ((c :: t').take z).length + ((c :: t').drop z).length := by rw [← List.length_append, ← e2]
          rw [e2, val_plain _ _ hch] at h
          cases hv : valL ((c :: t').drop z) with
          | none => rw [hv] at h; simp at h
          | some q =>
            rw [hv] at h
            simp at h
            obtain ⟨rfl, rfl⟩ := h
            have i := ih ((c :: t').drop z) (by omega) j hj q.1 q.2 hv
            rw [nl_app, List.length_append]
            omega
/-- A label's weight. -/
def wtL (x : Lab) : Nat := x.1.data.toList.length + 1 + x.2.data.toList.length + nlB x.2.data.toList
theorem labs_size : ∀ (n : Nat) (l : List UInt8) (M : List Lab) (k : Nat), cntL l = some k → labsO n (44 :: l) = some M → l.length + 1 ≤ (M.map fun x => wtL x + 1).sum := by
  intro n
  induction n with
  | zero => intro l M k _ h; simp [labsO] at h
  | succ n ih =>
    intro l M k hk h
    have hdef : labsO (n + 1) (44 :: l) = match oneL l with | none => none | some (x, y, r) => (labsO n r).map ((⟨x.toArray⟩, ⟨y.toArray⟩) :: ·) := rfl
    rw [hdef] at h
    unfold oneL at h
    cases hcut : cutEq l with
    | none => rw [hcut] at h; simp at h
    | some p =>
      obtain ⟨x, t⟩ := p
      rw [hcut] at h
      simp only [Option.bind_some] at h
      obtain ⟨hl, _⟩ := cut_eq l x t hcut
      rw [hl] at hk
      obtain ⟨m, hm⟩ := cnt_behind (c := 61) (by decide) hk
      cases hv : valL t with
      | none => rw [hv] at h; simp at h
      | some q =>
        obtain ⟨y, r⟩ := q
        rw [hv] at h
        simp only [Option.map_some] at h
        have hvs := val_size t.length t (Nat.le_refl _) m hm y r hv
        have hll : l.length = x.length + 1 + t.length := by rw [hl]; simp; omega
        obtain ⟨⟨pre, h1, _⟩, h3⟩ := (run_valN { data := #[] } [] t.length t { data := #[] } (Nat.le_refl _)).1 y r hv
        cases ho : labsO n r with
        | none => rw [ho] at h; simp at h
        | some M' =>
          rw [ho] at h
          simp at h
          subst h
          have hw : wtL (⟨x.toArray⟩, ⟨y.toArray⟩) = x.length + 1 + y.length + nlB y := rfl
          rw [List.map_cons, List.sum_cons, hw]
          rcases h3 with rfl | ⟨r', rfl⟩
          · simp at hvs
            omega
          · rw [h1] at hm
            obtain ⟨j, hj⟩ := cnt_behind (c := 44) (by decide) hm
            have i := ih r' M' j hj ho
            simp only [List.length_cons] at hvs
            omega
end Go.Proofs.Ytbcgjgefkkibbaa
