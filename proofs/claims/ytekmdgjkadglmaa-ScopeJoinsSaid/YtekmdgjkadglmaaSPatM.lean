/- Plain mathematics of layer 5: a rune's number; a pattern's signs, rune by rune; the places in a pattern. Nothing of the program. -/
import Derived.Test.YtekmdgjkadglmaaSJoin
import Derived.Test.YtekmdgjkadglmaaLRune
namespace Go.Proofs.Ytekmdgjkadglmaa

/-- A rune's number, from its bytes. -/
def rnum (c : ByteArray) : Nat := (decL c.data.toList).1
/-- Bytes that are a rune's. -/
def isRune (c : ByteArray) : Prop := (Utf8.encode (rnum c : Int)).data.toList = c.data.toList
theorem rnum_inj {a b : ByteArray} (ha : isRune a) (hb : isRune b) (h : rnum a = rnum b) : a = b := by
  unfold isRune at ha hb
  rw [h] at ha
  exact baL (ha.symm.trans hb)
theorem dec_take {l : List UInt8} (h : sizeL l ≠ 0) : decL (l.take (sizeL l)) = decL l := by
  have hl : l ≠ [] := fun e => h (by rw [e]; rfl)
  have hs := (size_take h).1
  have hle := sizeL_le l
  have hpos : 0 < sizeL l := by omega
  have e0 : (l.take (sizeL l)).getD 0 0 = l.getD 0 0 := by
    rw [List.getD_eq_getElem?_getD, List.getD_eq_getElem?_getD, List.getElem?_take, if_pos hpos]
  have hne : l.take (sizeL l) ≠ [] := fun e => by have := congrArg List.length e; rw [List.length_take] at this; simp at this; rcases this with h1 | h1; · omega
                                                  · exact hl h1
  by_cases h8 : (l.getD 0 0).toNat < 128
  · unfold decL
    rw [e0]
    unfold Lib.decodeN
    rw [if_pos h8, if_pos h8]
  · have hw : (decL (l.take (sizeL l))).2 ≠ 1 := fun e => by
      have : ∀ a : List UInt8, a ≠ [] → a.getD 0 0 = l.getD 0 0 → (decL a).2 = 1 → sizeL a = 0 := fun a h1 h2 h3 => by
        unfold sizeL
        rw [if_neg h1, h2, if_neg h8, if_pos h3]
      have := this _ hne e0 e
      omega
    have hlen : (l.take (sizeL l)).length = sizeL l := by rw [List.length_take]; omega
    have hg : ∀ k, k < (l.take (sizeL l)).length → (l.getD k 0).toNat = ((l.take (sizeL l)).getD k 0).toNat := fun k hk => by
      rw [List.getD_eq_getElem?_getD, List.getD_eq_getElem?_getD, List.getElem?_take, if_pos (by omega)]
    unfold decL at hw ⊢
    rw [e0] at hw ⊢
    exact (decodeN_more (by omega) (fun hk => hg 1 hk) (fun hk => hg 2 hk) (fun hk => hg 3 hk) hw).symm
theorem rune_at {l : List UInt8} {r k : Nat} (hD : decL l = (r, k)) (h : RuneAt l r k) : rnum ⟨(l.take k).toArray⟩ = r ∧ isRune ⟨(l.take k).toArray⟩ := by
  have hk := h.size
  have hs : sizeL l ≠ 0 := by have := h.pos; omega
  have h1 : rnum ⟨(l.take k).toArray⟩ = r := by
    show (decL (l.take k)).1 = r
    rw [← hk, dec_take hs, hD]
  refine ⟨h1, ?_⟩
  unfold isRune
  rw [h1, h.enc]
theorem runes_are : ∀ l : List UInt8, ∀ R, runesL l = some R → ∀ c ∈ R, isRune c := by
  refine cnt_ind _ ?_ ?_ ?_
  · intro R h c hc
    obtain rfl : [] = R := by simpa using (show some [] = some R from h)
    cases hc
  · intro l hl hs R h
    rw [runes_wrong hl hs] at h
    cases h
  · intro l hs ih R h
    have hl : l ≠ [] := fun e => hs (by rw [e]; rfl)
    rw [runes_step hs] at h
    cases hc : runesL (l.drop (sizeL l)) with
    | none => rw [hc] at h; cases h
    | some M =>
      rw [hc] at h
      obtain rfl : (⟨(l.take (sizeL l)).toArray⟩ : ByteArray) :: M = R := by simpa using h
      intro c hcm
      rcases List.mem_cons.1 hcm with rfl | hcm
      · obtain ⟨r, k, hD, hR | ⟨h0, _⟩⟩ := dec_shape l hl
        · rw [hR.size]; exact (rune_at hD hR).2
        · exact absurd h0 hs
      · exact ih M hc c hcm
/-- The next rune of a right text. -/
theorem rune_next (s : ByteArray) (p : Nat) {R : List ByteArray} (h : p < s.size) (hR : runesL (s.data.toList.drop p) = some R) :
    ∃ c B k, R = c :: B ∧ Utf8.decode s p = (rnum c, k) ∧ 1 ≤ k ∧ p + k ≤ s.size ∧ runesL (s.data.toList.drop (p + k)) = some B ∧ isRune c ∧ rnum c ≤ 1114111 := by
  have hl : s.data.toList.drop p ≠ [] := fun e => by have := congrArg List.length e; rw [List.length_drop] at this; simp at this; omega
  obtain ⟨r, k, hD, hA | ⟨h0, _⟩⟩ := dec_shape (s.data.toList.drop p) hl
  · have hs : sizeL (s.data.toList.drop p) ≠ 0 := by have := hA.pos; have := hA.size; omega
    rw [runes_step hs] at hR
    cases hc : runesL ((s.data.toList.drop p).drop (sizeL (s.data.toList.drop p))) with
    | none => rw [hc] at hR; cases hR
    | some M =>
      rw [hc] at hR
      obtain rfl := (show _ :: M = R by simpa using hR)
      obtain ⟨e1, e2⟩ := rune_at hD hA
      have hle := hA.le
      rw [List.length_drop, lenL] at hle
      rw [hA.size, List.drop_drop] at hc
      refine ⟨_, M, k, by rw [hA.size], ?_, hA.pos, by omega, hc, e2, by rw [e1]; exact hA.top⟩
      rw [decode_drop, hD, e1]
  · rw [runes_wrong hl h0] at hR; cases hR
theorem rune_end (s : ByteArray) (p : Nat) {R : List ByteArray} (h : ¬ p < s.size) (hR : runesL (s.data.toList.drop p) = some R) : R = [] := by
  rw [List.drop_eq_nil_of_le (by rw [lenL]; omega)] at hR
  have : some [] = some R := hR
  simpa using this.symm
theorem rune_is {c : ByteArray} (hc : isRune c) (b : UInt8) (hb : isRune ⟨#[b]⟩) (n : Nat) (hn : rnum ⟨#[b]⟩ = n) : rnum c = n ↔ c = ⟨#[b]⟩ := by
  constructor
  · intro h; exact rnum_inj hc hb (by rw [h, hn])
  · intro h; rw [h, hn]
theorem is_til' {c : ByteArray} (hc : isRune c) : rnum c = 126 ↔ c = bTil := rune_is hc 126 (by unfold isRune; kernel_rfl) 126 (by kernel_rfl)
theorem is_star' {c : ByteArray} (hc : isRune c) : rnum c = 42 ↔ c = bStar := rune_is hc 42 (by unfold isRune; kernel_rfl) 42 (by kernel_rfl)
theorem is_any' {c : ByteArray} (hc : isRune c) : rnum c = 63 ↔ c = bAny := rune_is hc 63 (by unfold isRune; kernel_rfl) 63 (by kernel_rfl)

/-- A pattern's signs, rune by rune; and whether a '~' has just come. -/
def tokSt (st : List Tok × Bool) (c : ByteArray) : List Tok × Bool := if st.2 then (st.1 ++ [.ex c], false) else if c = bTil then (st.1, true) else (st.1 ++ [tok1 c], false)
def tokS (A : List ByteArray) : List Tok × Bool := A.foldl tokSt ([], false)
theorem tokS_snoc (A : List ByteArray) (c : ByteArray) : tokS (A ++ [c]) = tokSt (tokS A) c := by unfold tokS; rw [List.foldl_append]; rfl
theorem tokS_from : ∀ (n : Nat) (R : List ByteArray) (T : List Tok), R.length ≤ n → (tokL R = none → (R.foldl tokSt (T, false)).2 = true) ∧ ∀ Q, tokL R = some Q → R.foldl tokSt (T, false) = (T ++ Q, false) := by
  intro n
  induction n with
  | zero =>
    intro R T h
    obtain rfl : R = [] := List.length_eq_zero_iff.1 (by omega)
    refine ⟨fun h => by (cases h), fun Q h => ?_⟩
    obtain rfl : [] = Q := by simpa [tokL] using h
    simp
  | succ n ih =>
    intro R T h
    match R, h with
    | [], _ =>
      refine ⟨fun h => by (cases h), fun Q h => ?_⟩
      obtain rfl : [] = Q := by simpa [tokL] using h
      simp
    | [c], _ =>
      by_cases hc : c = bTil
      · subst hc
        refine ⟨fun _ => rfl, fun Q h => ?_⟩
        rw [tokL, if_pos rfl] at h
        cases h
      · rw [tokL, if_neg hc]
        refine ⟨fun h => by (cases h), fun Q h => ?_⟩
        obtain rfl : [tok1 c] = Q := by simpa using h
        simp [tokSt, hc]
    | c :: d :: t, h =>
      simp only [List.length_cons] at h
      by_cases hc : c = bTil
      · subst hc
        rw [tokL_til]
        have e : (bTil :: d :: t).foldl tokSt (T, false) = t.foldl tokSt (T ++ [.ex d], false) := by simp [tokSt]
        rw [e]
        obtain ⟨h1, h2⟩ := ih t (T ++ [.ex d]) (by omega)
        cases ht : tokL t with
        | none => exact ⟨fun _ => h1 ht, fun Q h => by cases h⟩
        | some Q' =>
          refine ⟨fun h => by (cases h), fun Q h => ?_⟩
          obtain rfl : Tok.ex d :: Q' = Q := by simpa using h
          rw [h2 Q' ht, List.append_assoc]
          rfl
      · rw [tokL_one hc]
        have e : (c :: d :: t).foldl tokSt (T, false) = (d :: t).foldl tokSt (T ++ [tok1 c], false) := by simp [tokSt, hc]
        rw [e]
        obtain ⟨h1, h2⟩ := ih (d :: t) (T ++ [tok1 c]) (by simp only [List.length_cons]; omega)
        cases ht : tokL (d :: t) with
        | none => exact ⟨fun _ => h1 ht, fun Q h => by cases h⟩
        | some Q' =>
          refine ⟨fun h => by (cases h), fun Q h => ?_⟩
          obtain rfl : tok1 c :: Q' = Q := by simpa using h
          rw [h2 Q' ht, List.append_assoc]
          rfl
theorem tokS_end (R : List ByteArray) : (tokL R).isSome = !(tokS R).2 ∧ ((tokS R).2 = false → (tokL R).getD [] = (tokS R).1) := by
  obtain ⟨h1, h2⟩ := tokS_from R.length R [] (Nat.le_refl _)
  cases ht : tokL R with
  | none =>
    have := h1 ht
    exact ⟨by unfold tokS; rw [this]; rfl, fun h => by unfold tokS at h; rw [this] at h; cases h⟩
  | some Q =>
    have := h2 Q ht
    exact ⟨by unfold tokS; rw [this]; rfl, fun _ => by unfold tokS; rw [this]; simp⟩
theorem snoc_ind {α : Type} {C : List α → Prop} (h0 : C []) (h1 : ∀ A c, C A → C (A ++ [c])) : ∀ A, C A := fun A => by
  rw [← List.reverse_reverse A]
  induction A.reverse with
  | nil => exact h0
  | cons c t ih => rw [List.reverse_cons]; exact h1 _ _ ih
theorem tokS_len : ∀ A : List ByteArray, (tokS A).1.length ≤ A.length := by
  refine snoc_ind ?_ ?_
  · exact Nat.le_refl _
  · intro A c ih
    rw [tokS_snoc]
    unfold tokSt
    simp only [List.length_append, List.length_cons, List.length_nil]
    split
    · simp; omega
    · split
      · dsimp only; omega
      · simp; omega
/-- Signs whose runes are runes. -/
def RuneT (P : List Tok) : Prop := ∀ x, Tok.ex x ∈ P → isRune x
theorem tokS_rune : ∀ A : List ByteArray, (∀ c ∈ A, isRune c) → RuneT (tokS A).1 := by
  refine snoc_ind ?_ ?_
  · intro _ x hx; cases hx
  · intro A c ih h
    have ih' := ih fun d hd => h d (List.mem_append_left _ hd)
    have hc := h c (by simp)
    rw [tokS_snoc]
    unfold tokSt
    intro x hx
    split at hx
    · rcases List.mem_append.1 hx with hx | hx
      · exact ih' x hx
      · obtain rfl : x = c := by simpa using hx
        exact hc
    · split at hx
      · exact ih' x hx
      · rcases List.mem_append.1 hx with hx | hx
        · exact ih' x hx
        · have hx : Tok.ex x = tok1 c := by simpa using hx
          unfold tok1 at hx
          split at hx
          · cases hx
          · split at hx
            · cases hx
            · cases hx; exact hc

/-! ### places -/
/-- From a place to a place by signs that may stand for nothing. -/
def reachP (P : List Tok) (i k : Nat) : Prop := i ≤ k ∧ k ≤ P.length ∧ ∀ t, i ≤ t → t < k → P[t]? = some .star
/-- Where a rune leads from a place. -/
def takeP (P : List Tok) (i : Nat) (c : ByteArray) (k : Nat) : Prop :=
  (P[i]? = some .star ∧ reachP P i k) ∨ (P[i]? = some .any ∧ reachP P (i + 1) k) ∨ (P[i]? = some (.ex c) ∧ reachP P (i + 1) k)
open Classical in
/-- The places at which runes may stand. -/
def atP (P : List Tok) (A : List ByteArray) (k : Nat) : Prop := k ≤ P.length ∧ if P[k]? = some .star then fitsT (P.take (k + 1)) A = true else fitsT (P.take k) A = true
theorem take_more {P : List Tok} {k : Nat} {x : Tok} (h : P[k]? = some x) : P.take (k + 1) = P.take k ++ [x] := by
  obtain ⟨hk, hx⟩ := List.getElem?_eq_some_iff.1 h
  rw [List.take_succ_eq_append_getElem hk, hx]
theorem reach_more (P : List Tok) (i k : Nat) : reachP P i (k + 1) ↔ (i = k + 1 ∧ k + 1 ≤ P.length) ∨ (P[k]? = some .star ∧ reachP P i k) := by
  constructor
  · rintro ⟨h1, h2, h3⟩
    by_cases h : i = k + 1
    · exact .inl ⟨h, h2⟩
    · exact .inr ⟨h3 k (by omega) (by omega), by omega, by omega, fun t h4 h5 => h3 t h4 (by omega)⟩
  · rintro (⟨rfl, h⟩ | ⟨h1, h2, h3, h4⟩)
    · exact ⟨Nat.le_refl _, h, fun t h1 h2 => by omega⟩
    · have := (List.getElem?_eq_some_iff.1 h1).1
      refine ⟨by omega, by omega, fun t h5 h6 => ?_⟩
      by_cases h : t = k
      · rw [h, h1]
      · exact h4 t h5 (by omega)
theorem at_first (P : List Tok) (k : Nat) : atP P [] k ↔ reachP P 0 k := by
  have hF : ∀ k, k ≤ P.length → (fitsT (P.take k) [] = true ↔ reachP P 0 k) := by
    intro k
    induction k with
    | zero => intro _; exact ⟨fun _ => ⟨Nat.le_refl _, Nat.zero_le _, fun t _ h => by omega⟩, fun _ => rfl⟩
    | succ k ih =>
      intro hk
      rw [reach_more]
      have hx : P[k]? = some P[k] := List.getElem?_eq_getElem (by omega)
      rw [take_more hx]
      cases hp : P[k] with
      | star =>
        rw [place_star0, ih (by omega), hx, hp]
        constructor
        · intro h; exact .inr ⟨rfl, h⟩
        · rintro (⟨h, _⟩ | ⟨_, h⟩)
          · cases h
          · exact h
      | any =>
        rw [place_any0, hx, hp]
        constructor
        · intro h; cases h
        · rintro (⟨h, _⟩ | ⟨h, _⟩) <;> cases h
      | ex c =>
        rw [place_ex0, hx, hp]
        constructor
        · intro h; cases h
        · rintro (⟨h, _⟩ | ⟨h, _⟩) <;> cases h
  unfold atP
  constructor
  · rintro ⟨h1, h2⟩
    split at h2
    · rename_i hs
      rw [take_more hs, place_star0] at h2
      exact (hF k h1).1 h2
    · exact (hF k h1).1 h2
  · intro h
    refine ⟨h.2.1, ?_⟩
    split
    · rename_i hs
      rw [take_more hs, place_star0]
      exact (hF k h.2.1).2 h
    · exact (hF k h.2.1).2 h
/-- A rune more. -/
theorem at_step (P : List Tok) (A : List ByteArray) (c : ByteArray) : ∀ k, atP P (A ++ [c]) k ↔ ∃ i, atP P A i ∧ i < P.length ∧ takeP P i c k := by
  -- what the signs ahead of k stand for, with a rune more
  have hX : ∀ k, k ≤ P.length → (fitsT (P.take k) (A ++ [c]) = true ↔ ∃ j, k = j + 1 ∧ ((P[j]? = some .star ∧ atP P (A ++ [c]) j) ∨ (P[j]? = some .any ∧ atP P A j) ∨ (P[j]? = some (.ex c) ∧ atP P A j))) := by
    intro k hk
    cases k with
    | zero =>
      rw [List.take_zero, fits_nil]
      constructor
      · intro h; simp at h
      · rintro ⟨j, h, _⟩; omega
    | succ j =>
      have hx : P[j]? = some P[j] := List.getElem?_eq_getElem (by omega)
      cases hp : P[j] with
      | star =>
        rw [hp] at hx
        constructor
        · intro h
          refine ⟨j, rfl, .inl ⟨hx, by omega, ?_⟩⟩
          rw [if_pos hx]
          exact h
        · rintro ⟨j', e, h⟩
          obtain rfl : j = j' := by omega
          rw [hx] at h
          rcases h with ⟨_, h⟩ | ⟨h, _⟩ | ⟨h, _⟩
          · have := h.2
            rw [if_pos hx] at this
            exact this
          · cases h
          · cases h
      | any =>
        rw [hp] at hx
        rw [take_more hx, place_any]
        constructor
        · intro h
          refine ⟨j, rfl, .inr (.inl ⟨hx, by omega, ?_⟩)⟩
          rw [if_neg (by rw [hx]; intro h; cases h)]
          exact h
        · rintro ⟨j', e, h⟩
          obtain rfl : j = j' := by omega
          rw [hx] at h
          rcases h with ⟨h, _⟩ | ⟨_, h⟩ | ⟨h, _⟩
          · cases h
          · have := h.2
            rw [if_neg (by rw [hx]; intro h; cases h)] at this
            exact this
          · cases h
      | ex x =>
        rw [hp] at hx
        rw [take_more hx, place_ex, Bool.and_eq_true, decide_eq_true_iff]
        constructor
        · rintro ⟨h, rfl⟩
          refine ⟨j, rfl, .inr (.inr ⟨hx, by omega, ?_⟩)⟩
          rw [if_neg (by rw [hx]; intro h; cases h)]
          exact h
        · rintro ⟨j', e, h⟩
          obtain rfl : j = j' := by omega
          rw [hx] at h
          rcases h with ⟨h, _⟩ | ⟨h, _⟩ | ⟨h0, h⟩
          · cases h
          · cases h
          · have := h.2
            rw [if_neg (by rw [hx]; intro h; cases h)] at this
            cases h0
            exact ⟨this, rfl⟩
  have hS : ∀ k, atP P (A ++ [c]) k ↔ (P[k]? = some .star ∧ atP P A k) ∨ (k ≤ P.length ∧ fitsT (P.take k) (A ++ [c]) = true) := by
    intro k
    unfold atP
    constructor
    · rintro ⟨h1, h2⟩
      split at h2
      · rename_i hs
        rw [take_more hs, place_star, Bool.or_eq_true] at h2
        rcases h2 with h2 | h2
        · exact .inr ⟨h1, h2⟩
        · refine .inl ⟨hs, h1, ?_⟩
          rw [if_pos hs, take_more hs]
          exact h2
      · exact .inr ⟨h1, h2⟩
    · rintro (⟨hs, h1, h2⟩ | ⟨h1, h2⟩)
      · refine ⟨h1, ?_⟩
        rw [if_pos hs] at h2 ⊢
        rw [take_more hs, place_star, Bool.or_eq_true]
        rw [take_more hs] at h2
        exact .inr h2
      · refine ⟨h1, ?_⟩
        split
        · rename_i hs
          rw [take_more hs, place_star, h2]
          rfl
        · exact h2
  have reach_self : ∀ k, k ≤ P.length → reachP P k k := fun k hk => ⟨Nat.le_refl _, hk, fun t _ _ => by omega⟩
  have star_le : ∀ {k : Nat} {x : Tok}, P[k]? = some x → k < P.length := fun h => (List.getElem?_eq_some_iff.1 h).1
  intro k
  induction k with
  | zero =>
    rw [hS]
    constructor
    · rintro (⟨h1, h2⟩ | ⟨h1, h2⟩)
      · exact ⟨0, h2, star_le h1, .inl ⟨h1, reach_self _ (Nat.zero_le _)⟩⟩
      · obtain ⟨j, h, _⟩ := (hX 0 h1).1 h2
        omega
    · rintro ⟨i, h1, h2, h3 | h3 | h3⟩
      · obtain ⟨h3, h4, h5, h6⟩ := h3
        obtain rfl : i = 0 := by omega
        exact .inl ⟨h3, h1⟩
      · obtain ⟨h3, h4, h5, h6⟩ := h3
        omega
      · obtain ⟨h3, h4, h5, h6⟩ := h3
        omega
  | succ k ih =>
    rw [hS]
    constructor
    · rintro (⟨h1, h2⟩ | ⟨h1, h2⟩)
      · exact ⟨k + 1, h2, star_le h1, .inl ⟨h1, reach_self _ (by have := star_le h1; omega)⟩⟩
      · obtain ⟨j, e, h⟩ := (hX (k + 1) h1).1 h2
        obtain rfl : k = j := by omega
        rcases h with ⟨h3, h4⟩ | ⟨h3, h4⟩ | ⟨h3, h4⟩
        · obtain ⟨i, h5, h6, h7⟩ := ih.1 h4
          refine ⟨i, h5, h6, ?_⟩
          rcases h7 with ⟨a, b⟩ | ⟨a, b⟩ | ⟨a, b⟩
          · exact .inl ⟨a, (reach_more P i k).2 (.inr ⟨h3, b⟩)⟩
          · exact .inr (.inl ⟨a, (reach_more P _ k).2 (.inr ⟨h3, b⟩)⟩)
          · exact .inr (.inr ⟨a, (reach_more P _ k).2 (.inr ⟨h3, b⟩)⟩)
        · exact ⟨k, h4, star_le h3, .inr (.inl ⟨h3, reach_self _ h1⟩)⟩
        · exact ⟨k, h4, star_le h3, .inr (.inr ⟨h3, reach_self _ h1⟩)⟩
    · rintro ⟨i, h1, h2, h3⟩
      have hgo : ∀ st, reachP P st (k + 1) → (st = k + 1 ∧ k + 1 ≤ P.length) ∨ (P[k]? = some .star ∧ reachP P st k) := fun st h => (reach_more P st k).1 h
      have hre : P[k]? = some .star → takeP P i c k → k + 1 ≤ P.length ∧ fitsT (P.take (k + 1)) (A ++ [c]) = true := fun hs ht => by
        have hk := star_le hs
        exact ⟨by omega, (hX (k + 1) (by omega)).2 ⟨k, rfl, .inl ⟨hs, ih.2 ⟨i, h1, h2, ht⟩⟩⟩⟩
      rcases h3 with ⟨a, b⟩ | ⟨a, b⟩ | ⟨a, b⟩
      · rcases hgo _ b with ⟨rfl, hk⟩ | ⟨hs, b⟩
        · exact .inl ⟨a, h1⟩
        · exact .inr (hre hs (.inl ⟨a, b⟩))
      · rcases hgo _ b with ⟨e, hk⟩ | ⟨hs, b⟩
        · obtain rfl : i = k := by omega
          exact .inr ⟨hk, (hX _ hk).2 ⟨i, rfl, .inr (.inl ⟨a, h1⟩)⟩⟩
        · exact .inr (hre hs (.inr (.inl ⟨a, b⟩)))
      · rcases hgo _ b with ⟨e, hk⟩ | ⟨hs, b⟩
        · obtain rfl : i = k := by omega
          exact .inr ⟨hk, (hX _ hk).2 ⟨i, rfl, .inr (.inr ⟨a, h1⟩)⟩⟩
        · exact .inr (hre hs (.inr (.inr ⟨a, b⟩)))
/-- At no place: never again. -/
theorem at_none {P : List Tok} {A : List ByteArray} (h : ∀ k, ¬ atP P A k) : ∀ B k, ¬ atP P (A ++ B) k := by
  refine snoc_ind ?_ ?_
  · rw [List.append_nil]; exact h
  · intro B c ih k hk
    rw [← List.append_assoc] at hk
    obtain ⟨i, h1, _⟩ := (at_step P _ c k).1 hk
    exact ih i h1
theorem at_last (P : List Tok) (A : List ByteArray) : atP P A P.length ↔ fitsT P A = true := by
  unfold atP
  rw [if_neg (by rw [List.getElem?_eq_none (Nat.le_refl _)]; intro h; cases h), List.take_length]
  exact ⟨fun h => h.2, fun h => ⟨Nat.le_refl _, h⟩⟩
end Go.Proofs.Ytekmdgjkadglmaa
