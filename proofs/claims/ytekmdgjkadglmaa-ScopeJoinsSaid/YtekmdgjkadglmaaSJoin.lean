
/- Plain mathematics of layer 5's statements: runes of parts, a pattern's signs of parts, a scope's terms of parts. Nothing of the program. -/
import Derived.Test.YtekmdgjkadglmaaSRefTerm
import Derived.Test.YtekmdgjkadglmaaLTell
namespace Go.Proofs.Ytekmdgjkadglmaa

theorem runes_app_some (t : List UInt8) : ∀ a : List UInt8, ∀ A, runesL a = some A → runesL (a ++ t) = (runesL t).map (A ++ ·) := by
  refine cnt_ind _ ?_ ?_ ?_
  · intro A h
    have h0 : runesL [] = some [] := rfl
    rw [h0] at h
    obtain rfl : [] = A := by simpa using h
    rw [List.nil_append]
    cases runesL t <;> simp
  · intro a ha hs A h
    rw [runes_wrong ha hs] at h
    cases h
  · intro a hs ih A h
    have e := sizeL_app a t hs
    rw [runes_step hs] at h
    cases hc : runesL (a.drop (sizeL a)) with
    | none => rw [hc] at h; cases h
    | some M =>
      rw [hc] at h
      obtain rfl : (⟨(a.take (sizeL a)).toArray⟩ : ByteArray) :: M = A := by simpa using h
      rw [runes_step (l := a ++ t) (by rw [e]; exact hs), e, drop_app_le _ _ _ (sizeL_le a), ih M hc, List.take_append_of_le_length (sizeL_le a)]
      cases runesL t <;> simp
theorem runes_some_iff (l : List UInt8) : (runesL l).isSome = (cntL l).isSome := by
  rw [← runes_cnt]
  cases runesL l <;> rfl
theorem runes_leads {t : List UInt8} {B : List ByteArray} (h : runesL t = some B) : leads t := by
  refine cnt_leads (m := B.length) ?_
  rw [← runes_cnt, h]
  rfl
/-- A right text whose end is right begins right. -/
theorem runes_drop {l : List UInt8} {R B : List ByteArray} {k : Nat} (hr : runesL l = some R) (h : runesL (l.drop k) = some B) : ∃ A, runesL (l.take k) = some A ∧ R = A ++ B := by
  have hl := runes_leads h
  have hc := cnt_app (l.drop k) hl (l.take k)
  rw [List.take_append_drop] at hc
  have h1 : (cntL l).isSome = true := by rw [← runes_some_iff, hr]; rfl
  cases hq : runesL (l.take k) with
  | none =>
    have : cntL (l.take k) = none := by
      have := runes_some_iff (l.take k)
      rw [hq] at this
      cases hh : cntL (l.take k) with
      | none => rfl
      | some _ => rw [hh] at this; cases this
    rw [this] at hc
    rw [hc] at h1
    cases h1
  | some A =>
    have := runes_app_some (l.drop k) _ A hq
    rw [List.take_append_drop, hr, h] at this
    exact ⟨A, rfl, by simpa using this⟩
theorem runes_take {l : List UInt8} {R A : List ByteArray} {k : Nat} (hr : runesL l = some R) (h : runesL (l.take k) = some A) : ∃ B, runesL (l.drop k) = some B ∧ R = A ++ B := by
  have := runes_app_some (l.drop k) _ A h
  rw [List.take_append_drop, hr] at this
  cases hq : runesL (l.drop k) with
  | none => rw [hq] at this; cases this
  | some B => rw [hq] at this; exact ⟨B, rfl, by simpa using this⟩
/-- Where runes part, bytes do. -/
theorem runes_part : ∀ l : List UInt8, ∀ A B, runesL l = some (A ++ B) → ∃ k, k ≤ l.length ∧ runesL (l.take k) = some A ∧ runesL (l.drop k) = some B := by
  refine cnt_ind _ ?_ ?_ ?_
  · intro A B h
    have h0 : runesL [] = some [] := rfl
    rw [h0] at h
    obtain ⟨rfl, rfl⟩ : A = [] ∧ B = [] := by
      have : [] = A ++ B := by simpa using h
      simpa using this.symm
    exact ⟨0, Nat.le_refl _, h0, h0⟩
  · intro l hl hs A B h
    rw [runes_wrong hl hs] at h
    cases h
  · intro l hs ih A B h
    have hle := sizeL_le l
    cases A with
    | nil => exact ⟨0, Nat.zero_le _, rfl, h⟩
    | cons x A =>
      rw [runes_step hs] at h
      cases hc : runesL (l.drop (sizeL l)) with
      | none => rw [hc] at h; cases h
      | some M =>
        rw [hc] at h
        obtain ⟨hx, hM⟩ : (⟨(l.take (sizeL l)).toArray⟩ : ByteArray) = x ∧ M = A ++ B := by simpa using h
        obtain ⟨k, hk, h1, h2⟩ := ih A B (by rw [hc, hM])
        rw [List.length_drop] at hk
        refine ⟨sizeL l + k, by omega, ?_, by rw [← h2, List.drop_drop]⟩
        have hsz : sizeL (l.take (sizeL l + k)) = sizeL l := by
          have ht : l.take (sizeL l + k) = l.take (sizeL l) ++ (l.drop (sizeL l)).take k := by rw [List.take_add]
          rw [ht, sizeL_app _ _ (by rw [(size_take hs).1]; exact hs), (size_take hs).1]
        rw [runes_step (by rw [hsz]; exact hs), hsz]
        have hd : (l.take (sizeL l + k)).drop (sizeL l) = (l.drop (sizeL l)).take k := by rw [List.drop_take]; congr 1; omega
        have ht : (l.take (sizeL l + k)).take (sizeL l) = l.take (sizeL l) := by rw [List.take_take, Nat.min_eq_left (by omega)]
        rw [hd, h1, ht, hx]
        rfl
theorem tok_app (B : List ByteArray) : ∀ A P, tokL A = some P → tokL (A ++ B) = (tokL B).map (P ++ ·)
  | [], P, h => by
    obtain rfl : [] = P := by simpa [tokL] using h
    rw [List.nil_append]
    cases tokL B <;> simp
  | [c], P, h => by
    by_cases hc : c = bTil
    · rw [tokL, if_pos hc] at h
      cases h
    · rw [tokL, if_neg hc] at h
      obtain rfl : [tok1 c] = P := by simpa using h
      show tokL (c :: B) = _
      rw [tokL_one hc]
      rfl
  | c :: d :: t, P, h => by
    by_cases hc : c = bTil
    · subst hc
      rw [tokL_til] at h
      cases ht : tokL t with
      | none => rw [ht] at h; cases h
      | some Q =>
        rw [ht] at h
        obtain rfl : Tok.ex d :: Q = P := by simpa using h
        show tokL (bTil :: d :: (t ++ B)) = _
        rw [tokL_til, tok_app B t Q ht]
        cases tokL B <;> simp
    · rw [tokL_one hc] at h
      cases ht : tokL (d :: t) with
      | none => rw [ht] at h; cases h
      | some Q =>
        rw [ht] at h
        obtain rfl : tok1 c :: Q = P := by simpa using h
        show tokL (c :: ((d :: t) ++ B)) = _
        rw [tokL_one hc, tok_app B (d :: t) Q ht]
        cases tokL B <;> simp
/-- Does a pattern stand for a value? -/
def fitsB (p v : ByteArray) : Bool := isPatB p && match runesL v.data.toList with
  | some R => fitsT ((tokL (runes0 p)).getD []) R
  | none => false
theorem pat_parts {p : ByteArray} (h : isPatB p = true) : ∃ R P, runesL p.data.toList = some R ∧ tokL R = some P ∧ ∀ v V, runesL v.data.toList = some V → fitsB p v = fitsT P V := by
  have h' := h
  unfold isPatB at h
  obtain ⟨h1, h2⟩ := (Bool.and_eq_true _ _).mp h
  have hv : valueB p.data.toList = true := by
    unfold rightB rightF at h2
    simp only [Bool.and_eq_true] at h2
    exact h2.1.1.2.1
  have hc : (cntL p.data.toList).isSome = true := by
    unfold valueB fewB at hv
    cases hq : cntL p.data.toList with
    | none => rw [hq] at hv; simp at hv
    | some _ => rfl
  rw [← runes_some_iff] at hc
  obtain ⟨R, hR⟩ := Option.isSome_iff_exists.1 hc
  have h0 : runes0 p = R := by unfold runes0; rw [hR]; rfl
  rw [h0] at h1
  obtain ⟨P, hP⟩ := Option.isSome_iff_exists.1 h1
  refine ⟨R, P, hR, hP, fun v V hV => ?_⟩
  unfold fitsB
  rw [h', hV, h0, hP]
  rfl
def starS : ByteArray := ⟨#[42]⟩
/-- A pattern, a star, another one: it parts. -/
theorem fits_joined {p q v : ByteArray} {V : List ByteArray} (hp : isPatB p = true) (hq : isPatB q = true) (ha : isPatB (p ++ starS ++ q) = true) (hv : runesL v.data.toList = some V) :
    fitsB (p ++ starS ++ q) v = true ↔ ∃ i k : Nat, i ≤ k ∧ k ≤ v.size ∧ (runesL (v.extract 0 i).data.toList).isSome = true ∧ fitsB p (v.extract 0 i) = true ∧
      (runesL (v.extract k v.size).data.toList).isSome = true ∧ fitsB q (v.extract k v.size) = true := by
  obtain ⟨Rp, P, hRp, hP, fp⟩ := pat_parts hp
  obtain ⟨Rq, Q, hRq, hQ, fq⟩ := pat_parts hq
  obtain ⟨Ra, PA, hRa, hPA, fa⟩ := pat_parts ha
  have e1 : runesL (starS.data.toList ++ q.data.toList) = some (starS :: Rq) := by
    rw [runes_app_some _ starS.data.toList [starS] rfl, hRq]
    rfl
  have e2 : runesL (p ++ starS ++ q).data.toList = some (Rp ++ starS :: Rq) := by
    rw [appL, appL, List.append_assoc, runes_app_some _ _ _ hRp, e1]
    rfl
  rw [hRa] at e2
  obtain rfl : Ra = Rp ++ starS :: Rq := by simpa using e2
  have e3 : tokL (starS :: Rq) = some (.star :: Q) := by
    rw [tokL_one (by decide), hQ]
    rfl
  rw [tok_app _ _ _ hP, e3] at hPA
  obtain rfl : P ++ .star :: Q = PA := by simpa using hPA
  have x1 : ∀ i, (v.extract 0 i).data.toList = v.data.toList.take i := fun i => by rw [extL, List.drop_zero]
  have x2 : ∀ k, (v.extract k v.size).data.toList = v.data.toList.drop k := fun k => by rw [extL, List.take_of_length_le (by rw [lenL]; exact Nat.le_refl _)]
  rw [fa v V hv, fits_joins]
  constructor
  · rintro ⟨a, m, b, rfl, ha, hb⟩
    obtain ⟨i, hi, h1, h2⟩ := runes_part _ _ _ hv
    obtain ⟨j, hj, h3, h4⟩ := runes_part _ _ _ h2
    rw [List.length_drop, lenL] at hj
    rw [lenL] at hi
    rw [List.drop_drop] at h4
    have y1 : runesL (v.extract 0 i).data.toList = some a := by rw [x1, h1]
    have y2 : runesL (v.extract (i + j) v.size).data.toList = some b := by rw [x2, h4]
    exact ⟨i, i + j, by omega, by omega, by rw [y1]; rfl, by rw [fp _ _ y1]; exact ha, by rw [y2]; rfl, by rw [fq _ _ y2]; exact hb⟩
  · rintro ⟨i, k, hik, hk, h1, h2, h3, h4⟩
    obtain ⟨a, y1⟩ := Option.isSome_iff_exists.1 h1
    obtain ⟨b, y2⟩ := Option.isSome_iff_exists.1 h3
    rw [fp _ _ y1] at h2
    rw [fq _ _ y2] at h4
    rw [x1] at y1
    rw [x2] at y2
    obtain ⟨c, y3, rfl⟩ := runes_drop hv y2
    have y4 : runesL ((v.data.toList.take k).take i) = some a := by rw [List.take_take, Nat.min_eq_left hik, y1]
    obtain ⟨m, _, rfl⟩ := runes_take y3 y4
    exact ⟨a, m, b, by rw [List.append_assoc], h2, h4⟩
/-- A scope's terms. -/
theorem split_app : ∀ (l cur m : List UInt8), splitF cur (l ++ 59 :: m) = splitF cur l ++ splitF [] m := by
  intro l
  induction l with
  | nil => intro cur m; simp [splitF]
  | cons c l ih =>
    intro cur m
    have hs : ∀ k, splitF cur (c :: k) = if c = 59 then ⟨cur.toArray⟩ :: splitF [] k else splitF (cur ++ [c]) k := fun _ => rfl
    rw [List.cons_append, hs, hs]
    by_cases h : c = 59
    · rw [if_pos h, if_pos h, ih]
      rfl
    · rw [if_neg h, if_neg h, ih]
def semi : ByteArray := ⟨#[59]⟩
theorem terms_app (s t : ByteArray) : termsL (s ++ semi ++ t) = termsL s ++ termsL t := by
  unfold termsL
  rw [appL, appL, List.append_assoc]
  exact split_app _ _ _
/-- Does a term mean labels? -/
def termMeans (L : List Lab) (t : ByteArray) : Bool := match getLb L (termB t).1 with
  | some v => fitsB (termB t).2 v
  | none => false
/-- Are these terms a scope's: names rising behind 'last', each with its pattern? -/
def termsRight (last : ByteArray) : List ByteArray → Bool
  | [] => true
  | t :: r => nameB (termB t).1.data.toList && isPatB (termB t).2 && decide (Lib.compareBytes last.data.toList (termB t).1.data.toList < 0) && termsRight (termB t).1 r
def scopeB (s : ByteArray) : Bool := decide (s.size = 0) || (termsRight { data := #[] } (termsL s) && decide ((termsL s).length ≤ 4))
def meansB (s : ByteArray) (L : List Lab) : Bool := decide (s.size = 0) || (termsL s).all (termMeans L)
/-- What Means answers. -/
def MeansV (s : ByteArray) (L : List Lab) : Value := if scopeB s && rightB L then .tuple #[.bool (meansB s L), .int .i64 0] else .tuple #[.bool false, .int .i64 50]
theorem means_join {s t : ByteArray} (hs : s.size ≠ 0) (ht : t.size ≠ 0) (L : List Lab) : meansB (s ++ semi ++ t) L = (meansB s L && meansB t L) := by
  unfold meansB
  rw [terms_app, List.all_append]
  simp [hs, ht]
theorem scope_empty : scopeB { data := #[] } = true := rfl
theorem means_empty (L : List Lab) : meansB { data := #[] } L = true := rfl
end Go.Proofs.Ytekmdgjkadglmaa
