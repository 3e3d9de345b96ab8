
/- Plain mathematics: patterns (stage 5): what a pattern of signs stands for. Nothing of the program. -/
import Derived.Test.YtekmdgjkadglmaaLMath
namespace Go.Proofs.Ytekmdgjkadglmaa

/-- A sign of a pattern: any runes, any one rune, this rune. -/
inductive Tok where
  | star
  | any
  | ex (c : ByteArray)
def bStar : ByteArray := ⟨#[42]⟩
def bAny : ByteArray := ⟨#[63]⟩
def bTil : ByteArray := ⟨#[126]⟩
def tok1 (c : ByteArray) : Tok := if c = bStar then .star else if c = bAny then .any else .ex c
/-- A pattern's signs, from its runes; none: a '~' with nothing behind it. -/
def tokL : List ByteArray → Option (List Tok)
  | [] => some []
  | [c] => if c = bTil then none else some [tok1 c]
  | c :: d :: t => if c = bTil then (tokL t).map (.ex d :: ·) else (tokL (d :: t)).map (tok1 c :: ·)
theorem tokL_til (d : ByteArray) (t : List ByteArray) : tokL (bTil :: d :: t) = (tokL t).map (.ex d :: ·) := by rw [tokL, if_pos rfl]
theorem tokL_one {c : ByteArray} (h : c ≠ bTil) (t : List ByteArray) : tokL (c :: t) = (tokL t).map (tok1 c :: ·) := by
  cases t with
  | nil => simp [tokL, h]
  | cons d t => rw [tokL, if_neg h]

def starF (f : List ByteArray → Bool) : List ByteArray → Bool
  | [] => f []
  | c :: v => f (c :: v) || starF f v
def nextF (q : ByteArray → Bool) (f : List ByteArray → Bool) : List ByteArray → Bool
  | [] => false
  | c :: v => q c && f v
/-- Do signs stand for runes? -/
def fitsT : List Tok → List ByteArray → Bool
  | [] => fun v => v.isEmpty
  | .star :: t => starF (fitsT t)
  | .any :: t => nextF (fun _ => true) (fitsT t)
  | .ex x :: t => nextF (fun c => decide (x = c)) (fitsT t)
theorem starF_iff (f : List ByteArray → Bool) : ∀ v, starF f v = true ↔ ∃ a b, v = a ++ b ∧ f b = true := by
  intro v
  induction v with
  | nil =>
    constructor
    · intro h; exact ⟨[], [], rfl, h⟩
    · rintro ⟨a, b, he, hb⟩
      obtain ⟨rfl, rfl⟩ : a = [] ∧ b = [] := by simpa using he.symm
      exact hb
  | cons c v ih =>
    show (f (c :: v) || starF f v) = true ↔ _
    rw [Bool.or_eq_true, ih]
    constructor
    · rintro (h | ⟨a, b, rfl, hb⟩)
      · exact ⟨[], _, rfl, h⟩
      · exact ⟨c :: a, b, rfl, hb⟩
    · rintro ⟨a, b, he, hb⟩
      cases a with
      | nil => exact .inl (by rw [he]; exact hb)
      | cons d a =>
        obtain ⟨rfl, rfl⟩ : c = d ∧ v = a ++ b := by simpa using he
        exact .inr ⟨a, b, rfl, hb⟩
theorem nextF_iff (q : ByteArray → Bool) (f : List ByteArray → Bool) (v : List ByteArray) : nextF q f v = true ↔ ∃ c b, v = c :: b ∧ q c = true ∧ f b = true := by
  cases v with
  | nil => simp [nextF]
  | cons c v =>
    show (q c && f v) = true ↔ _
    rw [Bool.and_eq_true]
    constructor
    · intro h; exact ⟨c, v, rfl, h.1, h.2⟩
    · rintro ⟨d, b, he, h1, h2⟩
      obtain ⟨rfl, rfl⟩ : c = d ∧ v = b := by simpa using he
      exact ⟨h1, h2⟩
theorem fits_nil (v : List ByteArray) : fitsT [] v = true ↔ v = [] := by
  show v.isEmpty = true ↔ _
  exact List.isEmpty_iff
/-- A pattern of two parts. -/
theorem fits_app : ∀ (p q : List Tok) (v : List ByteArray), fitsT (p ++ q) v = true ↔ ∃ a b, v = a ++ b ∧ fitsT p a = true ∧ fitsT q b = true := by
  intro p q
  induction p with
  | nil =>
    intro v
    constructor
    · intro h; exact ⟨[], v, rfl, (fits_nil _).2 rfl, h⟩
    · rintro ⟨a, b, rfl, ha, hb⟩
      obtain rfl := (fits_nil _).1 ha
      exact hb
  | cons x p ih =>
    intro v
    have hnext : ∀ qf : ByteArray → Bool, nextF qf (fitsT (p ++ q)) v = true ↔ ∃ a b, v = a ++ b ∧ nextF qf (fitsT p) a = true ∧ fitsT q b = true := fun qf => by
      rw [nextF_iff]
      constructor
      · rintro ⟨c, b, rfl, h1, h2⟩
        obtain ⟨a, b', rfl, h3, h4⟩ := (ih b).1 h2
        exact ⟨c :: a, b', rfl, (nextF_iff _ _ _).2 ⟨c, a, rfl, h1, h3⟩, h4⟩
      · rintro ⟨a, b, rfl, h1, h2⟩
        obtain ⟨c, a', rfl, h3, h4⟩ := (nextF_iff _ _ _).1 h1
        exact ⟨c, a' ++ b, rfl, h3, (ih _).2 ⟨a', b, rfl, h4, h2⟩⟩
    cases x with
    | star =>
      show starF (fitsT (p ++ q)) v = true ↔ _
      rw [starF_iff]
      constructor
      · rintro ⟨m, b, rfl, h⟩
        obtain ⟨a, b', rfl, h3, h4⟩ := (ih b).1 h
        exact ⟨m ++ a, b', by rw [List.append_assoc], (starF_iff _ _).2 ⟨m, a, rfl, h3⟩, h4⟩
      · rintro ⟨a, b, rfl, h1, h2⟩
        obtain ⟨m, a', rfl, h3⟩ := (starF_iff _ _).1 h1
        exact ⟨m, a' ++ b, by rw [List.append_assoc], (ih _).2 ⟨a', b, rfl, h3, h2⟩⟩
    | any => exact hnext _
    | ex c => exact hnext _
theorem fits_one_star (v : List ByteArray) : fitsT [.star] v = true := (starF_iff _ _).2 ⟨v, [], by simp, rfl⟩
theorem fits_one_any (v : List ByteArray) : fitsT [.any] v = true ↔ ∃ c, v = [c] := by
  show nextF _ _ v = true ↔ _
  rw [nextF_iff]
  constructor
  · rintro ⟨c, b, rfl, _, h⟩
    obtain rfl := (fits_nil _).1 h
    exact ⟨c, rfl⟩
  · rintro ⟨c, rfl⟩
    exact ⟨c, [], rfl, rfl, rfl⟩
theorem fits_one_ex (x : ByteArray) (v : List ByteArray) : fitsT [.ex x] v = true ↔ v = [x] := by
  show nextF _ _ v = true ↔ _
  rw [nextF_iff]
  constructor
  · rintro ⟨c, b, rfl, h1, h⟩
    obtain rfl := (fits_nil _).1 h
    obtain rfl : x = c := by simpa using h1
    rfl
  · rintro rfl
    exact ⟨x, [], rfl, by simp, rfl⟩
/-- A pattern, a star, another one. -/
theorem fits_joins (p q : List Tok) (v : List ByteArray) : fitsT (p ++ .star :: q) v = true ↔ ∃ a m b, v = a ++ (m ++ b) ∧ fitsT p a = true ∧ fitsT q b = true := by
  rw [fits_app]
  constructor
  · rintro ⟨a, b, rfl, h1, h2⟩
    obtain ⟨m, b', rfl, h3⟩ := (starF_iff _ _).1 h2
    exact ⟨a, m, b', rfl, h1, h3⟩
  · rintro ⟨a, m, b, rfl, h1, h2⟩
    exact ⟨a, m ++ b, rfl, h1, (starF_iff _ _).2 ⟨m, b, rfl, h2⟩⟩
/-- Place by place: one sign more, one rune more. -/
theorem place_star0 (p : List Tok) : fitsT (p ++ [.star]) [] = fitsT p [] := by
  rw [Bool.eq_iff_iff, fits_app]
  constructor
  · rintro ⟨a, b, he, h1, _⟩
    obtain ⟨rfl, rfl⟩ : a = [] ∧ b = [] := by simpa using he.symm
    exact h1
  · intro h; exact ⟨[], [], rfl, h, rfl⟩
theorem place_star (p : List Tok) (v : List ByteArray) (c : ByteArray) : fitsT (p ++ [.star]) (v ++ [c]) = (fitsT p (v ++ [c]) || fitsT (p ++ [.star]) v) := by
  rw [Bool.eq_iff_iff, Bool.or_eq_true, fits_app, fits_app]
  constructor
  · rintro ⟨a, b, he, h1, _⟩
    rcases List.eq_nil_or_concat b with rfl | ⟨b', d, rfl⟩
    · exact .inl (by rw [he, List.append_nil]; exact h1)
    · rw [List.concat_eq_append, ← List.append_assoc] at he
      have h3 := List.append_inj' he rfl
      exact .inr ⟨a, b', h3.1, h1, fits_one_star _⟩
  · rintro (h | ⟨a, b, rfl, h1, _⟩)
    · exact ⟨v ++ [c], [], by simp, h, rfl⟩
    · exact ⟨a, b ++ [c], by rw [List.append_assoc], h1, fits_one_star _⟩
theorem place_one0 (p : List Tok) (x : Tok) (hx : ∀ b, fitsT [x] b = true → b ≠ []) : fitsT (p ++ [x]) [] = false := by
  rw [← Bool.not_eq_true, fits_app]
  rintro ⟨a, b, he, _, h2⟩
  obtain ⟨rfl, rfl⟩ : a = [] ∧ b = [] := by simpa using he.symm
  exact hx _ h2 rfl
theorem place_any0 (p : List Tok) : fitsT (p ++ [.any]) [] = false := place_one0 p _ fun b h e => by
  obtain ⟨c, hc⟩ := (fits_one_any b).1 h
  rw [e] at hc
  cases hc
theorem place_ex0 (p : List Tok) (x : ByteArray) : fitsT (p ++ [.ex x]) [] = false := place_one0 p _ fun b h e => by
  have hc := (fits_one_ex x b).1 h
  rw [e] at hc
  cases hc
theorem place_any (p : List Tok) (v : List ByteArray) (c : ByteArray) : fitsT (p ++ [.any]) (v ++ [c]) = fitsT p v := by
  rw [Bool.eq_iff_iff, fits_app]
  constructor
  · rintro ⟨a, b, he, h1, h2⟩
    obtain ⟨d, rfl⟩ := (fits_one_any b).1 h2
    rw [(List.append_inj' he rfl).1]
    exact h1
  · intro h; exact ⟨v, [c], rfl, h, (fits_one_any _).2 ⟨c, rfl⟩⟩
theorem place_ex (p : List Tok) (x : ByteArray) (v : List ByteArray) (c : ByteArray) : fitsT (p ++ [.ex x]) (v ++ [c]) = (fitsT p v && decide (x = c)) := by
  rw [Bool.eq_iff_iff, Bool.and_eq_true, fits_app]
  constructor
  · rintro ⟨a, b, he, h1, h2⟩
    obtain rfl := (fits_one_ex x b).1 h2
    obtain ⟨h3, h4⟩ := List.append_inj' he rfl
    rw [h3]
    exact ⟨h1, by have : c = x := by simpa using h4
                  simp [this]⟩
  · rintro ⟨h1, h2⟩
    obtain rfl : x = c := by simpa using h2
    exact ⟨v, [x], rfl, h1, (fits_one_ex _ _).2 rfl⟩
theorem fits_back : ∀ (p : List Tok) (v : List ByteArray), fitsT p.reverse v.reverse = fitsT p v := by
  intro p
  induction p with
  | nil => intro v; show v.reverse.isEmpty = v.isEmpty; simp
  | cons x p ih =>
    intro v
    have h1 : ∀ b, fitsT [x] b.reverse = true ↔ fitsT [x] b = true := fun b => by
      cases x with
      | star => exact ⟨fun _ => fits_one_star _, fun _ => fits_one_star _⟩
      | any =>
        rw [fits_one_any, fits_one_any]
        exact ⟨fun ⟨c, h⟩ => ⟨c, by have := congrArg List.reverse h; simpa using this⟩, fun ⟨c, h⟩ => ⟨c, by rw [h]; rfl⟩⟩
      | ex c =>
        rw [fits_one_ex, fits_one_ex]
        exact ⟨fun h => by have := congrArg List.reverse h; simpa using this, fun h => by rw [h]; rfl⟩
    rw [Bool.eq_iff_iff, List.reverse_cons, fits_app, show x :: p = [x] ++ p from rfl, fits_app]
    constructor
    · rintro ⟨a, b, he, h2, h3⟩
      refine ⟨b.reverse, a.reverse, by rw [← List.reverse_append, ← he, List.reverse_reverse], (h1 _).2 h3, ?_⟩
      rw [← ih, List.reverse_reverse]
      exact h2
    · rintro ⟨a, b, rfl, h2, h3⟩
      exact ⟨b.reverse, a.reverse, by rw [List.reverse_append], by rw [ih]; exact h3, (h1 _).2 h2⟩

/-- A value, quoted. -/
def quoteC (c : ByteArray) : List ByteArray := if c = bStar ∨ c = bAny ∨ c = bTil then [bTil, c] else [c]
def quoteL (v : List ByteArray) : List ByteArray := v.flatMap quoteC
theorem tok_quote : ∀ v : List ByteArray, tokL (quoteL v) = some (v.map .ex) := by
  intro v
  induction v with
  | nil => rfl
  | cons c v ih =>
    have e : quoteL (c :: v) = quoteC c ++ quoteL v := by simp [quoteL]
    rw [e]
    unfold quoteC
    by_cases h : c = bStar ∨ c = bAny ∨ c = bTil
    · rw [if_pos h]
      show tokL (bTil :: c :: quoteL v) = _
      rw [tokL_til, ih]
      rfl
    · rw [if_neg h]
      show tokL (c :: quoteL v) = _
      rw [tokL_one (fun e => h (.inr (.inr e))), ih]
      have : tok1 c = .ex c := by unfold tok1; rw [if_neg (fun e => h (.inl e)), if_neg (fun e => h (.inr (.inl e)))]
      rw [this]
      rfl
theorem fits_exact : ∀ v w : List ByteArray, fitsT (v.map .ex) w = decide (v = w) := by
  intro v
  induction v with
  | nil =>
    intro w
    rw [Bool.eq_iff_iff, decide_eq_true_iff]
    exact (fits_nil w).trans eq_comm
  | cons x v ih =>
    intro w
    rw [Bool.eq_iff_iff, decide_eq_true_iff]
    show nextF _ _ w = true ↔ _
    rw [nextF_iff]
    constructor
    · rintro ⟨c, b, rfl, h1, h2⟩
      rw [ih] at h2
      obtain rfl : x = c := by simpa using h1
      rw [of_decide_eq_true h2]
    · rintro rfl
      exact ⟨x, v, rfl, by simp, by rw [ih]; simp⟩
end Go.Proofs.Ytekmdgjkadglmaa
