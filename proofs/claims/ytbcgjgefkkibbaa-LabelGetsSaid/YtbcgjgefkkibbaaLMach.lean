/- Plain mathematics: labels read byte by byte. -/
import Derived.Test.YtbcgjgefkkibbaaLReadT
import Derived.Test.YtbcgjgefkkibbaaLTell
namespace Go.Proofs.Ytbcgjgefkkibbaa
open Go.RowKit

/-- A byte is taken. -/
def stepB (s : RdS) (c : UInt8) : RdS := match s.md with
  | .name => if c = 61 then { s with md := .value } else { s with nm := s.nm ++ ⟨#[c]⟩ }
  | .value => if c = 44 then ⟨.name, { data := #[] }, { data := #[] }, s.done ++ [(s.nm, s.v)]⟩ else if c = 92 then { s with md := .quoted } else { s with v := s.v ++ ⟨#[c]⟩ }
  | .quoted => { s with md := .value, v := s.v ++ ⟨#[c]⟩ }
theorem ba_assoc (a b c : ByteArray) : (a ++ b) ++ c = a ++ (b ++ c) := baL (by simp only [appL, List.append_assoc])
theorem ba_cons (c : UInt8) (l : List UInt8) : (⟨#[c]⟩ : ByteArray) ++ ⟨l.toArray⟩ = ⟨(c :: l).toArray⟩ := baL (by rw [appL]; rfl)
theorem ba_app (a : ByteArray) (c : UInt8) (l : List UInt8) : (a ++ ⟨#[c]⟩) ++ (⟨l.toArray⟩ : ByteArray) = a ++ ⟨(c :: l).toArray⟩ := by rw [ba_assoc, ba_cons]
theorem ba_empty (a : ByteArray) : a ++ (⟨([] : List UInt8).toArray⟩ : ByteArray) = a := baL (by rw [appL]; simp)
theorem ba_of (a : ByteArray) (l : List UInt8) (h : a.data.toList = l) : a = ⟨l.toArray⟩ := baL (by rw [h])
/-- Bytes that mean nothing. -/
theorem run_name (nm v : ByteArray) (D : List Lab) : ∀ (l : List UInt8) , (∀ c ∈ l, c ≠ 61) → l.foldl stepB ⟨.name, nm, v, D⟩ = ⟨.name, nm ++ ⟨l.toArray⟩, v, D⟩ := by
  intro l
  induction l generalizing nm with
  | nil => intro _; rw [ba_empty]; rfl
  | cons c l ih =>
    intro h
    have h1 := h c (List.mem_cons_self ..)
    have hs : stepB ⟨.name, nm, v, D⟩ c = ⟨.name, nm ++ ⟨#[c]⟩, v, D⟩ := by show (if c = 61 then _ else _) = _; rw [if_neg h1]
    rw [List.foldl_cons, hs, ih (nm ++ ⟨#[c]⟩) fun d hd => h d (List.mem_cons_of_mem _ hd), ba_app]
theorem run_value (nm v : ByteArray) (D : List Lab) : ∀ (l : List UInt8), (∀ c ∈ l, c ≠ 44 ∧ c ≠ 92) → l.foldl stepB ⟨.value, nm, v, D⟩ = ⟨.value, nm, v ++ ⟨l.toArray⟩, D⟩ := by
  intro l
  induction l generalizing v with
  | nil => intro _; rw [ba_empty]; rfl
  | cons c l ih =>
    intro h
    obtain ⟨h1, h2⟩ := h c (List.mem_cons_self ..)
    have hs : stepB ⟨.value, nm, v, D⟩ c = ⟨.value, nm, v ++ ⟨#[c]⟩, D⟩ := by show (if c = 44 then _ else if c = 92 then _ else _) = _; rw [if_neg h1, if_neg h2]
    rw [List.foldl_cons, hs, ih (v ++ ⟨#[c]⟩) fun d hd => h d (List.mem_cons_of_mem _ hd), ba_app]
/-- A rune, byte by byte. -/
theorem step_rune {l : List UInt8} {r k : Nat} (hl : l ≠ []) (h : RuneAt l r k) (s : RdS) : stepR (r : Int) s = (l.take k).foldl stepB s := by
  obtain ⟨md, nm, v, D⟩ := s
  have he : Utf8.encode (r : Int) = ⟨(l.take k).toArray⟩ := ba_of _ _ h.enc
  rcases h.ascii with ⟨a1, rfl, a3⟩ | ⟨a1, a2⟩
  · cases l with
    | nil => exact absurd rfl hl
    | cons c l =>
      simp only [List.getD_cons_zero] at a3
      have ht : (c :: l).take 1 = [c] := rfl
      rw [ht] at he ⊢
      have hq : ∀ q : UInt8, (r : Int) = (q.toNat : Int) ↔ c = q := fun q => by
        rw [a3]
        constructor
        · intro e; exact UInt8.toNat_inj.1 (by omega)
        · intro e; rw [e]
      show _ = stepB _ c
      unfold stepR stepB
      rw [he]
      cases md with
      | name =>
        have this : (r : Int) = 61 ↔ c = 61 := hq 61
        by_cases e : c = 61
        · dsimp only; rw [if_pos e, if_pos (this.2 e)]
        · dsimp only; rw [if_neg e, if_neg fun h => e (this.1 h)]
      | value =>
        have h1 : (r : Int) = 44 ↔ c = 44 := hq 44
        have h2 : (r : Int) = 92 ↔ c = 92 := hq 92
        by_cases e : c = 44
        · dsimp only; rw [if_pos e, if_pos (h1.2 e)]
        · dsimp only
          rw [if_neg e, if_neg fun h => e (h1.1 h)]
          by_cases e2 : c = 92
          · rw [if_pos e2, if_pos (h2.2 e2)]
          · rw [if_neg e2, if_neg fun h => e2 (h2.1 h)]
      | quoted => rfl
  · have hb : ∀ c ∈ l.take k, c ≠ 61 ∧ c ≠ 44 ∧ c ≠ 92 := fun c hc => by
      have := a2 c hc
      exact ⟨fun e => by rw [e] at this; exact absurd this (by decide), fun e => by rw [e] at this; exact absurd this (by decide), fun e => by rw [e] at this; exact absurd this (by decide)⟩
    cases md with
    | name =>
      rw [run_name nm v D _ fun c hc => (hb c hc).1, ← he]
      show (if (r : Int) = 61 then _ else _) = _
      rw [if_neg (by omega)]
    | value =>
      rw [run_value nm v D _ fun c hc => (hb c hc).2, ← he]
      show (if (r : Int) = 44 then _ else if (r : Int) = 92 then _ else _) = _
      rw [if_neg (by omega), if_neg (by omega)]
    | quoted =>
      have hk := h.pos
      cases l with
      | nil => exact absurd rfl hl
      | cons c l =>
        obtain ⟨k, rfl⟩ : ∃ m, k = m + 1 := ⟨k - 1, by omega⟩
        rw [List.take_succ_cons] at hb he ⊢
        rw [List.foldl_cons]
        show (⟨.value, nm, v ++ Utf8.encode (r : Int), D⟩ : RdS) = (l.take k).foldl stepB ⟨.value, nm, v ++ ⟨#[c]⟩, D⟩
        rw [run_value nm _ D _ fun d hd => (hb d (List.mem_cons_of_mem _ hd)).2, ba_app, ← he]

/-- Labels one after another, as they stand in a text. -/
def labsO : Nat → List UInt8 → Option (List Lab)
  | 0, _ => none
  | _ + 1, [] => some []
  | n + 1, _ :: t => match oneL t with
    | none => none
    | some (x, y, r) => (labsO n r).map ((⟨x.toArray⟩, ⟨y.toArray⟩) :: ·)
theorem labs_of : ∀ (n : Nat) (l : List UInt8) (A : List Lab), labsL n l A = (labsO n l).map fun M => M.foldl insL A := by
  intro n
  induction n with
  | zero => intro l A; rfl
  | succ n ih =>
    intro l A
    cases l with
    | nil => rfl
    | cons c t =>
      show (match oneL t with | none => none | some (x, y, r) => labsL n r (insL A (⟨x.toArray⟩, ⟨y.toArray⟩))) = Option.map _ (match oneL t with | none => none | some (x, y, r) => (labsO n r).map ((⟨x.toArray⟩, ⟨y.toArray⟩) :: ·))
      cases oneL t with
      | none => rfl
      | some q =>
        obtain ⟨x, y, r⟩ := q
        dsimp only
        rw [ih]
        cases labsO n r <;> rfl
theorem cut_eq : ∀ (l a b : List UInt8), cutEq l = some (a, b) → l = a ++ 61 :: b ∧ ∀ c ∈ a, c ≠ 61 := by
  intro l
  induction l with
  | nil => intro a b h; simp [cutEq] at h
  | cons c t ih =>
    intro a b h
    unfold cutEq at h
    split at h
    · rename_i hc
      simp at h
      obtain ⟨rfl, rfl⟩ := h
      subst hc
      exact ⟨rfl, by simp⟩
    · rename_i hc
      cases hq : cutEq t with
      | none => rw [hq] at h; simp at h
      | some r =>
        rw [hq] at h
        simp at h
        obtain ⟨rfl, rfl⟩ := h
        obtain ⟨h1, h2⟩ := ih r.1 r.2 hq
        refine ⟨by rw [h1]; rfl, fun d hd => ?_⟩
        rcases List.mem_cons.1 hd with rfl | hd
        · exact hc
        · exact h2 d hd
theorem cut_no : ∀ l : List UInt8, cutEq l = none → ∀ c ∈ l, c ≠ 61 := by
  intro l
  induction l with
  | nil => intro _ c hc; simp at hc
  | cons c t ih =>
    intro h d hd
    unfold cutEq at h
    split at h
    · simp at h
    · rename_i hc
      rcases List.mem_cons.1 hd with rfl | hd
      · exact hc
      · exact ih (by cases hq : cutEq t with | none => rfl | some r => rw [hq] at h; simp at h) d hd
/-- A value, byte by byte. -/
theorem run_valN (nm : ByteArray) (D : List Lab) : ∀ (n : Nat) (t : List UInt8) (v : ByteArray), t.length ≤ n →
    (∀ y r, valL t = some (y, r) → (∃ pre, t = pre ++ r ∧ pre.foldl stepB ⟨.value, nm, v, D⟩ = ⟨.value, nm, v ++ ⟨y.toArray⟩, D⟩) ∧ (r = [] ∨ ∃ r', r = 44 :: r')) ∧
    (valL t = none → ∃ v', t.foldl stepB ⟨.value, nm, v, D⟩ = ⟨.quoted, nm, v', D⟩) := by
  intro n
  induction n with
  | zero =>
    intro t v ht
    obtain rfl : t = [] := List.length_eq_zero_iff.1 (by omega)
    refine ⟨fun y r h => ?_, fun h => by simp [valL] at h⟩
    simp [valL] at h
    obtain ⟨rfl, rfl⟩ := h
    exact ⟨⟨[], rfl, by rw [ba_empty]; rfl⟩, .inl rfl⟩
  | succ n ih =>
    intro t v ht
    have hcomma : ∀ c t', c = 44 → valL (c :: t') = some ([], c :: t') := fun c t' hc => by cases t' <;> simp [valL, hc]
    match t, ht with
    | [], _ =>
      refine ⟨fun y r h => ?_, fun h => by simp [valL] at h⟩
      simp [valL] at h
      obtain ⟨rfl, rfl⟩ := h
      exact ⟨⟨[], rfl, by rw [ba_empty]; rfl⟩, .inl rfl⟩
    | c :: t', ht =>
      simp only [List.length_cons] at ht
      by_cases hc : c = 44
      · rw [hcomma c t' hc]
        refine ⟨fun y r h => ?_, fun h => by simp at h⟩
        simp at h
        obtain ⟨rfl, rfl⟩ := h
        exact ⟨⟨[], rfl, by rw [ba_empty]; rfl⟩, .inr ⟨t', by rw [hc]⟩⟩
      · by_cases hq : c = 92
        · have hs : stepB ⟨.value, nm, v, D⟩ c = ⟨.quoted, nm, v, D⟩ := by show (if c = 44 then _ else if c = 92 then _ else _) = _; rw [if_neg hc, if_pos hq]
          match t', ht with
          | [], _ =>
            rw [valL_one, if_neg hc, if_pos hq]
            exact ⟨fun y r h => by simp at h, fun _ => ⟨v, by rw [List.foldl_cons, hs]; rfl⟩⟩
          | d :: t'', ht =>
            simp only [List.length_cons] at ht
            rw [valL_cons2, if_neg hc, if_pos hq]
            have hd : stepB ⟨.quoted, nm, v, D⟩ d = ⟨.value, nm, v ++ ⟨#[d]⟩, D⟩ := rfl
            obtain ⟨i1, i2⟩ := ih t'' (v ++ ⟨#[d]⟩) (by omega)
            refine ⟨fun y r h => ?_, fun h => ?_⟩
            · cases hv : valL t'' with
              | none => rw [hv] at h; simp at h
              | some q =>
                rw [hv] at h
                simp at h
                obtain ⟨rfl, rfl⟩ := h
                obtain ⟨⟨pre, h1, h2⟩, h3⟩ := i1 q.1 q.2 hv
                exact ⟨⟨c :: d :: pre, by rw [h1]; rfl, by rw [List.foldl_cons, hs, List.foldl_cons, hd, h2, ba_app]⟩, h3⟩
            · cases hv : valL t'' with
              | none =>
                obtain ⟨v', h1⟩ := i2 hv
                exact ⟨v', by rw [List.foldl_cons, hs, List.foldl_cons, hd, h1]⟩
              | some q => rw [hv] at h; simp at h
        · have hs : stepB ⟨.value, nm, v, D⟩ c = ⟨.value, nm, v ++ ⟨#[c]⟩, D⟩ := by show (if c = 44 then _ else if c = 92 then _ else _) = _; rw [if_neg hc, if_neg hq]
          rw [valL_pl hc hq]
          obtain ⟨i1, i2⟩ := ih t' (v ++ ⟨#[c]⟩) (by omega)
          refine ⟨fun y r h => ?_, fun h => ?_⟩
          · cases hv : valL t' with
            | none => rw [hv] at h; simp at h
            | some q =>
              rw [hv] at h
              simp at h
              obtain ⟨rfl, rfl⟩ := h
              obtain ⟨⟨pre, h1, h2⟩, h3⟩ := i1 q.1 q.2 hv
              exact ⟨⟨c :: pre, by rw [h1]; rfl, by rw [List.foldl_cons, hs, h2, ba_app]⟩, h3⟩
          · cases hv : valL t' with
            | none =>
              obtain ⟨v', h1⟩ := i2 hv
              exact ⟨v', by rw [List.foldl_cons, hs, h1]⟩
            | some q => rw [hv] at h; simp at h
/-- The reader comes to what the page tells. -/
theorem mach : ∀ (n : Nat) (l : List UInt8) (D : List Lab), l.length < n →
    (∀ M, labsO n (44 :: l) = some M → (l ++ [44]).foldl stepB ⟨.name, { data := #[] }, { data := #[] }, D⟩ = ⟨.name, { data := #[] }, { data := #[] }, D ++ M⟩) ∧
    (labsO n (44 :: l) = none → ∀ s, (l ++ [44]).foldl stepB ⟨.name, { data := #[] }, { data := #[] }, D⟩ = s → ¬ (s.nm = { data := #[] } ∧ s.v = { data := #[] })) := by
  intro n
  induction n with
  | zero => intro l D h; omega
  | succ n ih =>
    intro l D hn
    have hne : ∀ (a : ByteArray) (l : List UInt8) (c : UInt8), a ++ (⟨(l ++ [c]).toArray⟩ : ByteArray) ≠ { data := #[] } := fun a l c e => by
      have := congrArg (fun z : ByteArray => z.data.toList.length) e
      simp at this
    have hdef : labsO (n + 1) (44 :: l) = match oneL l with | none => none | some (x, y, r) => (labsO n r).map ((⟨x.toArray⟩, ⟨y.toArray⟩) :: ·) := rfl
    rw [hdef]
    unfold oneL
    cases hcut : cutEq l with
    | none =>
      refine ⟨fun M h => by simp at h, fun _ s hs => ?_⟩
      rw [run_name _ _ _ _ (fun c hc => by
        rcases List.mem_append.1 hc with hc | hc
        · exact cut_no l hcut c hc
        · simp at hc; rw [hc]; decide)] at hs
      rw [← hs]
      exact fun h => hne _ _ _ h.1
    | some p =>
      obtain ⟨x, t⟩ := p
      obtain ⟨hl, hx⟩ := cut_eq l x t hcut
      have hlen : t.length < n := by have := congrArg List.length hl; simp at this; omega
      have hrun : ∀ Z, (l ++ Z).foldl stepB ⟨.name, { data := #[] }, { data := #[] }, D⟩ = (t ++ Z).foldl stepB ⟨.value, ⟨x.toArray⟩, { data := #[] }, D⟩ := fun Z => by
        rw [hl, List.append_assoc, List.foldl_append, run_name _ _ _ x hx]
        have h0 : ({ data := #[] } : ByteArray) ++ (⟨x.toArray⟩ : ByteArray) = ⟨x.toArray⟩ := baL (by rw [appL]; rfl)
        rw [h0]
        rfl
      obtain ⟨v1, v2⟩ := run_valN ⟨x.toArray⟩ D t.length t { data := #[] } (Nat.le_refl _)
      rw [hrun]
      simp only [Option.bind_some]
      cases hv : valL t with
      | none =>
        refine ⟨fun M h => by simp at h, fun _ s hs => ?_⟩
        obtain ⟨v', h1⟩ := v2 hv
        rw [List.foldl_append, h1] at hs
        rw [← hs]
        intro h
        have h2 : v' ++ (⟨#[44]⟩ : ByteArray) = { data := #[] } := h.2
        exact hne v' [] 44 h2
      | some q =>
        obtain ⟨y, r⟩ := q
        obtain ⟨⟨pre, h1, h2⟩, h3⟩ := v1 y r hv
        have h0 : ({ data := #[] } : ByteArray) ++ (⟨y.toArray⟩ : ByteArray) = ⟨y.toArray⟩ := baL (by rw [appL]; rfl)
        rw [h0] at h2
        simp only [Option.map_some]
        rcases h3 with rfl | ⟨r', rfl⟩
        · rw [List.append_nil] at h1
          subst h1
          obtain ⟨k, rfl⟩ : ∃ k, n = k + 1 := ⟨n - 1, by omega⟩
          refine ⟨fun M h => ?_, fun h => ?_⟩
          · have : M = [(⟨x.toArray⟩, ⟨y.toArray⟩)] := by simp [labsO] at h; exact h.symm
            subst this
            rw [List.foldl_append, h2]
            rfl
          · simp [labsO] at h
        · have hlr : r'.length < n := by have := congrArg List.length h1; simp at this; omega
          obtain ⟨i1, i2⟩ := ih r' (D ++ [(⟨x.toArray⟩, ⟨y.toArray⟩)]) hlr
          have hrun2 : (t ++ [44]).foldl stepB ⟨.value, ⟨x.toArray⟩, { data := #[] }, D⟩ = (r' ++ [44]).foldl stepB ⟨.name, { data := #[] }, { data := #[] }, D ++ [((⟨x.toArray⟩ : ByteArray), (⟨y.toArray⟩ : ByteArray))]⟩ := by
            rw [h1, List.append_assoc, List.foldl_append, h2]
            rfl
          rw [hrun2]
          refine ⟨fun M h => ?_, fun h => ?_⟩
          · cases ho : labsO n (44 :: r') with
            | none => rw [ho] at h; simp at h
            | some M' =>
              rw [ho] at h
              simp at h
              rw [i1 M' ho, ← h, List.append_assoc]
              rfl
          · cases ho : labsO n (44 :: r') with
            | none => exact i2 ho
            | some M' => rw [ho] at h; simp at h
end Go.Proofs.Ytbcgjgefkkibbaa
