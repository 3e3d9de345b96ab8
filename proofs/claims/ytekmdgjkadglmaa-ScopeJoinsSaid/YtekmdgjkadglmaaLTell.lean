
/- Plain mathematics: a set's text tells the set; the same labels in the opposite order. -/
import Derived.Test.YtekmdgjkadglmaaLText
namespace Go.Proofs.Ytekmdgjkadglmaa
open Go.RowKit

theorem cut_app : ∀ (nm r : List UInt8), (61 : UInt8) ∉ nm → cutEq (nm ++ 61 :: r) = some (nm, r) := by
  intro nm r
  induction nm with
  | nil => intro _; rfl
  | cons c nm ih =>
    intro h
    have h1 : c ≠ 61 := fun e => h (e ▸ List.mem_cons_self ..)
    show (if c = 61 then some ([], nm ++ 61 :: r) else (cutEq (nm ++ 61 :: r)).map fun q => (c :: q.1, q.2)) = _
    rw [if_neg h1, ih fun hm => h (List.mem_cons_of_mem _ hm)]
    rfl
theorem valL_pl {c : UInt8} (h1 : c ≠ 44) (h2 : c ≠ 92) (t : List UInt8) : valL (c :: t) = (valL t).map fun r => (c :: r.1, r.2) := by
  cases t with
  | nil => simp [valL, h1, h2]
  | cons d t => simp [valL, h1, h2]
theorem val_esc (t v0 r0 : List UInt8) (ht : valL t = some (v0, r0)) : ∀ v : List UInt8, valL (escL v ++ t) = some (v ++ v0, r0) := by
  intro v
  induction v with
  | nil => exact ht
  | cons c v ih =>
    have e : escL (c :: v) = escC c ++ escL v := by simp [escL]
    rw [e]
    unfold escC
    by_cases h : c = 44 ∨ c = 92
    · rw [if_pos h]
      show valL (92 :: c :: (escL v ++ t)) = _
      rw [valL_cons2, if_neg (by decide), if_pos rfl, ih]
      rfl
    · rw [if_neg h]
      show valL (c :: (escL v ++ t)) = _
      rw [valL_pl (fun e => h (.inl e)) (fun e => h (.inr e)), ih]
      rfl
theorem one_last (x : Lab) (h : (61 : UInt8) ∉ x.1.data.toList) : oneL (labL x) = some (x.1.data.toList, x.2.data.toList, []) := by
  unfold oneL labL
  rw [cut_app _ _ h]
  have := val_esc [] [] [] rfl x.2.data.toList
  rw [List.append_nil, List.append_nil] at this
  simp only [Option.bind_some, this, Option.map_some]
theorem one_more (x : Lab) (t : List UInt8) (h : (61 : UInt8) ∉ x.1.data.toList) : oneL (labL x ++ 44 :: t) = some (x.1.data.toList, x.2.data.toList, 44 :: t) := by
  unfold oneL labL
  rw [List.append_assoc, List.cons_append, cut_app _ _ h]
  have h0 : valL (44 :: t) = some ([], 44 :: t) := by
    cases t with
    | nil => simp [valL]
    | cons d t => simp [valL]
  have := val_esc (44 :: t) [] _ h0 x.2.data.toList
  rw [List.append_nil] at this
  simp only [Option.bind_some, this, Option.map_some]
theorem join_cons (x : Lab) (M : List Lab) (h : M ≠ []) : joinL (x :: M) = labL x ++ 44 :: joinL M := by
  cases M with
  | nil => exact absurd rfl h
  | cons y M => rfl
/-- Labels whose names and values can be told: told one after another. -/
theorem labs_join : ∀ (M : List Lab) (f : Nat) (A : List Lab), M ≠ [] → M.length < f → (∀ x ∈ M, (61 : UInt8) ∉ x.1.data.toList) → labsL f (44 :: joinL M) A = some (M.foldl insL A) := by
  intro M
  induction M with
  | nil => intro f A h; exact absurd rfl h
  | cons x M ih =>
    intro f A _ hf hn
    obtain ⟨f, rfl⟩ : ∃ k, f = k + 1 := ⟨f - 1, by simp at hf; omega⟩
    have hx := hn x (List.mem_cons_self ..)
    by_cases hM : M = []
    · subst hM
      show labsL (f + 1) (44 :: labL x) A = _
      have h1 : oneL (labL x) = some (x.1.data.toList, x.2.data.toList, (ByteArray.data { data := #[] }).toList) := one_last x hx
      rw [labs_some h1]
      show labsL f [] _ = _
      rw [labs_end _ (by simp at hf; omega)]
      rfl
    · rw [join_cons x M hM]
      have h1 : oneL (labL x ++ 44 :: joinL M) = some (x.1.data.toList, x.2.data.toList, (ByteArray.data ⟨(44 :: joinL M).toArray⟩).toList) := one_more x _ hx
      rw [labs_some h1]
      show labsL f (44 :: joinL M) _ = _
      rw [ih f _ hM (by simp at hf; omega) fun z hz => hn z (List.mem_cons_of_mem _ hz)]
      rfl
theorem join_len_ge : ∀ M : List Lab, M.length ≤ (joinL M).length := by
  intro M
  induction M with
  | nil => exact Nat.zero_le _
  | cons x M ih =>
    by_cases hM : M = []
    · subst hM
      show 1 ≤ (labL x).length
      unfold labL
      simp
      omega
    · rw [join_cons x M hM, List.length_append, List.length_cons, List.length_cons]
      omega

/-- A name, a value as a set has them. -/
def goodB (x : Lab) : Bool := nameB x.1.data.toList && valueB x.2.data.toList
theorem name_ascii {l : List UInt8} (h : nameB l = true) : ∀ c ∈ l, 97 ≤ c.toNat ∧ c.toNat ≤ 122 := by
  intro c hc
  unfold nameB at h
  simp only [Bool.and_eq_true] at h
  have := List.all_eq_true.1 h.1 c hc
  unfold nmB at this
  simpa using this
theorem good_name {x : Lab} (h : goodB x = true) : (61 : UInt8) ∉ x.1.data.toList := fun hm => by
  unfold goodB at h
  simp only [Bool.and_eq_true] at h
  have := name_ascii h.1 61 hm
  simp at this
theorem good_cnt {x : Lab} (h : goodB x = true) (t : List UInt8) (n : Nat) (ht : leads t) (hn : cntL t = some n) : ∃ m, cntL (labL x ++ t) = some m := by
  unfold goodB at h
  simp only [Bool.and_eq_true] at h
  have hv : ∃ k, cntL x.2.data.toList = some k := by
    have h2 := h.2
    unfold valueB fewB at h2
    simp only [Bool.and_eq_true] at h2
    cases hc : cntL x.2.data.toList with
    | none => rw [hc] at h2; simp at h2
    | some k => exact ⟨k, rfl⟩
  obtain ⟨k, hk⟩ := hv
  obtain ⟨m, hm⟩ := cnt_esc _ k hk
  have h1 : cntL (escL x.2.data.toList ++ t) = some (m + n) := by rw [cnt_app t ht, hm, hn]; rfl
  unfold labL
  rw [List.append_assoc, List.cons_append]
  refine cnt_asciis _ _ (m + n + 1) (fun c hc => by have := name_ascii h.1 c hc; omega) ?_
  rw [cnt_ascii (by decide), h1]
  rfl
theorem join_cnt : ∀ M : List Lab, (∀ x ∈ M, goodB x = true) → ∃ m, cntL (joinL M) = some m := by
  intro M
  induction M with
  | nil => intro _; exact ⟨0, rfl⟩
  | cons x M ih =>
    intro h
    have hx := h x (List.mem_cons_self ..)
    obtain ⟨n, hn⟩ := ih fun z hz => h z (List.mem_cons_of_mem _ hz)
    by_cases hM : M = []
    · subst hM
      obtain ⟨m, hm⟩ := good_cnt hx [] 0 (.inl rfl) rfl
      rw [List.append_nil] at hm
      exact ⟨m, hm⟩
    · rw [join_cons x M hM]
      have h1 : cntL (44 :: joinL M) = some (n + 1) := by rw [cnt_ascii (by decide), hn]; rfl
      exact good_cnt hx _ _ (.inr (by simp)) h1

/-- Names that rise. -/
def RiseL (L : List Lab) : Prop := L.Pairwise fun a b => Lib.compareBytes a.1.data.toList b.1.data.toList < 0
theorem right_parts : ∀ (L : List Lab) (p : Option ByteArray), rightF p L = true → (∀ x ∈ L, goodB x = true) ∧ RiseL L ∧ ∀ y, p = some y → ∀ x ∈ L, Lib.compareBytes y.data.toList x.1.data.toList < 0 := by
  intro L
  induction L with
  | nil => intro p _; exact ⟨fun x hx => by simp at hx, List.Pairwise.nil, fun y _ x hx => by simp at hx⟩
  | cons x L ih =>
    intro p h
    unfold rightF at h
    simp only [Bool.and_eq_true] at h
    obtain ⟨⟨h1, h2, h3⟩, h4⟩ := h
    obtain ⟨i1, i2, i3⟩ := ih _ h4
    have i4 := i3 x.1 rfl
    refine ⟨fun z hz => ?_, List.Pairwise.cons i4 i2, fun y hy z hz => ?_⟩
    · rcases List.mem_cons.1 hz with rfl | hz
      · unfold goodB; rw [h1, h2]; rfl
      · exact i1 z hz
    · subst hy
      have h5 : Lib.compareBytes y.data.toList x.1.data.toList < 0 := by simpa [aheadB] using h3
      rcases List.mem_cons.1 hz with rfl | hz
      · exact h5
      · exact cmp_trans _ _ _ h5 (i4 z hz)
theorem right_good {L : List Lab} (h : rightB L = true) : (∀ x ∈ L, goodB x = true) ∧ RiseL L := by
  unfold rightB at h
  simp only [Bool.and_eq_true] at h
  obtain ⟨h1, h2, _⟩ := right_parts L none h.1
  exact ⟨h1, h2⟩
theorem ins_last : ∀ (A : List Lab) (x : Lab), (∀ a ∈ A, Lib.compareBytes a.1.data.toList x.1.data.toList < 0) → insL A x = A ++ [x] := by
  intro A x
  induction A with
  | nil => intro _; rfl
  | cons a A ih =>
    intro h
    unfold insL
    rw [if_pos (h a (List.mem_cons_self ..)), ih fun z hz => h z (List.mem_cons_of_mem _ hz)]
    rfl
theorem ins_first (A : List Lab) (x : Lab) (h : ∀ a ∈ A, Lib.compareBytes x.1.data.toList a.1.data.toList < 0) : insL A x = x :: A := by
  cases A with
  | nil => rfl
  | cons a A =>
    unfold insL
    have h1 := h a (List.mem_cons_self ..)
    rw [if_neg (by have := cmp_swap x.1.data.toList a.1.data.toList; omega)]
theorem fold_rise : ∀ (L A : List Lab), RiseL (A ++ L) → L.foldl insL A = A ++ L := by
  intro L
  induction L with
  | nil => intro A _; simp
  | cons x L ih =>
    intro A h
    have h1 : insL A x = A ++ [x] := ins_last A x fun a ha => (List.pairwise_append.1 h).2.2 a ha x (List.mem_cons_self ..)
    rw [List.foldl_cons, h1, ih (A ++ [x]) (by rw [List.append_assoc]; exact h), List.append_assoc]
    rfl
theorem fold_turned : ∀ L : List Lab, RiseL L → L.reverse.foldl insL [] = L := by
  intro L
  induction L with
  | nil => intro _; rfl
  | cons x L ih =>
    intro h
    rw [List.reverse_cons, List.foldl_append, ih (List.Pairwise.of_cons h)]
    exact ins_first L x fun a ha => List.rel_of_pairwise_cons h ha
theorem parse_join (M L : List Lab) (hM : M ≠ []) (hg : ∀ x ∈ M, goodB x = true) (hf : M.foldl insL [] = L) (hr : rightB L = true) : parseL (joinL M) = some L := by
  obtain ⟨m, hm⟩ := join_cnt M hg
  unfold parseL
  rw [hm]
  show doneL (labsL ((joinL M).length + 2) (44 :: joinL M) []) = _
  rw [labs_join M _ [] hM (by have := join_len_ge M; omega) fun x hx => good_name (hg x hx), hf]
  show (if rightB L = true then some L else none) = some L
  rw [if_pos hr]
theorem right_ne {L : List Lab} (h : rightB L = true) : L ≠ [] := fun e => by
  have := (right_len h).1
  rw [e] at this
  simp at this
/-- A set's text tells the set. -/
theorem parse_text {L : List Lab} (h : rightB L = true) : parseL (joinL L) = some L := by
  obtain ⟨h1, h2⟩ := right_good h
  exact parse_join L L (right_ne h) h1 (by have := fold_rise L [] (by simpa using h2); simpa using this) h
/-- The labels in the opposite order tell the same set. -/
theorem parse_turned {L : List Lab} (h : rightB L = true) : parseL (joinL L.reverse) = some L := by
  obtain ⟨h1, h2⟩ := right_good h
  exact parse_join L.reverse L (fun e => right_ne h (by simpa using e)) (fun x hx => h1 x (by simpa using hx)) (fold_turned L h2) h
/-- What is told is a set. -/
theorem parse_right {l : List UInt8} {L : List Lab} (h : parseL l = some L) : rightB L = true := by
  unfold parseL at h
  split at h
  · cases h
  · cases hq : labsL (l.length + 2) (44 :: l) [] with
    | none => rw [hq] at h; cases h
    | some A =>
      rw [hq] at h
      change (if rightB A = true then some A else none) = some L at h
      split at h
      · rename_i hr
        cases h
        exact hr
      · cases h
/-- One label of a set is a set. -/
theorem right_single {L : List Lab} (h : rightB L = true) (x : Lab) (hx : x ∈ L) : rightB [x] = true := by
  have h1 := (right_good h).1 x hx
  unfold goodB at h1
  simp only [Bool.and_eq_true] at h1
  unfold rightB rightF
  rw [h1.1, h1.2]
  rfl

/-- A set's names: each is found, and nothing else is. -/
theorem get_in : ∀ (L : List Lab), RiseL L → ∀ x ∈ L, getLb L x.1 = some x.2 := by
  intro L
  induction L with
  | nil => intro _ x hx; simp at hx
  | cons a L ih =>
    intro h x hx
    unfold getLb
    rcases List.mem_cons.1 hx with rfl | hx
    · rw [if_pos rfl]
    · have h1 := List.rel_of_pairwise_cons h hx
      rw [if_neg (fun e => by rw [e, cmp_self] at h1; omega)]
      exact ih (List.Pairwise.of_cons h) x hx
theorem get_none : ∀ (L : List Lab) (nm : ByteArray), (∀ x ∈ L, x.1 ≠ nm) → getLb L nm = none := by
  intro L nm
  induction L with
  | nil => intro _; rfl
  | cons a L ih =>
    intro h
    unfold getLb
    rw [if_neg (h a (List.mem_cons_self ..))]
    exact ih fun x hx => h x (List.mem_cons_of_mem _ hx)
theorem get_some (L : List Lab) (nm : ByteArray) : (getLb L nm).isSome = decide (∃ x ∈ L, x.1 = nm) := by
  induction L with
  | nil => simp [getLb]
  | cons a L ih =>
    unfold getLb
    by_cases h : a.1 = nm
    · rw [if_pos h]
      simp [h]
    · rw [if_neg h, ih]
      simp [h]

/-- Which labels stand ahead. -/
theorem cmpLab_swap (x y : Lab) : cmpLab x y = - cmpLab y x := by
  unfold cmpLab
  have h1 := cmp_swap x.1.data.toList y.1.data.toList
  have h2 := cmp_swap x.2.data.toList y.2.data.toList
  split <;> split <;> omega
theorem cmpLab_zero {x y : Lab} : cmpLab x y = 0 ↔ x = y := by
  constructor
  · intro h
    unfold cmpLab at h
    split at h
    · rename_i h1
      rcases cmp_cases x.1.data.toList y.1.data.toList with h0 | ⟨_, e1⟩ | h0
      · omega
      · rcases cmp_cases x.2.data.toList y.2.data.toList with h0 | ⟨_, e2⟩ | h0
        · omega
        · exact Prod.ext (baL e1) (baL e2)
        · omega
      · omega
    · rename_i h1
      exact absurd h h1
  · rintro rfl
    unfold cmpLab
    rw [cmp_self, cmp_self]
    rfl
theorem less_cases : ∀ A B : List Lab, (lessLb A B = true ∧ lessLb B A = false ∧ A ≠ B) ∨ (lessLb A B = false ∧ lessLb B A = true ∧ A ≠ B) ∨ (lessLb A B = false ∧ lessLb B A = false ∧ A = B) := by
  intro A
  induction A with
  | nil =>
    intro B
    cases B with
    | nil => exact .inr (.inr ⟨rfl, rfl, rfl⟩)
    | cons y B => exact .inl ⟨rfl, rfl, by simp⟩
  | cons x A ih =>
    intro B
    cases B with
    | nil => exact .inr (.inl ⟨rfl, rfl, by simp⟩)
    | cons y B =>
      have hs := cmpLab_swap x y
      unfold lessLb
      by_cases h : cmpLab x y = 0
      · obtain rfl := cmpLab_zero.1 h
        rw [if_pos h, if_pos h]
        rcases ih B with ⟨h1, h2, h3⟩ | ⟨h1, h2, h3⟩ | ⟨h1, h2, h3⟩
        · exact .inl ⟨h1, h2, by simpa using h3⟩
        · exact .inr (.inl ⟨h1, h2, by simpa using h3⟩)
        · exact .inr (.inr ⟨h1, h2, by rw [h3]⟩)
      · have hne : x :: A ≠ y :: B := fun e => h (cmpLab_zero.2 (List.cons.inj e).1)
        rw [if_neg h, if_neg (by omega)]
        by_cases hl : cmpLab x y < 0
        · exact .inl ⟨by simpa using hl, by simp; omega, hne⟩
        · exact .inr (.inl ⟨by simpa using hl, by simp; omega, hne⟩)
end Go.Proofs.Ytekmdgjkadglmaa
