
/- Plain mathematics: rising lists of numbers (stage 6). Nothing of the program. -/
import Derived.Laws.RangeAny
namespace Go.Proofs.Ytpdedogdffolnaa

/-- Rising, no two the same. -/
def riseB : List Nat → Bool
  | [] => true
  | [_] => true
  | a :: b :: t => decide (a < b) && riseB (b :: t)
/-- One more number, if it is not there. -/
def putN (n : Nat) : List Nat → List Nat
  | [] => [n]
  | a :: t => if a < n then a :: putN n t else if a = n then a :: t else n :: a :: t
def ofN (L : List Nat) : List Nat := L.foldl (fun a n => putN n a) []
def rightN (L : List Nat) : Bool := riseB L && decide (L.length ≤ 64)
theorem rise_tail {a : Nat} {t : List Nat} (h : riseB (a :: t) = true) : riseB t = true := by
  cases t with
  | nil => rfl
  | cons b t => unfold riseB at h; exact ((Bool.and_eq_true _ _).mp h).2
theorem rise_lt : ∀ {t : List Nat} {a : Nat}, riseB (a :: t) = true → ∀ x ∈ t, a < x := by
  intro t
  induction t with
  | nil => intro a _ x hx; cases hx
  | cons b t ih =>
    intro a h x hx
    have h' := h
    unfold riseB at h
    obtain ⟨h1, h2⟩ := (Bool.and_eq_true _ _).mp h
    have hab : a < b := of_decide_eq_true h1
    rcases List.mem_cons.1 hx with rfl | hx
    · exact hab
    · exact Nat.lt_trans hab (ih h2 x hx)
theorem rise_cons {a : Nat} {t : List Nat} (h : riseB t = true) (hl : ∀ x ∈ t, a < x) : riseB (a :: t) = true := by
  cases t with
  | nil => rfl
  | cons b t => unfold riseB; rw [h, decide_eq_true (hl b (List.mem_cons_self ..))]; rfl
theorem mem_put (n x : Nat) : ∀ L : List Nat, x ∈ putN n L ↔ x = n ∨ x ∈ L := by
  intro L
  induction L with
  | nil => simp [putN]
  | cons a t ih =>
    unfold putN
    by_cases h : a < n
    · rw [if_pos h, List.mem_cons, ih, List.mem_cons]
      constructor
      · rintro (h | h | h)
        · exact .inr (.inl h)
        · exact .inl h
        · exact .inr (.inr h)
      · rintro (h | h | h)
        · exact .inr (.inl h)
        · exact .inl h
        · exact .inr (.inr h)
    · rw [if_neg h]
      by_cases h2 : a = n
      · rw [if_pos h2]
        subst h2
        refine ⟨fun h => .inr h, fun h => ?_⟩
        rcases h with h | h
        · exact List.mem_cons.2 (.inl h)
        · exact h
      · rw [if_neg h2]
        exact List.mem_cons
theorem rise_put (n : Nat) : ∀ L : List Nat, riseB L = true → riseB (putN n L) = true := by
  intro L
  induction L with
  | nil => intro _; rfl
  | cons a t ih =>
    intro h
    unfold putN
    by_cases h1 : a < n
    · rw [if_pos h1]
      refine rise_cons (ih (rise_tail h)) fun x hx => ?_
      rcases (mem_put n x t).1 hx with rfl | hx
      · exact h1
      · exact rise_lt h x hx
    · rw [if_neg h1]
      by_cases h2 : a = n
      · rw [if_pos h2]; exact h
      · rw [if_neg h2]
        refine rise_cons h fun x hx => ?_
        rcases List.mem_cons.1 hx with rfl | hx
        · omega
        · have := rise_lt h x hx; omega
theorem fold_put : ∀ (L A : List Nat), (riseB A = true → riseB (L.foldl (fun a n => putN n a) A) = true) ∧ ∀ x, x ∈ L.foldl (fun a n => putN n a) A ↔ x ∈ L ∨ x ∈ A := by
  intro L
  induction L with
  | nil => intro A; exact ⟨fun h => h, fun x => by simp⟩
  | cons n L ih =>
    intro A
    refine ⟨fun h => (ih (putN n A)).1 (rise_put n A h), fun x => ?_⟩
    rw [List.foldl_cons, (ih (putN n A)).2, mem_put, List.mem_cons]
    constructor
    · rintro (h | h | h)
      · exact .inl (.inr h)
      · exact .inl (.inl h)
      · exact .inr h
    · rintro ((h | h) | h)
      · exact .inr (.inl h)
      · exact .inl h
      · exact .inr (.inr h)
theorem rise_of (L : List Nat) : riseB (ofN L) = true := (fold_put L []).1 rfl
theorem mem_of (L : List Nat) (x : Nat) : x ∈ ofN L ↔ x ∈ L := by
  have := (fold_put L []).2 x
  unfold ofN
  simpa using this
/-- Rising lists with the same numbers are the same. -/
theorem rise_ext : ∀ {A B : List Nat}, riseB A = true → riseB B = true → (∀ x, x ∈ A ↔ x ∈ B) → A = B := by
  intro A
  induction A with
  | nil =>
    intro B _ _ h
    cases B with
    | nil => rfl
    | cons b t => exact absurd ((h b).2 (List.mem_cons_self ..)) (by simp)
  | cons a A ih =>
    intro B ha hb h
    cases B with
    | nil => exact absurd ((h a).1 (List.mem_cons_self ..)) (by simp)
    | cons b B =>
      have h1 := (h a).1 (List.mem_cons_self ..)
      have h2 := (h b).2 (List.mem_cons_self ..)
      have hab : a = b := by
        rcases List.mem_cons.1 h1 with e | e
        · exact e
        · rcases List.mem_cons.1 h2 with e2 | e2
          · exact e2.symm
          · have := rise_lt hb a e; have := rise_lt ha b e2; omega
      subst hab
      congr 1
      refine ih (rise_tail ha) (rise_tail hb) fun x => ⟨fun hx => ?_, fun hx => ?_⟩
      · rcases List.mem_cons.1 ((h x).1 (List.mem_cons_of_mem _ hx)) with rfl | e
        · exact absurd (rise_lt ha x hx) (Nat.lt_irrefl _)
        · exact e
      · rcases List.mem_cons.1 ((h x).2 (List.mem_cons_of_mem _ hx)) with rfl | e
        · exact absurd (rise_lt hb x hx) (Nat.lt_irrefl _)
        · exact e
/-- A rising list of some numbers of another one is no longer. -/
theorem rise_len : ∀ {A B : List Nat}, riseB A = true → (∀ x ∈ A, x ∈ B) → A.length ≤ B.length := by
  intro A
  induction A with
  | nil => intro B _ _; exact Nat.zero_le _
  | cons a A ih =>
    intro B ha h
    have hm := h a (List.mem_cons_self ..)
    have h1 : A.length ≤ (B.erase a).length := ih (rise_tail ha) fun x hx => by
      have hne : x ≠ a := fun e => by have := rise_lt ha x hx; omega
      exact (List.mem_erase_of_ne hne).2 (h x (List.mem_cons_of_mem _ hx))
    have h2 := List.length_erase_of_mem hm
    have h3 : 0 < B.length := List.length_pos_of_mem hm
    rw [List.length_cons]
    omega
theorem of_len (L : List Nat) : (ofN L).length ≤ L.length := rise_len (rise_of L) fun x hx => (mem_of L x).1 hx
theorem of_rise {L : List Nat} (h : riseB L = true) : ofN L = L := rise_ext (rise_of L) h (mem_of L)
theorem of_mono {A B : List Nat} (h : ∀ x ∈ A, x ∈ B) : (ofN A).length ≤ (ofN B).length := rise_len (rise_of A) fun x hx => (mem_of B x).2 (h x ((mem_of A x).1 hx))
theorem of_congr {A B : List Nat} (h : ∀ x, x ∈ A ↔ x ∈ B) : ofN A = ofN B := rise_ext (rise_of A) (rise_of B) fun x => by rw [mem_of, mem_of, h]
theorem of_right {L : List Nat} (h : (ofN L).length ≤ 64) : rightN (ofN L) = true := by unfold rightN; rw [rise_of, decide_eq_true h]; rfl
theorem right_parts {L : List Nat} (h : rightN L = true) : riseB L = true ∧ L.length ≤ 64 := by
  obtain ⟨h1, h2⟩ := (Bool.and_eq_true _ _).mp h
  exact ⟨h1, of_decide_eq_true h2⟩
theorem of_snoc (L : List Nat) (n : Nat) : ofN (L ++ [n]) = putN n (ofN L) := by unfold ofN; rw [List.foldl_append]; rfl
theorem put_len (n : Nat) (L : List Nat) : (putN n L).length ≤ L.length + 1 := by
  induction L with
  | nil => simp [putN]
  | cons a t ih =>
    unfold putN
    split
    · simp; omega
    · split
      · simp
      · simp
/-- What Of tells: numbers, and the error's number. -/
def ofP (L : List Nat) : List Nat × Nat := if (ofN L).length ≤ 64 then (ofN L, 0) else ([], 60)
def addP (L : List Nat) (n : Nat) : List Nat × Nat := if rightN L then ofP (L ++ [n]) else ([], 60)
def mergeP (A B : List Nat) : List Nat × Nat := if rightN A && rightN B then ofP (A ++ B) else ([], 60)
def hasB (L : List Nat) (n : Nat) : Bool := decide (n ∈ L) && rightN L
def countN (L : List Nat) : Nat := if rightN L then L.length else 0
end Go.Proofs.Ytpdedogdffolnaa
