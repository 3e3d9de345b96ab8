/- Plain mathematics of layer 3: checks, frames, what is read of bytes. Nothing of the program. -/
import Derived.Test.YthbfibnpfdegaaaDoorFMath
namespace Go.Proofs.YthbfibnpfdegaaaDoor

def ckP (p : Nat × Nat) (c : UInt8) : Nat × Nat := ((p.1 + c.toNat) % 65521, (p.2 + (p.1 + c.toNat) % 65521) % 65521)
/-- A check's halves. -/
def ckL (l : List UInt8) : Nat × Nat := l.foldl ckP (1, 0)
/-- A check. -/
def checkL (l : List UInt8) : Nat := 65536 * (ckL l).2 + (ckL l).1
theorem ckL_snoc (l : List UInt8) (c : UInt8) : ckL (l ++ [c]) = ckP (ckL l) c := by simp [ckL]
theorem ckL_lt (l : List UInt8) : (ckL l).1 < 65521 ∧ (ckL l).2 < 65521 := by
  suffices h : ∀ p : Nat × Nat, p.1 < 65521 ∧ p.2 < 65521 → (l.foldl ckP p).1 < 65521 ∧ (l.foldl ckP p).2 < 65521 from h (1, 0) ⟨by decide, by decide⟩
  induction l with
  | nil => exact fun p h => h
  | cons c l ih => exact fun p _ => ih (ckP p c) ⟨Nat.mod_lt _ (by decide), Nat.mod_lt _ (by decide)⟩
theorem checkL_lt (l : List UInt8) : checkL l < 4294967296 := by
  have := ckL_lt l
  unfold checkL
  omega
theorem check_halves (l : List UInt8) : checkL l / 65536 = (ckL l).2 ∧ checkL l % 65536 = (ckL l).1 := by
  have := ckL_lt l
  unfold checkL
  omega

/-- The first half is one and all bytes. -/
def sumB (l : List UInt8) : Nat := l.foldl (fun n c => n + c.toNat) 0
theorem sumB_from (l : List UInt8) (n : Nat) : l.foldl (fun n c => n + c.toNat) n = n + sumB l := by
  induction l generalizing n with
  | nil => simp [sumB]
  | cons c l ih =>
    simp only [List.foldl_cons, sumB]
    rw [ih, ih (0 + c.toNat)]
    omega
theorem sumB_cons (c : UInt8) (l : List UInt8) : sumB (c :: l) = c.toNat + sumB l := by
  show List.foldl _ (0 + c.toNat) l = _
  rw [sumB_from]
  omega
theorem sumB_append (a b : List UInt8) : sumB (a ++ b) = sumB a + sumB b := by
  induction a with
  | nil => simp [sumB]
  | cons c a ih => rw [List.cons_append, sumB_cons, sumB_cons, ih]; omega
theorem fst_from (l : List UInt8) (p : Nat × Nat) (h : p.1 < 65521) : (l.foldl ckP p).1 = (p.1 + sumB l) % 65521 := by
  induction l generalizing p with
  | nil => simp [sumB]; omega
  | cons c l ih =>
    rw [List.foldl_cons, ih _ (Nat.mod_lt _ (by decide)), sumB_cons]
    show ((p.1 + c.toNat) % 65521 + sumB l) % 65521 = _
    omega
theorem ckL_fst (l : List UInt8) : (ckL l).1 = (1 + sumB l) % 65521 := fst_from l (1, 0) (by decide)
/-- One byte that is another one makes another check. -/
theorem check_other (a b : List UInt8) (c d : UInt8) (h : c ≠ d) : checkL (a ++ c :: b) ≠ checkL (a ++ d :: b) := by
  intro e
  have h1 := (check_halves (a ++ c :: b)).2
  have h2 := (check_halves (a ++ d :: b)).2
  rw [e, h2, ckL_fst, ckL_fst, sumB_append, sumB_append, sumB_cons, sumB_cons] at h1
  have hc := c.toNat_lt
  have hd := d.toNat_lt
  have hn : c.toNat ≠ d.toNat := fun e => h (UInt8.toNat.inj e)
  omega

/-- A check's four bytes. -/
def fourL (l : List UInt8) : List UInt8 := lowL (checkL l) 4
theorem fourL_len (l : List UInt8) : (fourL l).length = 4 := lowL_length _ _
theorem fourL_inj {l l' : List UInt8} (h : fourL l = fourL l') : checkL l = checkL l' := by
  have h1 := numL_lowL (checkL l) 4
  have h2 := numL_lowL (checkL l') 4
  unfold fourL at h
  rw [h, h2] at h1
  have e : (256 ^ 4 : Nat) = 4294967296 := by decide
  have := checkL_lt l
  have := checkL_lt l'
  rw [e, Nat.mod_eq_of_lt (by omega), Nat.mod_eq_of_lt (by omega)] at h1
  exact h1.symm

/-- A frame. -/
def frameL (s : List UInt8) : List UInt8 := 167 :: (putL s.length ++ (s ++ fourL s))
theorem frameL_len (s : List UInt8) : (frameL s).length = 5 + (putL s.length).length + s.length := by
  unfold frameL
  simp [fourL_len]
  omega
inductive RR
  | more
  | frame
  | check
  | ok (a k : Nat)
/-- What is read: where a frame's content begins, and where it ends. -/
def readL : List UInt8 → RR
  | [] => .more
  | c :: t => if c = 167 then (match getL t with
    | .more => .more
    | .bad => .frame
    | .ok n k => if n < 1 ∨ 2000 < n then .frame else if t.length < k + n + 4 then .more else
      if fourL ((t.drop k).take n) = (t.drop (k + n)).take 4 then .ok (1 + k) (1 + k + n) else .check) else .frame

theorem read_cons {t : List UInt8} {n k : Nat} (hg : getL t = .ok n k) (h1 : 1 ≤ n) (h2 : n ≤ 2000) (h3 : k + n + 4 ≤ t.length) :
    readL (167 :: t) = if fourL ((t.drop k).take n) = (t.drop (k + n)).take 4 then .ok (1 + k) (1 + k + n) else .check := by
  simp only [readL, if_true, hg]
  rw [if_neg (by omega), if_neg (by omega)]
/-- What is behind a number's bytes, of a text and four bytes. -/
theorem read_parts' (s f r : List UInt8) (h1 : 1 ≤ s.length) (h2 : s.length ≤ 2000) (hf : f.length = 4) :
    readL (167 :: (putL s.length ++ (s ++ f) ++ r)) = if fourL s = f then .ok (1 + (putL s.length).length) (1 + (putL s.length).length + s.length) else .check := by
  have hg : getL (putL s.length ++ (s ++ f) ++ r) = .ok s.length (putL s.length).length := by
    rw [List.append_assoc]
    exact get_put _ (by omega) _
  rw [read_cons hg h1 h2 (by simp [hf]; omega)]
  have e1 : (putL s.length ++ (s ++ f) ++ r).drop (putL s.length).length = s ++ (f ++ r) := by
    rw [List.append_assoc, List.drop_left, List.append_assoc]
  have e2 : (putL s.length ++ (s ++ f) ++ r).drop ((putL s.length).length + s.length) = f ++ r := by
    rw [← List.drop_drop, e1, List.drop_left]
  have e3 : (s ++ (f ++ r)).take s.length = s := List.take_left ..
  have e4 : (f ++ r).take 4 = f := by rw [← hf, List.take_left]
  rw [e1, e2, e3, e4]
/-- What is made is read again, whatever stands behind. -/
theorem read_frame (s r : List UInt8) (h1 : 1 ≤ s.length) (h2 : s.length ≤ 2000) :
    readL (frameL s ++ r) = .ok (1 + (putL s.length).length) (1 + (putL s.length).length + s.length) := by
  have e : frameL s ++ r = 167 :: (putL s.length ++ (s ++ fourL s) ++ r) := by simp [frameL]
  rw [e, read_parts' s (fourL s) r h1 h2 (fourL_len s), if_pos rfl]
theorem frame_cut (s r : List UInt8) : ((frameL s ++ r).take (1 + (putL s.length).length + s.length)).drop (1 + (putL s.length).length) = s ∧ (frameL s ++ r).drop (1 + (putL s.length).length + s.length + 4) = r := by
  have e : frameL s ++ r = (167 :: putL s.length) ++ (s ++ (fourL s ++ r)) := by simp [frameL]
  have hl : (167 :: putL s.length).length = 1 + (putL s.length).length := by simp; omega
  constructor
  · rw [e, List.drop_take, ← hl, List.drop_left, Nat.add_sub_cancel_left, List.take_left]
  · rw [e, ← hl, Nat.add_assoc, ← List.drop_drop, List.drop_left, ← List.drop_drop, List.drop_left]
    have : (4 : Nat) = (fourL s).length := (fourL_len s).symm
    rw [this, List.drop_left]
/-- Fewer bytes of a frame ask for more. -/
theorem read_short (s : List UInt8) (h1 : 1 ≤ s.length) (h2 : s.length ≤ 2000) (j : Nat) (hj : j < (frameL s).length) : readL ((frameL s).take j) = .more := by
  cases j with
  | zero => rfl
  | succ j =>
    rw [frameL_len] at hj
    unfold frameL
    rw [List.take_succ_cons]
    by_cases hk : j < (putL s.length).length
    · have hg : getL ((putL s.length ++ (s ++ fourL s)).take j) = .more := by
        rw [List.take_append_of_le_length (by omega)]
        exact get_short _ _ hk
      simp [readL, hg]
    · have hg : getL ((putL s.length ++ (s ++ fourL s)).take j) = .ok s.length (putL s.length).length := by
        rw [List.take_append, List.take_of_length_le (by omega)]
        exact get_put _ (by omega) _
      simp only [readL, if_true, hg]
      rw [if_neg (by omega), if_pos]
      simp [fourL_len]
      omega
/-- A frame of whose content or check one byte is another one is none. -/
theorem read_other (s : List UInt8) (h1 : 1 ≤ s.length) (h2 : s.length ≤ 2000) (a b : List UInt8) (c d : UInt8) (h : c ≠ d) (hs : s ++ fourL s = a ++ c :: b) :
    readL (167 :: (putL s.length ++ (a ++ d :: b))) = .check := by
  by_cases ha : a.length < s.length
  · obtain ⟨b', hb⟩ : ∃ b', s = a ++ c :: b' := by
      have e1 : a = s.take a.length := by
        have := congrArg (List.take a.length) hs
        rw [List.take_left, List.take_append_of_le_length (by omega)] at this
        exact this.symm
      have e2 : s.drop a.length = c :: (s.drop (a.length + 1)) := by
        have := congrArg (fun l => (l.drop a.length).head?) hs
        simp only [List.drop_left, List.drop_append_of_le_length (by omega : a.length ≤ s.length)] at this
        cases hd : s.drop a.length with
        | nil => have := congrArg List.length hd; simp at this; omega
        | cons x xs =>
          rw [hd] at this
          simp at this
          rw [this, ← List.drop_drop, hd]
          rfl
      exact ⟨s.drop (a.length + 1), by rw [← e2]; conv => lhs; rw [← List.take_append_drop a.length s]; rw [← e1]⟩
    have hbb : b = b' ++ fourL s := by
      obtain ⟨f, hf⟩ : ∃ f, fourL s = f := ⟨_, rfl⟩
      rw [hf] at hs ⊢
      rw [hb] at hs
      simpa using hs.symm
    have hlen : s.length = (a ++ d :: b').length := by rw [hb]; simp
    have e : putL s.length ++ (a ++ d :: b) = putL (a ++ d :: b').length ++ ((a ++ d :: b') ++ fourL s) ++ [] := by rw [← hlen, hbb]; simp
    rw [e, read_parts' _ _ _ (by omega) (by omega) (fourL_len s), if_neg]
    intro hf
    have := fourL_inj hf
    rw [hb] at this
    exact check_other a b' d c h.symm this
  · obtain ⟨a', haa⟩ : ∃ a', a = s ++ a' := by
      have := congrArg (List.take s.length) hs
      rw [List.take_left, List.take_append_of_le_length (by omega)] at this
      exact ⟨a.drop s.length, by conv => lhs; rw [← List.take_append_drop s.length a]; rw [← this]⟩
    have hff : fourL s = a' ++ c :: b := by
      rw [haa] at hs
      simpa using hs
    have hl4 : (a' ++ d :: b).length = 4 := by
      have := congrArg List.length hff
      rw [fourL_len] at this
      simp at this ⊢
      omega
    have e : putL s.length ++ (a ++ d :: b) = putL s.length ++ (s ++ (a' ++ d :: b)) ++ [] := by rw [haa]; simp
    rw [e, read_parts' s _ _ h1 h2 hl4, if_neg]
    intro hf
    rw [hff] at hf
    simp at hf
    exact h hf
/-- A frame's size. -/
theorem frame_size (s : List UInt8) (h2 : s.length ≤ 2000) : (frameL s).length = s.length + (if 240 < s.length then 7 else 6) := by
  rw [frameL_len, putL_length]
  have hh := head_cases s.length (by omega)
  have hf := fol_cases (headN s.length) (headN_le _)
  split <;> omega
/-- What reading takes lies within. -/
theorem read_ok {l : List UInt8} {a k : Nat} (h : readL l = .ok a k) : 1 ≤ a ∧ a ≤ k ∧ k + 4 ≤ l.length ∧ a < k ∧ k ≤ a + 2000 := by
  cases l with
  | nil => cases h
  | cons c t =>
    simp only [readL] at h
    split at h
    · split at h
      · cases h
      · cases h
      · rename_i n k' hg
        split at h
        · cases h
        · split at h
          · cases h
          · split at h
            · obtain ⟨rfl, rfl⟩ : 1 + k' = a ∧ 1 + k' + n = k := by simpa using h
              simp only [List.length_cons]
              omega
            · cases h
    · cases h
end Go.Proofs.YthbfibnpfdegaaaDoor
