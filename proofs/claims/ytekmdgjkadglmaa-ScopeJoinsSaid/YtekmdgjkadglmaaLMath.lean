
/- Plain mathematics: runes at the beginning of bytes, how many there are. Nothing of the program. -/
import Derived.Lib.DecodeN
import Derived.Laws.RangeAny
namespace Go.Proofs.Ytekmdgjkadglmaa

/-- The rune that bytes begin with, and its width, as the language's range has it. -/
def decL (l : List UInt8) : Nat × Nat := Lib.decodeN l.length (l.getD 0 0).toNat (l.getD 1 0).toNat (l.getD 2 0).toNat (l.getD 3 0).toNat
/-- How many bytes the rune has that bytes begin with; 0: there is none. -/
def sizeL (l : List UInt8) : Nat := if l = [] then 0 else if (l.getD 0 0).toNat < 128 then 1 else if (decL l).2 = 1 then 0 else (decL l).2

theorem get_list (s : ByteArray) (k : Nat) : s.get! k = s.data.toList.getD k 0 := by
  show s.data[k]! = _
  rw [List.getD_eq_getElem?_getD, Array.getElem?_toList]
  simp [Array.getElem!_eq_getD, Array.getD_eq_getD_getElem?]
  rfl
theorem decode_drop (s : ByteArray) (i : Nat) : Utf8.decode s i = decL (s.data.toList.drop i) := by
  rw [Lib.decode_at]
  unfold decL
  have h : ∀ k, (s.data.toList.drop i).getD k 0 = s.get! (i + k) := fun k => by
    rw [get_list, List.getD_eq_getElem?_getD, List.getD_eq_getElem?_getD, List.getElem?_drop]
  have hl : (s.data.toList.drop i).length = s.size - i := by simp
  rw [hl, h, h, h, h]
  rfl

/-- What the decoding hangs on: the first byte, and which of those behind it go on, one after another. -/
theorem decodeN_congr {n n' b0 b1 b2 b3 c1 c2 c3 : Nat} (h1 : (1 < n ∧ b1 / 64 = 2) ↔ (1 < n' ∧ c1 / 64 = 2)) (e1 : (1 < n ∧ b1 / 64 = 2) → b1 = c1)
    (h2 : (1 < n ∧ b1 / 64 = 2) → ((2 < n ∧ b2 / 64 = 2) ↔ (2 < n' ∧ c2 / 64 = 2))) (e2 : (1 < n ∧ b1 / 64 = 2) → (2 < n ∧ b2 / 64 = 2) → b2 = c2)
    (h3 : (1 < n ∧ b1 / 64 = 2) → (2 < n ∧ b2 / 64 = 2) → ((3 < n ∧ b3 / 64 = 2) ↔ (3 < n' ∧ c3 / 64 = 2))) (e3 : (1 < n ∧ b1 / 64 = 2) → (2 < n ∧ b2 / 64 = 2) → (3 < n ∧ b3 / 64 = 2) → b3 = c3) :
    Lib.decodeN n b0 b1 b2 b3 = Lib.decodeN n' b0 c1 c2 c3 := by
  by_cases k1 : 1 < n ∧ b1 / 64 = 2
  · obtain rfl := e1 k1
    have k1' := h1.1 k1
    by_cases k2 : 2 < n ∧ b2 / 64 = 2
    · obtain rfl := e2 k1 k2
      have k2' := (h2 k1).1 k2
      by_cases k3 : 3 < n ∧ b3 / 64 = 2
      · obtain rfl := e3 k1 k2 k3
        have k3' := (h3 k1 k2).1 k3
        simp only [Lib.decodeN, k1, k2, k3, k1', k2', k3', and_self]
      · have k3' : ¬ (3 < n' ∧ c3 / 64 = 2) := fun h => k3 ((h3 k1 k2).2 h)
        simp only [Lib.decodeN, k1, k2, k3, k1', k2', k3', and_self, and_false, if_false]
    · have k2' : ¬ (2 < n' ∧ c2 / 64 = 2) := fun h => k2 ((h2 k1).2 h)
      simp only [Lib.decodeN, k1, k2, k1', k2', and_self, and_false, false_and, if_false]
  · have k1' : ¬ (1 < n' ∧ c1 / 64 = 2) := fun h => k1 (h1.2 h)
    simp only [Lib.decodeN, k1, k1', and_false, false_and, if_false]
theorem decodeN_width (n b0 b1 b2 b3 : Nat) : 1 ≤ (Lib.decodeN n b0 b1 b2 b3).2 ∧ (1 ≤ n → (Lib.decodeN n b0 b1 b2 b3).2 ≤ n) := by
  unfold Lib.decodeN
  repeat' split
  all_goals simp only
  all_goals omega
theorem decodeN_lead (n b0 b1 b2 b3 : Nat) (_h : 128 ≤ b0) (_hb : b0 < 256) : (Lib.decodeN n b0 b1 b2 b3).2 = 1 ∨ b0 / 64 = 3 := by
  unfold Lib.decodeN
  repeat' split
  all_goals first | exact .inl rfl | (right; omega)
/-- The rune of a wrong beginning is U+FFFD; of a right one that is U+FFFD the bytes are known. -/
theorem decodeN_error (n b0 b1 b2 b3 : Nat) (h : 128 ≤ b0) (_hb : b0 < 256) (_h1 : b1 < 256) (_h2 : b2 < 256) (_h3 : b3 < 256) :
    ((Lib.decodeN n b0 b1 b2 b3).2 = 1 → (Lib.decodeN n b0 b1 b2 b3).1 = 65533 ∧ ¬ (2 < n ∧ b0 = 239 ∧ b1 = 191 ∧ b2 = 189)) ∧
    ((Lib.decodeN n b0 b1 b2 b3).2 ≠ 1 → (Lib.decodeN n b0 b1 b2 b3).1 = 65533 → 2 < n ∧ b0 = 239 ∧ b1 = 191 ∧ b2 = 189) := by
  unfold Lib.decodeN
  repeat' split
  all_goals simp only
  all_goals refine ⟨fun _ => ⟨?_, ?_⟩, fun _ _ => ?_⟩
  all_goals omega
/-- More bytes behind a rune that is right change nothing. -/
theorem decodeN_more {n n' b0 b1 b2 b3 c1 c2 c3 : Nat} (hn : n ≤ n') (h1 : 1 < n → c1 = b1) (h2 : 2 < n → c2 = b2) (h3 : 3 < n → c3 = b3) (hw : (Lib.decodeN n b0 b1 b2 b3).2 ≠ 1) :
    Lib.decodeN n' b0 c1 c2 c3 = Lib.decodeN n b0 b1 b2 b3 := by
  by_cases k1 : 1 < n ∧ b1 / 64 = 2
  · obtain rfl := h1 k1.1
    have k1' : 1 < n' ∧ c1 / 64 = 2 := ⟨by omega, k1.2⟩
    by_cases k2 : 2 < n ∧ b2 / 64 = 2
    · obtain rfl := h2 k2.1
      have k2' : 2 < n' ∧ c2 / 64 = 2 := ⟨by omega, k2.2⟩
      by_cases k3 : 3 < n ∧ b3 / 64 = 2
      · obtain rfl := h3 k3.1
        have k3' : 3 < n' ∧ c3 / 64 = 2 := ⟨by omega, k3.2⟩
        simp only [Lib.decodeN, k1, k2, k3, k1', k2', k3', and_self]
      · simp only [Lib.decodeN, k1, k2, k3, k1', k2', and_self, and_true, and_false, if_false] at hw ⊢
        by_cases q0 : b0 < 128
        · simp only [q0, if_true]
        · by_cases q1 : b0 / 32 = 6
          · simp only [q0, q1, if_true, if_false]
          · by_cases q2 : b0 / 16 = 14
            · simp only [q0, q1, q2, if_true, if_false]
            · simp only [q0, q1, q2, if_false] at hw
              exact absurd rfl hw
    · simp only [Lib.decodeN, k1, k2, k1', and_self, and_true, and_false, false_and, if_false] at hw ⊢
      by_cases q0 : b0 < 128
      · simp only [q0, if_true]
      · by_cases q1 : b0 / 32 = 6
        · simp only [q0, q1, if_true, if_false]
        · simp only [q0, q1, if_false] at hw
          exact absurd rfl hw
  · simp only [Lib.decodeN, k1, and_false, false_and, if_false] at hw
    split at hw
    · exact absurd rfl hw
    · exact absurd rfl hw

theorem app_getD (a t : List UInt8) (k : Nat) (h : k < a.length) : (a ++ t).getD k 0 = a.getD k 0 := by
  rw [List.getD_eq_getElem?_getD, List.getD_eq_getElem?_getD, List.getElem?_append_left h]
theorem app_getD' (a t : List UInt8) (k : Nat) (h : a.length ≤ k) : (a ++ t).getD k 0 = t.getD (k - a.length) 0 := by
  rw [List.getD_eq_getElem?_getD, List.getD_eq_getElem?_getD, List.getElem?_append_right h]
theorem sizeL_le (l : List UInt8) : sizeL l ≤ l.length := by
  unfold sizeL
  have := (decodeN_width l.length (l.getD 0 0).toNat (l.getD 1 0).toNat (l.getD 2 0).toNat (l.getD 3 0).toNat).2
  cases l with
  | nil => simp
  | cons c t =>
    have h1 := this (by simp)
    rw [if_neg (by simp)]
    split
    · simp
    · split
      · simp
      · exact h1
theorem sizeL_app (a t : List UInt8) (h : sizeL a ≠ 0) : sizeL (a ++ t) = sizeL a := by
  cases a with
  | nil => exact absurd rfl h
  | cons c a =>
    have e0 : ((c :: a) ++ t).getD 0 0 = (c :: a).getD 0 0 := app_getD _ _ _ (by simp)
    have hne : c :: a ≠ [] := by simp
    have hne2 : (c :: a) ++ t ≠ [] := by simp
    unfold sizeL at h ⊢
    rw [if_neg hne] at h
    rw [if_neg hne2, if_neg hne, e0]
    by_cases h8 : ((c :: a).getD 0 0).toNat < 128
    · rw [if_pos h8, if_pos h8]
    · rw [if_neg h8] at h ⊢
      rw [if_neg h8]
      have hw : (decL (c :: a)).2 ≠ 1 := fun e => h (by rw [if_pos e])
      have hm : decL ((c :: a) ++ t) = decL (c :: a) := by
        unfold decL at hw ⊢
        rw [e0]
        exact decodeN_more (by simp) (fun hk => by rw [app_getD _ _ _ hk]) (fun hk => by rw [app_getD _ _ _ hk]) (fun hk => by rw [app_getD _ _ _ hk]) hw
      rw [hm]
/-- Bytes that don't begin with one that goes on. -/
def leads (t : List UInt8) : Prop := t = [] ∨ (t.getD 0 0).toNat / 64 ≠ 2
theorem decL_app (a t : List UInt8) (ha : a ≠ []) (ht : leads t) : decL (a ++ t) = decL a := by
  have hl : 1 ≤ a.length := by cases a with | nil => exact absurd rfl ha | cons => simp
  have e0 : (a ++ t).getD 0 0 = a.getD 0 0 := app_getD _ _ _ hl
  -- the byte right behind a does not go on
  have hnext : ∀ k, a.length = k → ¬ (k < (a ++ t).length ∧ ((a ++ t).getD k 0).toNat / 64 = 2) := fun k hk hc => by
    rcases ht with rfl | ht
    · simp at hc; omega
    · rw [app_getD' _ _ _ (by omega), hk, Nat.sub_self] at hc
      exact ht hc.2
  have hz : ∀ k, a.length ≤ k → (a.getD k 0).toNat / 64 ≠ 2 := fun k hk => by
    rw [List.getD_eq_getElem?_getD, List.getElem?_eq_none hk]
    decide
  have hin : ∀ k, k < a.length → ((k < (a ++ t).length ∧ ((a ++ t).getD k 0).toNat / 64 = 2) ↔ (k < a.length ∧ (a.getD k 0).toNat / 64 = 2)) := fun k hk => by
    rw [app_getD _ _ _ hk, List.length_append]
    exact ⟨fun h => ⟨hk, h.2⟩, fun h => ⟨by omega, h.2⟩⟩
  unfold decL
  rw [e0]
  by_cases k1 : 1 < a.length
  · by_cases k2 : 2 < a.length
    · by_cases k3 : 3 < a.length
      · refine decodeN_congr (hin 1 k1) (fun _ => by rw [app_getD _ _ _ k1]) (fun _ => hin 2 k2) (fun _ _ => by rw [app_getD _ _ _ k2]) (fun _ _ => hin 3 k3) (fun _ _ _ => by rw [app_getD _ _ _ k3])
      · have n3 := hnext 3 (by omega)
        refine decodeN_congr (hin 1 k1) (fun _ => by rw [app_getD _ _ _ k1]) (fun _ => hin 2 k2) (fun _ _ => by rw [app_getD _ _ _ k2]) (fun _ _ => ⟨fun h => absurd h n3, fun h => absurd h.1 k3⟩) (fun _ _ h => absurd h n3)
    · have n2 := hnext 2 (by omega)
      refine decodeN_congr (hin 1 k1) (fun _ => by rw [app_getD _ _ _ k1]) (fun _ => ⟨fun h => absurd h n2, fun h => absurd h.1 k2⟩) (fun _ h => absurd h n2) (fun _ h => absurd h n2) (fun _ h => absurd h n2)
  · have n1 := hnext 1 (by omega)
    refine decodeN_congr ⟨fun h => absurd h n1, fun h => absurd h.1 k1⟩ (fun h => absurd h n1) (fun h => absurd h n1) (fun h => absurd h n1) (fun h => absurd h n1) (fun h => absurd h n1)
theorem sizeL_app0 (a t : List UInt8) (ha : a ≠ []) (h : sizeL a = 0) (ht : leads t) : sizeL (a ++ t) = 0 := by
  have hm := decL_app a t ha ht
  have hl : 1 ≤ a.length := by cases a with | nil => exact absurd rfl ha | cons => simp
  have e0 : (a ++ t).getD 0 0 = a.getD 0 0 := app_getD _ _ _ hl
  unfold sizeL at h ⊢
  rw [if_neg (by simp [ha]), e0, hm]
  rw [if_neg ha] at h
  exact h
theorem leads_of (t : List UInt8) (h : t ≠ [] → sizeL t ≠ 0) : leads t := by
  by_cases ht : t = []
  · exact .inl ht
  · right
    have h1 := h ht
    have hl := decodeN_lead t.length (t.getD 0 0).toNat (t.getD 1 0).toNat (t.getD 2 0).toNat (t.getD 3 0).toNat
    unfold sizeL at h1
    rw [if_neg ht] at h1
    by_cases h8 : (t.getD 0 0).toNat < 128
    · omega
    · rw [if_neg h8] at h1
      have hw : (decL t).2 ≠ 1 := fun e => h1 (by rw [if_pos e])
      rcases hl (by omega) (t.getD 0 0).toNat_lt with h2 | h2
      · exact absurd h2 hw
      · omega

/-- How many runes bytes have; none: they are wrong. -/
def cntF : Nat → List UInt8 → Option Nat
  | 0, _ => some 0
  | n + 1, l => if l = [] then some 0 else if sizeL l = 0 then none else (cntF n (l.drop (sizeL l))).map (· + 1)
def cntL (l : List UInt8) : Option Nat := cntF l.length l
theorem cntF_more : ∀ (n m : Nat) (l : List UInt8), l.length ≤ n → l.length ≤ m → cntF n l = cntF m l := by
  intro n
  induction n with
  | zero =>
    intro m l h _
    have : l = [] := List.length_eq_zero_iff.1 (by omega)
    subst this
    cases m <;> simp [cntF]
  | succ n ih =>
    intro m l h h'
    cases m with
    | zero =>
      have : l = [] := List.length_eq_zero_iff.1 (by omega)
      subst this
      simp [cntF]
    | succ m =>
      simp only [cntF]
      by_cases hl : l = []
      · rw [if_pos hl, if_pos hl]
      · rw [if_neg hl, if_neg hl]
        by_cases hs : sizeL l = 0
        · rw [if_pos hs, if_pos hs]
        · rw [if_neg hs, if_neg hs, ih m _ (by rw [List.length_drop]; omega) (by rw [List.length_drop]; omega)]
theorem cnt_nil : cntL [] = some 0 := rfl
theorem cnt_wrong {l : List UInt8} (hl : l ≠ []) (h : sizeL l = 0) : cntL l = none := by
  unfold cntL
  cases l with
  | nil => exact absurd rfl hl
  | cons c l => simp only [List.length_cons, cntF]; rw [if_neg hl, if_pos h]
theorem cnt_step {l : List UInt8} (h : sizeL l ≠ 0) : cntL l = (cntL (l.drop (sizeL l))).map (· + 1) := by
  have hle := sizeL_le l
  cases l with
  | nil => exact absurd rfl h
  | cons c l =>
    unfold cntL
    rw [List.length_cons]
    conv => lhs; unfold cntF
    rw [if_neg (by simp), if_neg h]
    congr 1
    exact cntF_more _ _ _ (by rw [List.length_drop, List.length_cons]; omega) (Nat.le_refl _)
theorem cnt_ind (C : List UInt8 → Prop) (h0 : C []) (h1 : ∀ l, l ≠ [] → sizeL l = 0 → C l) (h2 : ∀ l, sizeL l ≠ 0 → C (l.drop (sizeL l)) → C l) : ∀ l, C l := by
  have : ∀ (n : Nat) (l : List UInt8), l.length ≤ n → C l := by
    intro n
    induction n with
    | zero =>
      intro l h
      have : l = [] := List.length_eq_zero_iff.1 (by omega)
      subst this
      exact h0
    | succ n ih =>
      intro l h
      by_cases hl : l = []
      · subst hl; exact h0
      · by_cases hs : sizeL l = 0
        · exact h1 l hl hs
        · exact h2 l hs (ih _ (by have := sizeL_le l; rw [List.length_drop]; omega))
  exact fun l => this l.length l (Nat.le_refl _)
theorem cnt_leads {t : List UInt8} {m : Nat} (h : cntL t = some m) : leads t := leads_of t fun ht hs => by rw [cnt_wrong ht hs] at h; cases h
theorem drop_app_le (a t : List UInt8) (k : Nat) (h : k ≤ a.length) : (a ++ t).drop k = a.drop k ++ t := by rw [List.drop_append_of_le_length h]
/-- Two texts together. -/
theorem cnt_app (t : List UInt8) (ht : leads t) : ∀ a : List UInt8, cntL (a ++ t) = (cntL a).bind fun n => (cntL t).map (n + ·) := by
  refine cnt_ind _ ?_ ?_ ?_
  · rw [List.nil_append, cnt_nil]
    simp
  · intro a ha hs
    rw [cnt_wrong (by simp [ha]) (sizeL_app0 a t ha hs ht), cnt_wrong ha hs]
    rfl
  · intro a hs ih
    have e := sizeL_app a t hs
    rw [cnt_step (l := a ++ t) (by rw [e]; exact hs), e, drop_app_le _ _ _ (sizeL_le a), ih, cnt_step hs]
    cases cntL (a.drop (sizeL a)) with
    | none => rfl
    | some n =>
      cases cntL t with
      | none => rfl
      | some m => simp; omega
/-- A wrong text behind a right one. -/
theorem cnt_app_wrong (t : List UInt8) (ht : cntL t = none) : ∀ a : List UInt8, ∀ n, cntL a = some n → cntL (a ++ t) = none := by
  refine cnt_ind _ ?_ ?_ ?_
  · intro n _
    rw [List.nil_append]
    exact ht
  · intro a ha hs n h
    rw [cnt_wrong ha hs] at h
    cases h
  · intro a hs ih n h
    have e := sizeL_app a t hs
    rw [cnt_step hs] at h
    cases hc : cntL (a.drop (sizeL a)) with
    | none => rw [hc] at h; cases h
    | some m =>
      rw [cnt_step (l := a ++ t) (by rw [e]; exact hs), e, drop_app_le _ _ _ (sizeL_le a), ih m hc]
      rfl
theorem cnt_le : ∀ (l : List UInt8) (n : Nat), cntL l = some n → n ≤ l.length := by
  refine cnt_ind _ ?_ ?_ ?_
  · intro n h; cases h; exact Nat.zero_le _
  · intro l hl hs n h; rw [cnt_wrong hl hs] at h; cases h
  · intro l hs ih n h
    rw [cnt_step hs] at h
    cases hc : cntL (l.drop (sizeL l)) with
    | none => rw [hc] at h; cases h
    | some m =>
      rw [hc] at h
      have := ih m hc
      have h1 := sizeL_le l
      rw [List.length_drop] at this
      have h2 : m + 1 = n := by simpa using h
      omega
end Go.Proofs.Ytekmdgjkadglmaa
