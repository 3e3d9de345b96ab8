
/- Plain mathematics of layer 2: a number's bytes, the number of bytes, that they are one to one and in order. Nothing of the program. -/
namespace Go.Proofs.Ytekmdgjkadglmaa

/-- How many bytes stand behind a first byte. -/
def fol (c : Nat) : Nat := if c ≤ 240 then 0 else if c ≤ 248 then 1 else c - 247
/-- The k lowest bytes of a number, the greatest first. -/
def lowL (n : Nat) : Nat → List UInt8
  | 0 => []
  | k + 1 => UInt8.ofNat (n / 256 ^ k) :: lowL n k
/-- The number of bytes. -/
def numL (l : List UInt8) : Nat := l.foldl (fun a b => 256 * a + b.toNat) 0
/-- How many bytes a great number has. -/
def nb (n : Nat) : Nat := if n < 16777216 then 3 else if n < 4294967296 then 4 else if n < 1099511627776 then 5 else if n < 281474976710656 then 6 else if n < 72057594037927936 then 7 else 8
def headN (n : Nat) : Nat := if n ≤ 240 then n else if n < 2288 then 241 + (n - 240) / 256 else if n < 67824 then 249 else 247 + nb n
def tailN (n : Nat) : Nat := if n ≤ 240 then 0 else if n < 2288 then n - 240 else if n < 67824 then n - 2288 else n
def spellL (c n : Nat) : List UInt8 := UInt8.ofNat c :: lowL n (fol c)
/-- A number's bytes. -/
def putL (n : Nat) : List UInt8 := spellL (headN n) (tailN n)
/-- The number of a first byte and the number behind it. -/
def valN (c m : Nat) : Nat := if c ≤ 240 then m + c else if c ≤ 249 then m + 256 * (c - 241) + 240 else m
inductive GR
  | more
  | bad
  | ok (n k : Nat)
/-- The number that bytes begin with, and how many bytes it has. -/
def getL : List UInt8 → GR
  | [] => .more
  | c :: t => if t.length < fol c.toNat then .more else if (putL (valN c.toNat (numL (t.take (fol c.toNat))))).length < 1 + fol c.toNat then .bad else .ok (valN c.toNat (numL (t.take (fol c.toNat)))) (1 + fol c.toNat)

theorem lowL_length (n k : Nat) : (lowL n k).length = k := by
  induction k with
  | zero => rfl
  | succ k ih => simp [lowL, ih]
theorem putL_length (n : Nat) : (putL n).length = 1 + fol (headN n) := by simp [putL, spellL, lowL_length]; omega
theorem fol_le (c : Nat) (h : c ≤ 255) : fol c ≤ 8 := by unfold fol; split; omega; split <;> omega
theorem headN_le (n : Nat) : headN n ≤ 255 := by
  unfold headN nb
  split; omega
  split; omega
  split; omega
  repeat (split; omega)
  omega
theorem putL_len1 (n : Nat) : 1 ≤ (putL n).length := by rw [putL_length]; omega
theorem putL_len9 (n : Nat) : (putL n).length ≤ 9 := by rw [putL_length]; have := fol_le _ (headN_le n); omega

theorem foldl_num (l : List UInt8) (a : Nat) : l.foldl (fun a b => 256 * a + b.toNat) a = a * 256 ^ l.length + numL l := by
  induction l generalizing a with
  | nil => simp [numL]
  | cons c l ih =>
    simp only [List.foldl_cons, List.length_cons, numL]
    rw [ih, ih (256 * 0 + c.toNat), Nat.pow_succ]
    rw [show a * (256 ^ l.length * 256) = (256 * a) * 256 ^ l.length by rw [Nat.mul_comm (256 ^ l.length) 256, ← Nat.mul_assoc, Nat.mul_comm a 256]]
    rw [Nat.add_mul, Nat.mul_zero, Nat.zero_add, Nat.add_assoc]
theorem numL_cons (c : UInt8) (l : List UInt8) : numL (c :: l) = c.toNat * 256 ^ l.length + numL l := by
  show List.foldl _ (256 * 0 + c.toNat) l = _
  rw [foldl_num]
  simp
theorem numL_snoc (l : List UInt8) (c : UInt8) : numL (l ++ [c]) = 256 * numL l + c.toNat := by simp [numL]
theorem numL_lt (l : List UInt8) : numL l < 256 ^ l.length := by
  induction l with
  | nil => simp [numL]
  | cons c l ih =>
    rw [numL_cons, List.length_cons, Nat.pow_succ]
    have hc : c.toNat + 1 ≤ 256 := c.toNat_lt
    have : (c.toNat + 1) * 256 ^ l.length ≤ 256 * 256 ^ l.length := Nat.mul_le_mul_right _ hc
    rw [Nat.add_mul] at this
    omega
theorem numL_lowL (n k : Nat) : numL (lowL n k) = n % 256 ^ k := by
  induction k with
  | zero => simp [lowL, numL, Nat.mod_one]
  | succ k ih =>
    have e : 256 ^ (k + 1) = 256 ^ k * 256 := Nat.pow_succ ..
    rw [lowL, numL_cons, lowL_length, ih, UInt8.toNat_ofNat', e, Nat.mod_mul (a := 256 ^ k) (b := 256), Nat.mul_comm, Nat.add_comm]
theorem lowL_mod (n k : Nat) : ∀ j, j ≤ k → lowL (n % 256 ^ k) j = lowL n j := by
  intro j
  induction j with
  | zero => intro _; rfl
  | succ j ih =>
    intro hj
    simp only [lowL]
    rw [ih (by omega)]
    congr 1
    apply UInt8.toNat.inj
    simp only [UInt8.toNat_ofNat']
    obtain ⟨d, rfl⟩ : ∃ d, k = (j + 1) + d := ⟨k - (j + 1), by omega⟩
    rw [Nat.pow_add, Nat.pow_succ, Nat.mul_assoc, Nat.mod_mul, Nat.add_comm, Nat.mul_add_div (Nat.pow_pos (by decide)), Nat.div_eq_of_lt (Nat.mod_lt _ (Nat.pow_pos (by decide)))]
    simp [Nat.mod_mul_right_mod]
theorem lowL_numL (l : List UInt8) : lowL (numL l) l.length = l := by
  induction l with
  | nil => rfl
  | cons c l ih =>
    have hl := numL_lt l
    have hp : 0 < 256 ^ l.length := Nat.pow_pos (by decide)
    rw [numL_cons, List.length_cons, lowL]
    congr 1
    · apply UInt8.toNat.inj
      rw [UInt8.toNat_ofNat', Nat.mul_comm, Nat.mul_add_div hp, Nat.div_eq_of_lt hl]
      have := c.toNat_lt
      simp
    · rw [← lowL_mod _ l.length _ (Nat.le_refl _), Nat.add_comm, Nat.add_mul_mod_self_right, Nat.mod_eq_of_lt hl, ih]

theorem pow_bytes : 256 ^ 0 = 1 ∧ 256 ^ 1 = 256 ∧ 256 ^ 2 = 65536 ∧ 256 ^ 3 = 16777216 ∧ 256 ^ 4 = 4294967296 ∧ 256 ^ 5 = 1099511627776 ∧ 256 ^ 6 = 281474976710656 ∧ 256 ^ 7 = 72057594037927936 ∧ 256 ^ 8 = 18446744073709551616 := by decide

/-- The cases of a number below two to the power of 64. -/
theorem head_cases (n : Nat) (hn : n < 18446744073709551616) :
    (n ≤ 240 ∧ headN n = n ∧ tailN n = 0) ∨ (240 < n ∧ n < 2288 ∧ headN n = 241 + (n - 240) / 256 ∧ tailN n = n - 240) ∨ (2288 ≤ n ∧ n < 67824 ∧ headN n = 249 ∧ tailN n = n - 2288) ∨
    (67824 ≤ n ∧ tailN n = n ∧ ((headN n = 250 ∧ n < 16777216) ∨ (headN n = 251 ∧ 16777216 ≤ n ∧ n < 4294967296) ∨ (headN n = 252 ∧ 4294967296 ≤ n ∧ n < 1099511627776) ∨ (headN n = 253 ∧ 1099511627776 ≤ n ∧ n < 281474976710656) ∨ (headN n = 254 ∧ 281474976710656 ≤ n ∧ n < 72057594037927936) ∨ (headN n = 255 ∧ 72057594037927936 ≤ n))) := by
  unfold headN tailN nb
  by_cases h1 : n ≤ 240
  · left; simp [h1]
  · by_cases h2 : n < 2288
    · right; left; simp [h1, h2]; omega
    · by_cases h3 : n < 67824
      · right; right; left; simp [h1, h2, h3]; omega
      · right; right; right
        simp only [h1, h2, h3, if_false]
        refine ⟨by omega, trivial, ?_⟩
        by_cases a1 : n < 16777216
        · simp [a1]
        · by_cases a2 : n < 4294967296
          · simp [a1, a2]; omega
          · by_cases a3 : n < 1099511627776
            · simp [a1, a2, a3]; omega
            · by_cases a4 : n < 281474976710656
              · simp [a1, a2, a3, a4]; omega
              · by_cases a5 : n < 72057594037927936
                · simp [a1, a2, a3, a4, a5]; omega
                · simp [a1, a2, a3, a4, a5]; omega
theorem fol_cases (c : Nat) (hc : c ≤ 255) : (c ≤ 240 ∧ fol c = 0) ∨ (240 < c ∧ c ≤ 248 ∧ fol c = 1) ∨ (c = 249 ∧ fol c = 2) ∨ (c = 250 ∧ fol c = 3) ∨ (c = 251 ∧ fol c = 4) ∨ (c = 252 ∧ fol c = 5) ∨ (c = 253 ∧ fol c = 6) ∨ (c = 254 ∧ fol c = 7) ∨ (c = 255 ∧ fol c = 8) := by
  unfold fol
  by_cases h1 : c ≤ 240
  · simp [h1]
  · by_cases h2 : c ≤ 248
    · simp [h1, h2]; omega
    · simp [h1, h2]; omega
theorem val_cases (c m : Nat) : (c ≤ 240 ∧ valN c m = m + c) ∨ (240 < c ∧ c ≤ 249 ∧ valN c m = m + 256 * (c - 241) + 240) ∨ (249 < c ∧ valN c m = m) := by
  unfold valN
  by_cases h1 : c ≤ 240
  · simp [h1]
  · by_cases h2 : c ≤ 249
    · simp [h1, h2]; omega
    · simp [h1, h2]; omega

theorem val_head (n : Nat) (hn : n < 18446744073709551616) : valN (headN n) (tailN n % 256 ^ fol (headN n)) = n := by
  obtain ⟨p0, p1, p2, p3, p4, p5, p6, p7, p8⟩ := pow_bytes
  have hh := head_cases n hn
  have hv := val_cases (headN n) (tailN n % 256 ^ fol (headN n))
  have hf := fol_cases (headN n) (headN_le n)
  rcases hf with ⟨a, b⟩ | ⟨a, b, c⟩ | ⟨a, b⟩ | ⟨a, b⟩ | ⟨a, b⟩ | ⟨a, b⟩ | ⟨a, b⟩ | ⟨a, b⟩ | ⟨a, b⟩ <;> (first | rw [b] at hv | rw [c] at hv) <;> (first | rw [b] | rw [c]) <;> simp only [p0, p1, p2, p3, p4, p5, p6, p7, p8] at hv ⊢ <;> omega

/-- What a first byte and a number behind it stand for has fewer bytes, or just these. -/
theorem head_val (c m : Nat) (hc : c ≤ 255) (hm : m < 256 ^ fol c) : valN c m < 18446744073709551616 ∧ (fol (headN (valN c m)) < fol c ∨ (headN (valN c m) = c ∧ tailN (valN c m) % 256 ^ fol c = m)) := by
  obtain ⟨p0, p1, p2, p3, p4, p5, p6, p7, p8⟩ := pow_bytes
  have hv := val_cases c m
  generalize valN c m = n at hv ⊢
  have hf := fol_cases c hc
  have hlt : n < 18446744073709551616 := by
    rcases hf with ⟨a, b⟩ | ⟨a, b, d⟩ | ⟨a, b⟩ | ⟨a, b⟩ | ⟨a, b⟩ | ⟨a, b⟩ | ⟨a, b⟩ | ⟨a, b⟩ | ⟨a, b⟩ <;> (first | rw [b] at hm | rw [d] at hm) <;> simp only [p0, p1, p2, p3, p4, p5, p6, p7, p8] at hm <;> omega
  refine ⟨hlt, ?_⟩
  have hh := head_cases n hlt
  have hg := fol_cases (headN n) (headN_le n)
  rcases hf with ⟨a, b⟩ | ⟨a, b, d⟩ | ⟨a, b⟩ | ⟨a, b⟩ | ⟨a, b⟩ | ⟨a, b⟩ | ⟨a, b⟩ | ⟨a, b⟩ | ⟨a, b⟩ <;> (first | rw [b] at hm ⊢ | rw [d] at hm ⊢) <;> simp only [p0, p1, p2, p3, p4, p5, p6, p7, p8] at hm ⊢ <;> omega

theorem get_put (n : Nat) (hn : n < 18446744073709551616) (s : List UInt8) : getL (putL n ++ s) = .ok n (putL n).length := by
  have hl := putL_length n
  have hh := headN_le n
  have e : (UInt8.ofNat (headN n)).toNat = headN n := by rw [UInt8.toNat_ofNat']; omega
  have ht : List.take (fol (headN n)) (lowL (tailN n) (fol (headN n)) ++ s) = lowL (tailN n) (fol (headN n)) := by
    rw [List.take_append_of_le_length (by simp [lowL_length]), List.take_of_length_le (by simp [lowL_length])]
  rw [hl]
  show getL (UInt8.ofNat (headN n) :: (lowL (tailN n) (fol (headN n)) ++ s)) = _
  simp only [getL, e, ht, numL_lowL, val_head n hn]
  rw [if_neg (by simp [lowL_length]), if_neg (by omega)]
theorem get_cases (l : List UInt8) : (getL l = .more ∧ (l = [] ∨ ∃ c t, l = c :: t ∧ t.length < fol c.toNat)) ∨
    ∃ c t, l = c :: t ∧ fol c.toNat ≤ t.length ∧ valN c.toNat (numL (t.take (fol c.toNat))) < 18446744073709551616 ∧
      ((getL l = .bad ∧ (putL (valN c.toNat (numL (t.take (fol c.toNat))))).length < 1 + fol c.toNat) ∨
        (getL l = .ok (valN c.toNat (numL (t.take (fol c.toNat)))) (1 + fol c.toNat) ∧ (putL (valN c.toNat (numL (t.take (fol c.toNat))))).length = 1 + fol c.toNat ∧ putL (valN c.toNat (numL (t.take (fol c.toNat)))) = l.take (1 + fol c.toNat))) := by
  cases l with
  | nil => exact .inl ⟨rfl, .inl rfl⟩
  | cons c t =>
    by_cases h : t.length < fol c.toNat
    · exact .inl ⟨by simp [getL, h], .inr ⟨c, t, rfl, h⟩⟩
    · right
      have hc : c.toNat ≤ 255 := by have := c.toNat_lt; omega
      have hlen : (t.take (fol c.toNat)).length = fol c.toNat := by simp; omega
      have hm : numL (t.take (fol c.toNat)) < 256 ^ fol c.toNat := by
        have := numL_lt (t.take (fol c.toNat))
        rwa [hlen] at this
      obtain ⟨h1, h2⟩ := head_val c.toNat _ hc hm
      refine ⟨c, t, rfl, by omega, h1, ?_⟩
      by_cases hb : (putL (valN c.toNat (numL (t.take (fol c.toNat))))).length < 1 + fol c.toNat
      · exact .inl ⟨by simp [getL, h, hb], hb⟩
      · right
        rw [putL_length] at hb
        rcases h2 with h2 | ⟨h2, h3⟩
        · omega
        · refine ⟨by simp [getL, h, putL_length, hb], by rw [putL_length, h2], ?_⟩
          rw [Nat.add_comm 1, List.take_succ_cons]
          unfold putL spellL
          rw [h2]
          congr 1
          · simp
          · rw [← lowL_mod _ _ _ (Nat.le_refl _), h3]
            have := lowL_numL (t.take (fol c.toNat))
            rwa [hlen] at this
theorem put_get {l : List UInt8} {n k : Nat} (h : getL l = .ok n k) : n < 18446744073709551616 ∧ 1 ≤ k ∧ k ≤ l.length ∧ (putL n).length = k ∧ putL n ++ l.drop k = l := by
  rcases get_cases l with ⟨h1, _⟩ | ⟨c, t, rfl, h1, h2, ⟨h3, _⟩ | ⟨h3, h4, h5⟩⟩
  · rw [h1] at h; cases h
  · rw [h3] at h; cases h
  · rw [h3] at h
    obtain ⟨rfl, rfl⟩ : _ = n ∧ _ = k := by simpa using h
    refine ⟨h2, by omega, by simp; omega, h4, ?_⟩
    rw [h5, List.take_append_drop]
/-- Fewer bytes than a number's ask for more. -/
theorem get_short (n k : Nat) (hk : k < (putL n).length) : getL ((putL n).take k) = .more := by
  cases k with
  | zero => rfl
  | succ k =>
    have hl := putL_length n
    have hh := headN_le n
    have e : (UInt8.ofNat (headN n)).toNat = headN n := by rw [UInt8.toNat_ofNat']; omega
    rw [hl] at hk
    unfold putL spellL
    rw [List.take_succ_cons]
    simp only [getL, e]
    rw [if_pos]
    simp [lowL_length]
    omega
end Go.Proofs.Ytekmdgjkadglmaa
