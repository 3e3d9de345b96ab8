
/- Plain mathematics: bytes held against each other; bytes of numbers are in the numbers' order. Nothing of the program. -/
import Derived.Test.YtekmdgjkadglmaaFMath
import Derived.Lib.Bytealg
namespace Go.Proofs.Ytekmdgjkadglmaa
open Go.Lib (compareBytes)

theorem cmp_swap : ∀ a b : List UInt8, compareBytes a b = - compareBytes b a := by
  intro a
  induction a with
  | nil => intro b; cases b <;> simp [compareBytes]
  | cons x a ih =>
    intro b
    cases b with
    | nil => simp [compareBytes]
    | cons y b =>
      simp only [compareBytes]
      by_cases h1 : x < y
      · have h2 : ¬ y < x := by simp only [UInt8.lt_iff_toNat_lt] at *; omega
        simp [h1, h2]
      · by_cases h2 : y < x
        · simp [h1, h2]
        · simp [h1, h2, ih b]
theorem cmp_cases : ∀ a b : List UInt8, (compareBytes a b = -1) ∨ (compareBytes a b = 0 ∧ a = b) ∨ compareBytes a b = 1 := by
  intro a
  induction a with
  | nil => intro b; cases b <;> simp [compareBytes]
  | cons x a ih =>
    intro b
    cases b with
    | nil => simp [compareBytes]
    | cons y b =>
      simp only [compareBytes]
      by_cases h1 : x < y
      · simp [h1]
      · by_cases h2 : y < x
        · simp [h1, h2]
        · have e : x = y := by apply UInt8.toNat.inj; simp only [UInt8.lt_iff_toNat_lt] at *; omega
          simpa [h1, h2, e] using ih b
theorem cmp_self (a : List UInt8) : compareBytes a a = 0 := by
  have := cmp_swap a a
  omega
theorem cmp_trans : ∀ a b c : List UInt8, compareBytes a b < 0 → compareBytes b c < 0 → compareBytes a c < 0 := by
  intro a
  induction a with
  | nil =>
    intro b c h1 h2
    cases c with
    | nil => cases b <;> simp [compareBytes] at h1 h2
    | cons z c => simp [compareBytes]
  | cons x a ih =>
    intro b c h1 h2
    cases b with
    | nil => simp [compareBytes] at h1
    | cons y b =>
      cases c with
      | nil => simp [compareBytes] at h2
      | cons z c =>
        simp only [compareBytes] at h1 h2 ⊢
        by_cases a1 : x < y
        · by_cases a2 : z < y
          · have : ¬ y < z := by simp only [UInt8.lt_iff_toNat_lt] at *; omega
            simp [this, a2] at h2
          · have : x < z := by simp only [UInt8.lt_iff_toNat_lt] at *; omega
            simp [this]
        · by_cases a2 : y < x
          · simp [a1, a2] at h1
          · have e : x = y := by apply UInt8.toNat.inj; simp only [UInt8.lt_iff_toNat_lt] at *; omega
            subst e
            simp only [a1, if_false] at h1
            by_cases a3 : x < z
            · simp [a3]
            · by_cases a4 : z < x
              · simp [a3, a4] at h2
              · simp only [a3, a4, if_false] at h2 ⊢
                exact ih b c h1 h2
theorem cmp_append (a c : List UInt8) : compareBytes a (a ++ c) ≤ 0 := by
  induction a with
  | nil => cases c <;> simp [compareBytes]
  | cons x a ih =>
    have : ¬ x < x := by simp
    simpa [compareBytes, this] using ih

theorem cmp_low (n m : Nat) : ∀ k, n % 256 ^ k < m % 256 ^ k → compareBytes (lowL n k) (lowL m k) = -1 := by
  intro k
  induction k with
  | zero => intro h; simp [Nat.mod_one] at h
  | succ k ih =>
    intro h
    have hp : 0 < 256 ^ k := Nat.pow_pos (by decide)
    rw [Nat.pow_succ, Nat.mod_mul, Nat.mod_mul] at h
    have e : ∀ x : Nat, (UInt8.ofNat (x / 256 ^ k)).toNat = x / 256 ^ k % 256 := fun x => by rw [UInt8.toNat_ofNat']
    simp only [lowL, compareBytes]
    have hn := Nat.mod_lt n hp
    have hm := Nat.mod_lt m hp
    by_cases h1 : n / 256 ^ k % 256 < m / 256 ^ k % 256
    · rw [if_pos (by rw [UInt8.lt_iff_toNat_lt, e, e]; exact h1)]
    · have h2 : ¬ m / 256 ^ k % 256 < n / 256 ^ k % 256 := by
        intro h3
        have : 256 ^ k * (m / 256 ^ k % 256 + 1) ≤ 256 ^ k * (n / 256 ^ k % 256) := Nat.mul_le_mul_left _ h3
        rw [Nat.mul_add] at this
        omega
      have h3 : n / 256 ^ k % 256 = m / 256 ^ k % 256 := by omega
      rw [h3] at h
      rw [if_neg (by rw [UInt8.lt_iff_toNat_lt, e, e]; omega), if_neg (by rw [UInt8.lt_iff_toNat_lt, e, e]; omega)]
      exact ih (by omega)

theorem head_mono (n m : Nat) (h : n < m) (hm : m < 18446744073709551616) : headN n < headN m ∨ (headN n = headN m ∧ tailN n % 256 ^ fol (headN n) < tailN m % 256 ^ fol (headN n)) := by
  obtain ⟨p0, p1, p2, p3, p4, p5, p6, p7, p8⟩ := pow_bytes
  have h1 := head_cases n (by omega)
  have h2 := head_cases m hm
  have hf := fol_cases (headN n) (headN_le n)
  rcases hf with ⟨a, b⟩ | ⟨a, b, d⟩ | ⟨a, b⟩ | ⟨a, b⟩ | ⟨a, b⟩ | ⟨a, b⟩ | ⟨a, b⟩ | ⟨a, b⟩ | ⟨a, b⟩ <;> (first | rw [b] | rw [d]) <;> simp only [p0, p1, p2, p3, p4, p5, p6, p7, p8] <;> omega
theorem cmp_put (n m : Nat) (h : n < m) (hm : m < 18446744073709551616) : compareBytes (putL n) (putL m) = -1 := by
  have e : ∀ x : Nat, (UInt8.ofNat (headN x)).toNat = headN x := fun x => by rw [UInt8.toNat_ofNat']; have := headN_le x; omega
  unfold putL spellL
  simp only [compareBytes]
  rcases head_mono n m h hm with h1 | ⟨h1, h2⟩
  · rw [if_pos (by rw [UInt8.lt_iff_toNat_lt, e, e]; exact h1)]
  · rw [if_neg (by rw [UInt8.lt_iff_toNat_lt, e, e]; omega), if_neg (by rw [UInt8.lt_iff_toNat_lt, e, e]; omega), ← h1]
    exact cmp_low _ _ _ h2
theorem fol_mono (c d : Nat) (h : c ≤ d) (hd : d ≤ 255) : fol c ≤ fol d := by
  have h1 := fol_cases c (by omega)
  have h2 := fol_cases d hd
  omega
theorem len_mono (n m : Nat) (h : n < m) (hm : m < 18446744073709551616) : (putL n).length ≤ (putL m).length := by
  rw [putL_length, putL_length]
  have := fol_mono (headN n) (headN m) (by rcases head_mono n m h hm with h | ⟨h, _⟩ <;> omega) (headN_le m)
  omega
end Go.Proofs.Ytekmdgjkadglmaa
