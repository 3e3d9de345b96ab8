/- The plain mathematics of the page's own way to a sum: the text with noughts and its length behind it, eight by eight; bytes added up. -/
import Derived.Test.YtkhlfgbfgebdeaaSumMath
namespace Go.Proofs.Ytkhlfgbfgebdeaa

theorem bsh_toNat (b : UInt8) (k : Nat) (h : k < 8) : (bsh b (8 * k)).toNat = b.toNat * 2 ^ (8 * k) := by
  have hb := b.toNat_lt
  unfold bsh
  rw [BitVec.toNat_shiftLeft, BitVec.toNat_ofNat, Nat.shiftLeft_eq, Nat.mod_eq_of_lt (a := b.toNat) (by omega)]
  refine Nat.mod_eq_of_lt ?_
  calc b.toNat * 2 ^ (8 * k) < 2 ^ 8 * 2 ^ (8 * k) := Nat.mul_lt_mul_of_pos_right (by omega) (Nat.two_pow_pos _)
    _ = 2 ^ (8 + 8 * k) := (Nat.pow_add 2 8 (8 * k)).symm
    _ ≤ 2 ^ 64 := Nat.pow_le_pow_right (by decide) (by omega)
theorem wd_lt (l : List UInt8) : ∀ k, k ≤ 8 → (wd k l).toNat < 2 ^ (8 * k) := by
  intro k
  induction k with
  | zero => intro _; show (0#64).toNat < _; simp
  | succ k ih =>
    intro h
    show (wd k l ||| bsh (l.getD k 0) (8 * k)).toNat < _
    rw [BitVec.toNat_or]
    refine Nat.or_lt_two_pow (Nat.lt_of_lt_of_le (ih (by omega)) (Nat.pow_le_pow_right (by decide) (by omega))) ?_
    rw [bsh_toNat _ _ (by omega)]
    have hb := (l.getD k 0).toNat_lt
    calc (l.getD k 0).toNat * 2 ^ (8 * k) < 2 ^ 8 * 2 ^ (8 * k) := Nat.mul_lt_mul_of_pos_right (by omega) (Nat.two_pow_pos _)
      _ = 2 ^ (8 * (k + 1)) := by rw [← Nat.pow_add]; congr 1; omega
/-- A byte that is added is put in. -/
theorem wd_add (l : List UInt8) (k : Nat) (h : k < 8) (b : UInt8) : wd k l + bsh b (8 * k) = wd k l ||| bsh b (8 * k) := by
  have h1 := wd_lt l k (by omega)
  have h2 := bsh_toNat b k h
  have hj : (bsh b (8 * k)).toNat ||| (wd k l).toNat = (bsh b (8 * k)).toNat + (wd k l).toNat := nat_join (8 * k) _ _ (by rw [h2]; exact Nat.mul_mod_left _ _) h1
  apply BitVec.eq_of_toNat_eq
  rw [BitVec.toNat_or, Nat.or_comm, hj, BitVec.toNat_add, Nat.add_comm]
  refine Nat.mod_eq_of_lt ?_
  rw [← hj]
  exact Nat.or_lt_two_pow (bsh b (8 * k)).isLt (wd k l).isLt

/-- The text, noughts, and how many bytes there are. -/
def pad (l : List UInt8) (z : Nat) : List UInt8 := l ++ (List.replicate z 0 ++ [UInt8.ofNat l.length])
theorem pad_length (l : List UInt8) (z : Nat) : (pad l z).length = l.length + z + 1 := by simp [pad]; omega
/-- An eight that lies within the text. -/
theorem pad_word (l : List UInt8) (z i : Nat) (h : 8 * (i + 1) ≤ l.length) : wd 8 ((pad l z).drop (8 * i)) = wd 8 (l.drop (8 * i)) := by
  refine wd_congr _ _ 8 fun j hj => ?_
  unfold pad
  rw [List.getD_eq_getElem?_getD, List.getD_eq_getElem?_getD, List.getElem?_drop, List.getElem?_drop, List.getElem?_append_left (by omega)]
/-- The last eight. -/
theorem pad_last (l : List UInt8) (z : Nat) (h : (l.length + z) % 8 = 7) (hz : z < 8) : wd 8 ((pad l z).drop (8 * (l.length / 8))) = lastW (l.drop (8 * (l.length / 8))) l.length := by
  obtain ⟨q, hq⟩ : ∃ q, q = l.length / 8 := ⟨_, rfl⟩
  rw [← hq]
  have h7 : wd 7 ((pad l z).drop (8 * q)) = wd 7 (l.drop (8 * q)) := by
    refine wd_congr _ _ 7 fun j hj => ?_
    unfold pad
    rw [List.getD_eq_getElem?_getD, List.getD_eq_getElem?_getD, List.getElem?_drop, List.getElem?_drop]
    by_cases hl : 8 * q + j < l.length
    · rw [List.getElem?_append_left hl]
    · rw [List.getElem?_append_right (by omega), List.getElem?_append_left (by simp; omega), List.getElem?_eq_none (l := l) (by omega), List.getElem?_replicate]
      split <;> rfl
  have h8 : wd 8 (l.drop (8 * q)) = wd 7 (l.drop (8 * q)) := wd_short _ 7 1 (by rw [List.length_drop]; omega)
  have hb : ((pad l z).drop (8 * q)).getD 7 0 = UInt8.ofNat l.length := by
    unfold pad
    rw [List.getD_eq_getElem?_getD, List.getElem?_drop, List.getElem?_append_right (by omega), List.getElem?_append_right (by simp; omega)]
    have : 8 * q + 7 - l.length - (List.replicate z (0 : UInt8)).length = 0 := by simp; omega
    rw [this]
    rfl
  show wd 7 ((pad l z).drop (8 * q)) ||| bsh (((pad l z).drop (8 * q)).getD 7 0) (8 * 7) = _
  rw [h7, hb]
  unfold lastW bsh
  rw [h8]
  simp
theorem pad_eat1 (l : List UInt8) (z : Nat) (v : Q4) : ∀ b, 8 * b ≤ l.length → (eatL b v (pad l z)).1 = (eatL b v l).1 := by
  intro b
  induction b with
  | zero => intro _; rfl
  | succ b ih =>
    intro h
    rw [(eatL_step b v (pad l z) (by rw [pad_length]; omega)).2 (by rw [pad_length]; omega), (eatL_step b v l (by omega)).2 h, ih (by omega), pad_word l z b h]
/-- The whole text with noughts and its length behind it, taken in. -/
theorem pad_eat (l : List UInt8) (z : Nat) (v : Q4) (h : l.length % 8 + z = 7) : (eatL (l.length / 8 + 1) v (pad l z)).1 = tk (eatL (l.length / 8) v l).1 (lastW (l.drop (8 * (l.length / 8))) l.length) := by
  rw [(eatL_step (l.length / 8) v (pad l z) (by rw [pad_length]; omega)).2 (by rw [pad_length]; omega), pad_eat1 l z v _ (by omega), pad_last l z (by omega) (by omega)]
theorem wd_at (l : List UInt8) (i k : Nat) (h : i + k < l.length) : wd (k + 1) (l.drop i) = wd k (l.drop i) ||| bsh l[i + k] (8 * k) := by
  rw [wd_next _ _ (by rw [List.length_drop]; omega)]
  congr 2
  rw [List.getElem_drop]
end Go.Proofs.Ytkhlfgbfgebdeaa
