/- The plain mathematics of a sum: what is taken in of a list of bytes, eight by eight, and what is left. -/
import Derived.Test.YtkhlfgbfgebdeaaMath
namespace Go.Proofs.Ytkhlfgbfgebdeaa

theorem wd_congr (l r : List UInt8) : ∀ k, (∀ j, j < k → l.getD j 0 = r.getD j 0) → wd k l = wd k r := by
  intro k
  induction k with
  | zero => intro _; rfl
  | succ k ih =>
    intro h
    show wd k l ||| bsh (l.getD k 0) (8 * k) = wd k r ||| bsh (r.getD k 0) (8 * k)
    rw [ih (fun j hj => h j (by omega)), h k (by omega)]
theorem wd_take (l : List UInt8) : wd 8 (l.take 8) = wd 8 l := by
  refine wd_congr _ _ 8 fun j hj => ?_
  simp [List.getD_eq_getElem?_getD, hj]

/-- As many eights as there are, at most k, taken in, and what is left. -/
def eatL : Nat → Q4 → List UInt8 → Q4 × List UInt8
  | 0, v, l => (v, l)
  | k + 1, v, l => if 8 ≤ l.length then eatL k (tk v (wd 8 l)) (l.drop 8) else (v, l)

theorem eatL_short (k : Nat) (v : Q4) (l : List UInt8) (h : ¬ 8 ≤ l.length) : eatL k v l = (v, l) := by
  cases k <;> simp [eatL, h]
theorem eatL_step : ∀ (k : Nat) (v : Q4) (l : List UInt8), 8 * k ≤ l.length → (eatL k v l).2 = l.drop (8 * k) ∧ (8 * (k + 1) ≤ l.length → (eatL (k + 1) v l).1 = tk (eatL k v l).1 (wd 8 (l.drop (8 * k)))) := by
  intro k
  induction k with
  | zero =>
    intro v l _
    refine ⟨by simp [eatL], fun h => ?_⟩
    have h8 : 8 ≤ l.length := by omega
    simp [eatL, h8]
  | succ k ih =>
    intro v l h
    have h8 : 8 ≤ l.length := by omega
    obtain ⟨h1, h2⟩ := ih (tk v (wd 8 l)) (l.drop 8) (by rw [List.length_drop]; omega)
    have e1 : eatL (k + 1) v l = eatL k (tk v (wd 8 l)) (l.drop 8) := by
      show (if 8 ≤ l.length then _ else _) = _
      rw [if_pos h8]
    have e2 : eatL (k + 1 + 1) v l = eatL (k + 1) (tk v (wd 8 l)) (l.drop 8) := by
      show (if 8 ≤ l.length then _ else _) = _
      rw [if_pos h8]
    have hd : ∀ j, (l.drop 8).drop (8 * j) = l.drop (8 * (j + 1)) := fun j => by rw [List.drop_drop]; congr 1; omega
    rw [e1, e2]
    refine ⟨by rw [h1, hd], fun hh => ?_⟩
    rw [h2 (by rw [List.length_drop]; omega), hd]
theorem eatL_enough : ∀ (k : Nat) (v : Q4) (l : List UInt8), l.length / 8 ≤ k → eatL k v l = eatL (l.length / 8) v l := by
  intro k
  induction k with
  | zero => intro v l h; rw [show l.length / 8 = 0 by omega]
  | succ k ih =>
    intro v l h
    by_cases h8 : 8 ≤ l.length
    · obtain ⟨q, hq⟩ : ∃ q, l.length / 8 = q + 1 := ⟨l.length / 8 - 1, by omega⟩
      rw [hq]
      show (if 8 ≤ l.length then _ else _) = (if 8 ≤ l.length then _ else _)
      rw [if_pos h8, if_pos h8]
      have hl : (l.drop 8).length / 8 = q := by rw [List.length_drop]; omega
      rw [ih _ _ (by omega), hl]
    · rw [eatL_short _ _ _ h8, eatL_short _ _ _ h8]

/-- The last number: what is left, and how many bytes there are. -/
def lastW (r : List UInt8) (n : Nat) : BitVec 64 := wd 8 r ||| (BitVec.ofNat 64 (n % 256)) <<< 56
theorem last_shl (n : Nat) : (n : Int) % (256 : Int) * (72057594037927936 : Int) = n64 ((BitVec.ofNat 64 (n % 256)) <<< 56) := by
  unfold n64
  rw [BitVec.toNat_shiftLeft, BitVec.toNat_ofNat, Nat.shiftLeft_eq]
  omega
theorem last_or (r : List UInt8) (n : Nat) : bits .or .u64 (n64 (wd 8 r)) ((n : Int) % (256 : Int) * (72057594037927936 : Int)) = n64 (lastW r n) := by
  rw [last_shl, or_n64]
  rfl
/-- The sum of a list of bytes. -/
def sumL (a b : BitVec 64) (l : List UInt8) : BitVec 64 :=
  fin (tk (eatL l.length (ini a b) l).1 (lastW (eatL l.length (ini a b) l).2 l.length))
theorem sumL_eq (a b : BitVec 64) (l : List UInt8) : sumL a b l = fin (tk (eatL (l.length / 8) (ini a b) l).1 (lastW (l.drop (8 * (l.length / 8))) l.length)) := by
  unfold sumL
  rw [eatL_enough l.length _ _ (by omega), (eatL_step (l.length / 8) _ _ (by omega)).1]

end Go.Proofs.Ytkhlfgbfgebdeaa
