/- Plain mathematics: registers of numbers (stage 7). Nothing of the program. -/
import Derived.Laws.RangeAny
namespace Go.Proofs.Ytnljepnmajcmgaa

def blen (m : Nat) : Nat := if m = 0 then 0 else m.log2 + 1
theorem blen_le {m k : Nat} (h : m < 2 ^ k) : blen m ≤ k := by
  unfold blen
  split
  · omega
  · rename_i h0
    have := (Nat.log2_lt h0).2 h
    omega
theorem blen_top {m k : Nat} (h1 : 2 ^ k ≤ m) (h2 : m < 2 ^ (k + 1)) : blen m = k + 1 := by
  have h0 : m ≠ 0 := by have := Nat.two_pow_pos k; omega
  unfold blen
  rw [if_neg h0]
  have ha := (Nat.log2_lt h0).2 h2
  have hb : ¬ m.log2 < k := fun hc => by
    have := (Nat.log2_lt h0).1 hc
    omega
  omega
/-- The register that a number tells, and its rank. -/
def atP (b n : Nat) : Nat := n / 2 ^ (64 - b)
def rankP (b n : Nat) : Nat := 65 - b - blen (n % 2 ^ (64 - b))
theorem at_lt {b n : Nat} (hb : b ≤ 64) (hn : n < 18446744073709551616) : atP b n < 2 ^ b := by
  unfold atP
  rw [Nat.div_lt_iff_lt_mul (Nat.two_pow_pos _), ← Nat.pow_add, show b + (64 - b) = 64 by omega]
  exact hn
theorem rank_pos (b n : Nat) (hb : b ≤ 64) : 1 ≤ rankP b n := by
  have := blen_le (Nat.mod_lt n (Nat.two_pow_pos (64 - b)))
  unfold rankP
  omega
theorem rank_le (b n : Nat) : rankP b n ≤ 65 - b := by unfold rankP; omega
/-- One digit less. -/
theorem at_half (b n : Nat) (hb : 1 ≤ b) (hb2 : b ≤ 64) : atP (b - 1) n = atP b n / 2 := by
  unfold atP
  rw [Nat.div_div_eq_div_mul, ← Nat.pow_succ, show (64 - b).succ = 64 - (b - 1) by omega]
theorem rank_even (b n : Nat) (hb : 1 ≤ b) (hb2 : b ≤ 64) (h : atP b n % 2 = 0) : rankP (b - 1) n = rankP b n + 1 := by
  have hm : n % 2 ^ (64 - (b - 1)) = n % 2 ^ (64 - b) := by
    rw [show 64 - (b - 1) = (64 - b) + 1 by omega, Nat.pow_succ, Nat.mod_mul]
    unfold atP at h
    rw [h, Nat.mul_zero, Nat.add_zero]
  have := blen_le (Nat.mod_lt n (Nat.two_pow_pos (64 - b)))
  unfold rankP
  rw [hm]
  omega
theorem rank_odd (b n : Nat) (hb : 1 ≤ b) (hb2 : b ≤ 64) (h : atP b n % 2 = 1) : rankP (b - 1) n = 1 := by
  have hm : n % 2 ^ (64 - (b - 1)) = n % 2 ^ (64 - b) + 2 ^ (64 - b) := by
    rw [show 64 - (b - 1) = (64 - b) + 1 by omega, Nat.pow_succ, Nat.mod_mul]
    unfold atP at h
    rw [h, Nat.mul_one]
  have hl := Nat.mod_lt n (Nat.two_pow_pos (64 - b))
  have : blen (n % 2 ^ (64 - (b - 1))) = 64 - b + 1 := blen_top (by rw [hm]; omega) (by rw [hm, Nat.pow_succ]; omega)
  unfold rankP
  rw [this]
  omega
/-- The greatest rank that is told a register. -/
def mxR (b i : Nat) : List Nat → Nat
  | [] => 0
  | n :: t => max (if atP b n = i then rankP b n else 0) (mxR b i t)
theorem mx_app (b i : Nat) (l m : List Nat) : mxR b i (l ++ m) = max (mxR b i l) (mxR b i m) := by
  induction l with
  | nil => simp [mxR]
  | cons n t ih => simp only [List.cons_append, mxR, ih]; omega
theorem mx_le (b i : Nat) (l : List Nat) : mxR b i l ≤ 65 - b := by
  induction l with
  | nil => simp [mxR]
  | cons n t ih =>
    have := rank_le b n
    unfold mxR
    split <;> omega
theorem mx_mem {b n : Nat} {l : List Nat} (h : n ∈ l) : rankP b n ≤ mxR b (atP b n) l := by
  induction l with
  | nil => cases h
  | cons a t ih =>
    unfold mxR
    rcases List.mem_cons.1 h with rfl | h
    · rw [if_pos rfl]; omega
    · have := ih h; omega
def lowC (a c : Nat) : Nat := max (if 0 < a then a + 1 else 0) (if 0 < c then 1 else 0)
theorem lowC_max (a a' c c' : Nat) : lowC (max a a') (max c c') = max (lowC a c) (lowC a' c') := by
  unfold lowC
  by_cases h1 : 0 < a <;> by_cases h2 : 0 < a' <;> by_cases h3 : 0 < c <;> by_cases h4 : 0 < c' <;> simp only [h1, h2, h3, h4, if_true, if_false, show (0 < max a a') = (0 < a ∨ 0 < a') from propext ⟨fun h => by omega, fun h => by omega⟩, show (0 < max c c') = (0 < c ∨ 0 < c') from propext ⟨fun h => by omega, fun h => by omega⟩, true_or, or_true, or_self] <;> omega
theorem mx_low (b i : Nat) (hb : 1 ≤ b) (hb2 : b ≤ 64) (l : List Nat) : lowC (mxR b (2 * i) l) (mxR b (2 * i + 1) l) = mxR (b - 1) i l := by
  induction l with
  | nil => rfl
  | cons n t ih =>
    unfold mxR
    rw [lowC_max, ih]
    congr 1
    rw [at_half b n hb hb2]
    have hp := rank_pos b n hb2
    by_cases h0 : atP b n = 2 * i
    · rw [if_pos h0, if_neg (by omega), if_pos (by omega), rank_even b n hb hb2 (by omega)]
      unfold lowC
      rw [if_pos (by omega)]
      simp
    · rw [if_neg h0]
      by_cases h1 : atP b n = 2 * i + 1
      · rw [if_pos h1, if_pos (by omega), rank_odd b n hb hb2 (by omega)]
        unfold lowC
        rw [if_pos (show 0 < rankP b n by omega)]
        simp
      · rw [if_neg h1, if_neg (by omega)]
        rfl
/-- The registers of numbers. -/
def ofR (b : Nat) (l : List Nat) : List Nat := (List.range (2 ^ b)).map fun i => mxR b i l
theorem of_size (b : Nat) (l : List Nat) : (ofR b l).length = 2 ^ b := by simp [ofR]
theorem of_at (b : Nat) (l : List Nat) (i : Nat) (hi : i < (ofR b l).length) : (ofR b l)[i] = mxR b i l := by simp [ofR]
theorem of_getD (b : Nat) (l : List Nat) (i : Nat) (hi : i < 2 ^ b) : (ofR b l).getD i 0 = mxR b i l := by
  rw [List.getD_eq_getElem?_getD, List.getElem?_eq_getElem (by rw [of_size]; exact hi), Option.getD_some, of_at]
def addR (b : Nat) (R : List Nat) (n : Nat) : List Nat := (List.range R.length).map fun i => if i = atP b n then max (R.getD i 0) (rankP b n) else R.getD i 0
theorem add_of (b : Nat) (l : List Nat) (n : Nat) : addR b (ofR b l) n = ofR b (l ++ [n]) := by
  unfold addR
  rw [of_size]
  unfold ofR
  refine List.map_congr_left fun i hi => ?_
  have hi : i < 2 ^ b := List.mem_range.1 hi
  have h := of_getD b l i hi
  unfold ofR at h
  rw [h, mx_app]
  unfold mxR mxR
  by_cases hh : i = atP b n
  · rw [if_pos hh, if_pos hh.symm]; omega
  · rw [if_neg hh, if_neg (Ne.symm hh)]; omega
def maxR (R S : List Nat) : List Nat := List.zipWith max R S
theorem max_of (b : Nat) (l m : List Nat) : maxR (ofR b l) (ofR b m) = ofR b (l ++ m) := by
  unfold maxR ofR
  rw [List.zipWith_map_left, List.zipWith_map_right, List.zipWith_self]
  exact List.map_congr_left fun i _ => (mx_app b i l m).symm
def lowR (R : List Nat) : List Nat := (List.range (R.length / 2)).map fun i => lowC (R.getD (2 * i) 0) (R.getD (2 * i + 1) 0)
theorem low_of (b : Nat) (hb : 1 ≤ b) (hb2 : b ≤ 64) (l : List Nat) : lowR (ofR b l) = ofR (b - 1) l := by
  have hp : 2 ^ b = 2 ^ (b - 1) * 2 := by rw [← Nat.pow_succ, show (b - 1).succ = b by omega]
  unfold lowR
  rw [of_size, hp, Nat.mul_div_cancel _ (by decide)]
  show _ = (List.range (2 ^ (b - 1))).map fun i => mxR (b - 1) i l
  refine List.map_congr_left fun i hi => ?_
  have hi : i < 2 ^ (b - 1) := List.mem_range.1 hi
  rw [of_getD b l (2 * i) (by omega), of_getD b l (2 * i + 1) (by omega), mx_low b i hb hb2]
theorem of_congr7 (b : Nat) {l m : List Nat} (h : ∀ i, mxR b i l = mxR b i m) : ofR b l = ofR b m := by
  unfold ofR
  exact List.map_congr_left fun i _ => h i
theorem of_comm (b : Nat) (l m : List Nat) : ofR b (l ++ m) = ofR b (m ++ l) := of_congr7 b fun i => by rw [mx_app, mx_app, Nat.max_comm]
theorem of_same (b : Nat) (l : List Nat) : ofR b (l ++ l) = ofR b l := of_congr7 b fun i => by rw [mx_app, Nat.max_self]
theorem of_again (b : Nat) {l : List Nat} {n : Nat} (h : n ∈ l) : ofR b (l ++ [n]) = ofR b l := of_congr7 b fun i => by
  rw [mx_app]
  show max (mxR b i l) (max (if atP b n = i then rankP b n else 0) 0) = mxR b i l
  by_cases hh : atP b n = i
  · rw [if_pos hh]
    subst hh
    have := mx_mem (b := b) h
    omega
  · rw [if_neg hh]; omega
/-! What the functions tell, over bits and registers. -/
def okB (b : Int) : Bool := decide (3 ≤ b) && decide (b ≤ 8)
theorem okB_nat {b : Int} (h : okB b = true) : ∃ n : Nat, b = (n : Int) ∧ 3 ≤ n ∧ n ≤ 8 := by
  obtain ⟨h1, h2⟩ := (Bool.and_eq_true _ _).mp h
  have h1 : 3 ≤ b := of_decide_eq_true h1
  have h2 : b ≤ 8 := of_decide_eq_true h2
  exact ⟨b.toNat, by omega, by omega, by omega⟩
theorem okB_of {n : Nat} (h1 : 3 ≤ n) (h2 : n ≤ 8) : okB (n : Int) = true := by
  unfold okB
  rw [decide_eq_true (by omega), decide_eq_true (by omega)]
  rfl
def rightR (b : Int) (R : List Nat) : Bool := okB b && (decide (R.length = 2 ^ b.toNat) && R.all fun r => decide ((r : Int) ≤ 65 - b))
def badR : (Int × List Nat) × Nat := ((0, []), 70)
def newH (b : Int) : (Int × List Nat) × Nat := if okB b then ((b, ofR b.toNat []), 0) else badR
def placeH (b : Int) (n : Nat) : Nat × Nat := if okB b then (atP b.toNat n, rankP b.toNat n) else (0, 0)
def addH (b : Int) (R : List Nat) (n : Nat) : (Int × List Nat) × Nat := if rightR b R then ((b, addR b.toNat R n), 0) else badR
def ofH (b : Int) (l : List Nat) : (Int × List Nat) × Nat := if okB b then ((b, ofR b.toNat l), 0) else badR
def mergeH (b : Int) (R : List Nat) (c : Int) (S : List Nat) : (Int × List Nat) × Nat := if rightR b R && (rightR c S && decide (b = c)) then ((b, maxR R S), 0) else badR
def lowerH (b : Int) (R : List Nat) : (Int × List Nat) × Nat := if rightR b R && decide (b ≠ 3) then ((b - 1, lowR R), 0) else badR
def sumR : List Nat → Nat
  | [] => 0
  | r :: t => 2 ^ (32 - min 32 r) + sumR t
def countH (b : Int) (R : List Nat) : Nat := if rightR b R && R.any (fun r => decide (0 < r)) then 7 * R.length * R.length * 4294967296 / (10 * sumR R) else 0
theorem of_nil (b : Nat) : ofR b [] = List.replicate (2 ^ b) 0 := by
  unfold ofR
  rw [List.eq_replicate_iff]
  refine ⟨by simp, fun x hx => ?_⟩
  obtain ⟨i, _, rfl⟩ := List.mem_map.1 hx
  rfl
theorem right_ofR {n : Nat} (h1 : 3 ≤ n) (h2 : n ≤ 8) (l : List Nat) : rightR (n : Int) (ofR n l) = true := by
  unfold rightR
  rw [okB_of h1 h2, of_size, Int.toNat_natCast, decide_eq_true rfl, Bool.true_and, Bool.true_and, List.all_eq_true]
  intro r hr
  obtain ⟨i, _, rfl⟩ := List.mem_map.1 hr
  have := mx_le n i l
  exact decide_eq_true (by omega)
theorem ofH_ok {n : Nat} (h1 : 3 ≤ n) (h2 : n ≤ 8) (l : List Nat) : ofH (n : Int) l = (((n : Int), ofR n l), 0) := by unfold ofH; rw [if_pos (okB_of h1 h2)]; rfl
theorem ofH_bad {b : Int} (h : okB b = false) (l : List Nat) : ofH b l = badR := by unfold ofH; rw [h]; rfl
theorem addH_of {n : Nat} (h1 : 3 ≤ n) (h2 : n ≤ 8) (l : List Nat) (x : Nat) : addH (n : Int) (ofR n l) x = (((n : Int), ofR n (l ++ [x])), 0) := by
  unfold addH
  rw [if_pos (right_ofR h1 h2 l), Int.toNat_natCast, add_of]
theorem mergeH_of {n : Nat} (h1 : 3 ≤ n) (h2 : n ≤ 8) (l m : List Nat) : mergeH (n : Int) (ofR n l) (n : Int) (ofR n m) = (((n : Int), ofR n (l ++ m)), 0) := by
  unfold mergeH
  rw [right_ofR h1 h2 l, right_ofR h1 h2 m, decide_eq_true rfl, max_of]
  rfl
theorem lowerH_of {n : Nat} (h1 : 4 ≤ n) (h2 : n ≤ 8) (l : List Nat) : lowerH (n : Int) (ofR n l) = ((((n - 1 : Nat) : Int), ofR (n - 1) l), 0) := by
  unfold lowerH
  rw [right_ofR (by omega) h2 l, decide_eq_true (by omega), low_of n (by omega) (by omega)]
  show (((n : Int) - 1, ofR (n - 1) l), 0) = _
  rw [show ((n : Int) - 1) = ((n - 1 : Nat) : Int) by omega]
theorem sum_pos : ∀ {R : List Nat}, R ≠ [] → 1 ≤ sumR R
  | [], h => absurd rfl h
  | r :: t, _ => by unfold sumR; have := Nat.two_pow_pos (32 - min 32 r); omega
theorem sum_le : ∀ (R : List Nat), sumR R ≤ R.length * 4294967296
  | [] => by simp [sumR]
  | r :: t => by
    unfold sumR
    have h := Nat.pow_le_pow_right (show 0 < 2 by decide) (show 32 - min 32 r ≤ 32 by omega)
    have h2 := sum_le t
    rw [List.length_cons, Nat.add_mul]
    omega
/-- Greater registers have no greater sum. -/
theorem sum_mono {b : Nat} {l m : List Nat} (h : ∀ i, mxR b i l ≤ mxR b i m) : sumR (ofR b m) ≤ sumR (ofR b l) := by
  unfold ofR
  generalize List.range (2 ^ b) = I
  induction I with
  | nil => exact Nat.le_refl _
  | cons i t ih =>
    simp only [List.map_cons, sumR]
    have := Nat.pow_le_pow_right (show 0 < 2 by decide) (show 32 - min 32 (mxR b i m) ≤ 32 - min 32 (mxR b i l) by have := h i; omega)
    omega
theorem count_none {n : Nat} : countH (n : Int) (ofR n []) = 0 := by
  unfold countH
  have : (ofR n []).any (fun r => decide (0 < r)) = false := by
    rw [of_nil, List.any_eq_false]
    intro x hx
    rw [(List.mem_replicate.1 hx).2]
    decide
  rw [this, Bool.and_false]
  rfl
theorem any_mono {b : Nat} {l m : List Nat} (h : ∀ i, mxR b i l ≤ mxR b i m) (ha : (ofR b l).any (fun r => decide (0 < r)) = true) : (ofR b m).any (fun r => decide (0 < r)) = true := by
  rw [List.any_eq_true] at ha ⊢
  obtain ⟨r, hr, h0⟩ := ha
  obtain ⟨i, hi, rfl⟩ := List.mem_map.1 hr
  refine ⟨mxR b i m, List.mem_map.2 ⟨i, hi, rfl⟩, decide_eq_true ?_⟩
  have := h i
  have := of_decide_eq_true h0
  omega
theorem count_mono {n : Nat} (h1 : 3 ≤ n) (h2 : n ≤ 8) {l m : List Nat} (h : ∀ i, mxR n i l ≤ mxR n i m) : countH (n : Int) (ofR n l) ≤ countH (n : Int) (ofR n m) := by
  unfold countH
  rw [right_ofR h1 h2 l, right_ofR h1 h2 m, Bool.true_and, Bool.true_and]
  by_cases ha : (ofR n l).any (fun r => decide (0 < r)) = true
  · rw [if_pos ha, if_pos (any_mono h ha), of_size, of_size]
    have hs := sum_mono h
    have hp := sum_pos (R := ofR n m) (fun e => by have := of_size n m; rw [e] at this; have := Nat.two_pow_pos n; simp at *; omega)
    exact Nat.div_le_div_left (by omega) (by omega)
  · rw [if_neg ha]; exact Nat.zero_le _
theorem count_some {n : Nat} (h1 : 3 ≤ n) (h2 : n ≤ 8) {l : List Nat} {x : Nat} (hx : x ∈ l) (hx2 : x < 18446744073709551616) : 0 < countH (n : Int) (ofR n l) := by
  unfold countH
  have ha : (ofR n l).any (fun r => decide (0 < r)) = true := by
    rw [List.any_eq_true]
    refine ⟨mxR n (atP n x) l, List.mem_map.2 ⟨atP n x, List.mem_range.2 (at_lt (by omega) hx2), rfl⟩, decide_eq_true ?_⟩
    have := mx_mem (b := n) hx
    have := rank_pos n x (by omega)
    omega
  rw [right_ofR h1 h2 l, ha, Bool.and_self, if_pos rfl]
  have hs := sum_le (ofR n l)
  have hp := sum_pos (R := ofR n l) (fun e => by have := of_size n l; rw [e] at this; have := Nat.two_pow_pos n; simp at *; omega)
  have h8 : 8 ≤ (ofR n l).length := by rw [of_size]; exact Nat.pow_le_pow_right (show 0 < 2 by decide) h1
  rw [Nat.div_pos_iff]
  refine ⟨by omega, ?_⟩
  have e1 : 10 * sumR (ofR n l) ≤ 10 * ((ofR n l).length * 4294967296) := Nat.mul_le_mul_left _ hs
  have e2 : 10 * ((ofR n l).length * 4294967296) ≤ 7 * (ofR n l).length * (ofR n l).length * 4294967296 := by
    rw [← Nat.mul_assoc]
    refine Nat.mul_le_mul_right _ ?_
    have : 7 * (ofR n l).length * 8 ≤ 7 * (ofR n l).length * (ofR n l).length := Nat.mul_le_mul_left _ h8
    omega
  omega
end Go.Proofs.Ytnljepnmajcmgaa
