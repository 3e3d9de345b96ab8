
/- Plain mathematics: counters of numbers (stage 8). Nothing of the program. -/
import Derived.Laws.RangeAny
namespace Go.Proofs.Ytpdedogdffolnaa

theorem dm_div {q m r : Nat} (h : r < m) : (q * m + r) / m = q := by rw [Nat.add_comm, Nat.add_mul_div_right _ _ (by omega), Nat.div_eq_of_lt h, Nat.zero_add]
theorem dm_mod {q m r : Nat} (h : r < m) : (q * m + r) % m = r := by rw [Nat.add_comm, Nat.add_mul_mod_self_right, Nat.mod_eq_of_lt h]
abbrev topN : Nat := 18446744073709551615
/-- A sum, saturated. -/
def plusS (a b : Nat) : Nat := min (a + b) topN
theorem plus_le (a b : Nat) : plusS a b ≤ topN := Nat.min_le_right _ _
theorem plus_sat (a b : Nat) : plusS (min a topN) b = min (a + b) topN := by unfold plusS; omega
theorem plus_sat2 (a b : Nat) : plusS (min a topN) (min b topN) = min (a + b) topN := by unfold plusS; omega
/-- The column that a number tells. -/
def colC (c row h : Nat) : Nat := (h / 4294967296 + row * (h % 4294967296)) % c
theorem col_lt {c : Nat} (hc : 0 < c) (row h : Nat) : colC c row h < c := Nat.mod_lt _ hc
theorem col_half (c row h : Nat) : colC (2 * c) row h % c = colC c row h := by
  unfold colC
  rw [Nat.mod_mul_left_mod]
/-- How often numbers came that tell this counter. -/
def cntI (c i : Nat) : List (Nat × Nat) → Nat
  | [] => 0
  | x :: t => (if colC c (i / c) x.1 = i % c then x.2 else 0) + cntI c i t
theorem cnt_app (c i : Nat) (l m : List (Nat × Nat)) : cntI c i (l ++ m) = cntI c i l + cntI c i m := by
  induction l with
  | nil => simp [cntI]
  | cons x t ih => simp only [List.cons_append, cntI, ih]; omega
theorem cnt_rev (c i : Nat) (l : List (Nat × Nat)) : cntI c i l.reverse = cntI c i l := by
  induction l with
  | nil => rfl
  | cons x t ih => rw [List.reverse_cons, cnt_app, ih]; simp only [cntI]; omega
/-- The counters of items. -/
def ofI (r c : Nat) (l : List (Nat × Nat)) : List Nat := (List.range (r * c)).map fun i => min (cntI c i l) topN
theorem ofI_size (r c : Nat) (l : List (Nat × Nat)) : (ofI r c l).length = r * c := by simp [ofI]
theorem ofI_at (r c : Nat) (l : List (Nat × Nat)) (i : Nat) (hi : i < r * c) : (ofI r c l).getD i 0 = min (cntI c i l) topN := by
  rw [List.getD_eq_getElem?_getD, List.getElem?_eq_getElem (by rw [ofI_size]; exact hi), Option.getD_some]
  simp [ofI]
theorem ofI_congr (r c : Nat) {l m : List (Nat × Nat)} (h : ∀ i, cntI c i l = cntI c i m) : ofI r c l = ofI r c m := by
  unfold ofI
  exact List.map_congr_left fun i _ => by rw [h i]
theorem ofI_comm (r c : Nat) (l m : List (Nat × Nat)) : ofI r c (l ++ m) = ofI r c (m ++ l) := ofI_congr r c fun i => by rw [cnt_app, cnt_app, Nat.add_comm]
theorem ofI_rev (r c : Nat) (l : List (Nat × Nat)) : ofI r c l.reverse = ofI r c l := ofI_congr r c fun i => cnt_rev c i l
theorem ofI_le (r c : Nat) (l : List (Nat × Nat)) : ∀ x ∈ ofI r c l, x ≤ topN := fun x hx => by
  obtain ⟨i, _, rfl⟩ := List.mem_map.1 hx
  exact Nat.min_le_right _ _
/-- A number more, n times. -/
def addC (c : Nat) (L : List Nat) (h n : Nat) : List Nat := (List.range L.length).map fun i => if colC c (i / c) h = i % c then plusS (L.getD i 0) n else L.getD i 0
theorem addC_size (c : Nat) (L : List Nat) (h n : Nat) : (addC c L h n).length = L.length := by simp [addC]
theorem addC_of (r c : Nat) (l : List (Nat × Nat)) (h n : Nat) : addC c (ofI r c l) h n = ofI r c (l ++ [(h, n)]) := by
  unfold addC
  rw [ofI_size]
  show _ = (List.range (r * c)).map fun i => min (cntI c i (l ++ [(h, n)])) topN
  refine List.map_congr_left fun i hi => ?_
  rw [ofI_at r c l i (List.mem_range.1 hi), cnt_app]
  simp only [cntI, Nat.add_zero]
  by_cases hh : colC c (i / c) h = i % c
  · rw [if_pos hh, if_pos hh, plus_sat]
  · rw [if_neg hh, if_neg hh, Nat.add_zero]
def mergeC (L K : List Nat) : List Nat := List.zipWith plusS L K
theorem mergeC_of (r c : Nat) (l m : List (Nat × Nat)) : mergeC (ofI r c l) (ofI r c m) = ofI r c (l ++ m) := by
  unfold mergeC ofI
  rw [List.zipWith_map_left, List.zipWith_map_right, List.zipWith_self]
  exact List.map_congr_left fun i _ => by rw [plus_sat2, cnt_app]
/-- Half as many columns (c behind). -/
def lowC8 (r c : Nat) (L : List Nat) : List Nat := (List.range (r * c)).map fun i => plusS (L.getD (i / c * (2 * c) + i % c) 0) (L.getD (i / c * (2 * c) + c + i % c) 0)
theorem cnt_low (c i : Nat) (hc : 0 < c) (l : List (Nat × Nat)) : cntI (2 * c) (i / c * (2 * c) + i % c) l + cntI (2 * c) (i / c * (2 * c) + c + i % c) l = cntI c i l := by
  have hm := Nat.mod_lt i hc
  have d1 : (i / c * (2 * c) + i % c) / (2 * c) = i / c := dm_div (by omega)
  have m1 : (i / c * (2 * c) + i % c) % (2 * c) = i % c := dm_mod (by omega)
  have d2 : (i / c * (2 * c) + c + i % c) / (2 * c) = i / c := by rw [Nat.add_assoc]; exact dm_div (by omega)
  have m2 : (i / c * (2 * c) + c + i % c) % (2 * c) = c + i % c := by rw [Nat.add_assoc]; exact dm_mod (by omega)
  induction l with
  | nil => rfl
  | cons x t ih =>
    simp only [cntI]
    rw [d1, m1, d2, m2, ← ih]
    have h1 := col_half c (i / c) x.1
    have h2 := col_lt (c := 2 * c) (by omega) (i / c) x.1
    rw [← h1]
    generalize colC (2 * c) (i / c) x.1 = k at h2
    by_cases hk : k < c
    · rw [Nat.mod_eq_of_lt hk, if_neg (show ¬ k = c + i % c by omega)]
      omega
    · have e : k % c = k - c := by
        rw [Nat.mod_eq_sub_mod (by omega), Nat.mod_eq_of_lt (by omega)]
      rw [e, if_neg (show ¬ k = i % c by omega)]
      by_cases h3 : k - c = i % c
      · rw [if_pos h3, if_pos (by omega)]; omega
      · rw [if_neg h3, if_neg (by omega)]; omega
theorem low_idx {r c i : Nat} (hc : 0 < c) (hi : i < r * c) : i / c * (2 * c) + c + i % c < r * (2 * c) := by
  have hm := Nat.mod_lt i hc
  have hr : i / c < r := (Nat.div_lt_iff_lt_mul hc).2 hi
  have : (i / c + 1) * (2 * c) ≤ r * (2 * c) := Nat.mul_le_mul_right _ hr
  rw [Nat.add_mul] at this
  omega
theorem lowC_of8 (r c : Nat) (hc : 0 < c) (l : List (Nat × Nat)) : lowC8 r c (ofI r (2 * c) l) = ofI r c l := by
  unfold lowC8
  show _ = (List.range (r * c)).map fun i => min (cntI c i l) topN
  refine List.map_congr_left fun i hi => ?_
  have hi := low_idx (r := r) hc (List.mem_range.1 hi)
  rw [ofI_at r (2 * c) l _ (by omega), ofI_at r (2 * c) l _ hi, plus_sat2, cnt_low c i hc]
/-- What a number's counters say at most. -/
def countL (c : Nat) (L : List Nat) (h : Nat) : Nat → Nat
  | 0 => topN
  | r + 1 => min (countL c L h r) (L.getD (r * c + colC c r h) 0)
theorem countL_le (c : Nat) (L : List Nat) (h r : Nat) : countL c L h r ≤ topN := by
  induction r with
  | zero => exact Nat.le_refl _
  | succ r ih => unfold countL; omega
/-- How often a number came; how often all came. -/
def ownI (h : Nat) : List (Nat × Nat) → Nat
  | [] => 0
  | x :: t => (if x.1 = h then x.2 else 0) + ownI h t
def allI : List (Nat × Nat) → Nat
  | [] => 0
  | x :: t => x.2 + allI t
theorem own_app (h : Nat) (l m : List (Nat × Nat)) : ownI h (l ++ m) = ownI h l + ownI h m := by
  induction l with
  | nil => simp [ownI]
  | cons x t ih => simp only [List.cons_append, ownI, ih]; omega
theorem all_app (l m : List (Nat × Nat)) : allI (l ++ m) = allI l + allI m := by
  induction l with
  | nil => simp [allI]
  | cons x t ih => simp only [List.cons_append, allI, ih]; omega
theorem own_cnt (c row h : Nat) (hc : 0 < c) (l : List (Nat × Nat)) : ownI h l ≤ cntI c (row * c + colC c row h) l := by
  have hm := col_lt hc row h
  have d : (row * c + colC c row h) / c = row := dm_div hm
  have m : (row * c + colC c row h) % c = colC c row h := dm_mod hm
  induction l with
  | nil => exact Nat.le_refl _
  | cons x t ih =>
    simp only [ownI, cntI]
    rw [d, m]
    by_cases hx : x.1 = h
    · rw [if_pos hx, hx, if_pos rfl]; omega
    · rw [if_neg hx]; omega
theorem cnt_all (c i : Nat) (l : List (Nat × Nat)) : cntI c i l ≤ allI l := by
  induction l with
  | nil => exact Nat.le_refl _
  | cons x t ih => simp only [cntI, allI]; split <;> omega
theorem count_own {r c : Nat} (hc : 0 < c) (l : List (Nat × Nat)) (h k : Nat) (hk : k ≤ r) : min (ownI h l) topN ≤ countL c (ofI r c l) h k := by
  induction k with
  | zero => exact Nat.min_le_right _ _
  | succ k ih =>
    have := ih (by omega)
    have hl : k * c + colC c k h < r * c := by
      have h1 := col_lt hc k h
      have h2 : (k + 1) * c ≤ r * c := Nat.mul_le_mul_right _ hk
      rw [Nat.add_mul] at h2
      omega
    have h3 := own_cnt c k h hc l
    unfold countL
    rw [ofI_at r c l _ hl]
    omega
theorem count_all {r c : Nat} (hc : 0 < c) (l : List (Nat × Nat)) (h k : Nat) (hk : k < r) : countL c (ofI r c l) h (k + 1) ≤ min (allI l) topN := by
  have hl : k * c + colC c k h < r * c := by
    have h1 := col_lt hc k h
    have h2 : (k + 1) * c ≤ r * c := Nat.mul_le_mul_right _ hk
    rw [Nat.add_mul] at h2
    omega
  have h3 := cnt_all c (k * c + colC c k h) l
  unfold countL
  rw [ofI_at r c l _ hl]
  omega
/-- Fewer columns count no less. -/
theorem count_low {r c : Nat} (hc : 0 < c) (l : List (Nat × Nat)) (h k : Nat) (hk : k ≤ r) : countL (2 * c) (ofI r (2 * c) l) h k ≤ countL c (ofI r c l) h k := by
  induction k with
  | zero => exact Nat.le_refl _
  | succ k ih =>
    have ih := ih (by omega)
    have hl : k * c + colC c k h < r * c := by
      have h1 := col_lt hc k h
      have h2 : (k + 1) * c ≤ r * c := Nat.mul_le_mul_right _ hk
      rw [Nat.add_mul] at h2
      omega
    have hl2 : k * (2 * c) + colC (2 * c) k h < r * (2 * c) := by
      have h1 := col_lt (c := 2 * c) (by omega) k h
      have h2 : (k + 1) * (2 * c) ≤ r * (2 * c) := Nat.mul_le_mul_right _ hk
      rw [Nat.add_mul] at h2
      omega
    have hm := col_lt hc k h
    have d : (k * c + colC c k h) / c = k := dm_div hm
    have m : (k * c + colC c k h) % c = colC c k h := dm_mod hm
    have hlow := cnt_low c (k * c + colC c k h) hc l
    rw [d, m] at hlow
    have hcol := col_half c k h
    have hlt := col_lt (c := 2 * c) (by omega) k h
    have hle : cntI (2 * c) (k * (2 * c) + colC (2 * c) k h) l ≤ cntI c (k * c + colC c k h) l := by
      generalize colC (2 * c) k h = q at hcol hlt
      rw [← hcol] at hlow ⊢
      by_cases hq : q < c
      · rw [Nat.mod_eq_of_lt hq] at hlow ⊢
        omega
      · have e : q % c = q - c := by rw [Nat.mod_eq_sub_mod (by omega), Nat.mod_eq_of_lt (by omega)]
        rw [e] at hlow ⊢
        rw [show k * (2 * c) + c + (q - c) = k * (2 * c) + q by omega] at hlow
        omega
    unfold countL
    rw [ofI_at r c l _ hl, ofI_at r (2 * c) l _ hl2]
    omega
/-- Twice as often. -/
theorem count_twice (r c : Nat) (hc : 0 < c) (l : List (Nat × Nat)) (h k : Nat) (hk : k ≤ r) : countL c (ofI r c (l ++ l)) h k = plusS (countL c (ofI r c l) h k) (countL c (ofI r c l) h k) := by
  induction k with
  | zero => unfold countL plusS; omega
  | succ k ih =>
    have ih := ih (by omega)
    have hl : k * c + colC c k h < r * c := by
      have h1 := col_lt hc k h
      have h2 : (k + 1) * c ≤ r * c := Nat.mul_le_mul_right _ hk
      rw [Nat.add_mul] at h2
      omega
    unfold countL
    rw [ofI_at r c _ _ hl, ofI_at r c _ _ hl, ih, cnt_app]
    unfold plusS
    omega
theorem cnt_nil (r c : Nat) : ofI r c [] = List.replicate (r * c) 0 := by
  unfold ofI
  rw [List.eq_replicate_iff]
  refine ⟨by simp, fun x hx => ?_⟩
  obtain ⟨i, _, rfl⟩ := List.mem_map.1 hx
  rfl
theorem count_none {r c : Nat} (hc : 0 < c) (h k : Nat) (hk : k < r) : countL c (ofI r c []) h (k + 1) = 0 := by
  have := count_all hc [] h k hk
  unfold allI at this
  omega
/-! What the functions tell. -/
def okC (r c : Int) : Bool := decide (1 ≤ r) && (decide (r ≤ 4) && (decide (c = 4) || (decide (c = 8) || (decide (c = 16) || decide (c = 32)))))
theorem okC_nat {r c : Int} (h : okC r c = true) : ∃ a b : Nat, r = (a : Int) ∧ c = (b : Int) ∧ 1 ≤ a ∧ a ≤ 4 ∧ (b = 4 ∨ b = 8 ∨ b = 16 ∨ b = 32) := by
  simp only [okC, Bool.and_eq_true, Bool.or_eq_true, decide_eq_true_eq] at h
  exact ⟨r.toNat, c.toNat, by omega, by omega, by omega, by omega, by omega⟩
theorem okC_of {a b : Nat} (h1 : 1 ≤ a) (h2 : a ≤ 4) (h3 : b = 4 ∨ b = 8 ∨ b = 16 ∨ b = 32) : okC (a : Int) (b : Int) = true := by
  simp only [okC, Bool.and_eq_true, Bool.or_eq_true, decide_eq_true_eq]
  omega
def rightC (r c : Int) (L : List Nat) : Bool := okC r c && decide ((L.length : Int) = r * c)
theorem rightC_of {a b : Nat} (h1 : 1 ≤ a) (h2 : a ≤ 4) (h3 : b = 4 ∨ b = 8 ∨ b = 16 ∨ b = 32) (l : List (Nat × Nat)) : rightC (a : Int) (b : Int) (ofI a b l) = true := by
  unfold rightC
  rw [okC_of h1 h2 h3, ofI_size, decide_eq_true (by push_cast; rfl)]
  rfl
theorem rightC_nat {r c : Int} {L : List Nat} (h : rightC r c L = true) : ∃ a b : Nat, r = (a : Int) ∧ c = (b : Int) ∧ 1 ≤ a ∧ a ≤ 4 ∧ (b = 4 ∨ b = 8 ∨ b = 16 ∨ b = 32) ∧ L.length = a * b := by
  obtain ⟨h1, h2⟩ := (Bool.and_eq_true _ _).mp h
  obtain ⟨a, b, rfl, rfl, h3, h4, h5⟩ := okC_nat h1
  refine ⟨a, b, rfl, rfl, h3, h4, h5, ?_⟩
  have := of_decide_eq_true h2
  have e : ((L.length : Nat) : Int) = ((a * b : Nat) : Int) := by rw [this]; push_cast; rfl
  exact Int.ofNat.inj e
/-- Counters: rows, columns, numbers; and an error's number. -/
abbrev Cm := (Int × Int × List Nat) × Nat
def badC : Cm := ((0, 0, []), 80)
def newCm (r c : Int) : Cm := if okC r c then ((r, c, ofI r.toNat c.toNat []), 0) else badC
def colCm (r c : Int) (L : List Nat) (row : Int) (h : Nat) : Nat := if rightC r c L && (decide (0 ≤ row) && decide (row < r)) then colC c.toNat row.toNat h else 0
def addCm (r c : Int) (L : List Nat) (h n : Nat) : Cm := if rightC r c L then ((r, c, addC c.toNat L h n), 0) else badC
def mergeCm (r c : Int) (L : List Nat) (r2 c2 : Int) (K : List Nat) : Cm := if rightC r c L && (rightC r2 c2 K && (decide (r = r2) && decide (c = c2))) then ((r, c, mergeC L K), 0) else badC
def lowerCm (r c : Int) (L : List Nat) : Cm := if rightC r c L && decide (c ≠ 4) then ((r, c / 2, lowC8 r.toNat (c.toNat / 2) L), 0) else badC
def countCm (r c : Int) (L : List Nat) (h : Nat) : Nat := if rightC r c L then countL c.toNat L h r.toNat else 0
def sameCm (r c : Int) (L : List Nat) (r2 c2 : Int) (K : List Nat) : Bool := decide (r = r2) && (decide (c = c2) && decide (L = K))
theorem newCm_ok {a b : Nat} (h1 : 1 ≤ a) (h2 : a ≤ 4) (h3 : b = 4 ∨ b = 8 ∨ b = 16 ∨ b = 32) : newCm (a : Int) (b : Int) = (((a : Int), (b : Int), ofI a b []), 0) := by unfold newCm; rw [if_pos (okC_of h1 h2 h3)]; rfl
theorem addCm_of {a b : Nat} (h1 : 1 ≤ a) (h2 : a ≤ 4) (h3 : b = 4 ∨ b = 8 ∨ b = 16 ∨ b = 32) (l : List (Nat × Nat)) (h n : Nat) : addCm (a : Int) (b : Int) (ofI a b l) h n = (((a : Int), (b : Int), ofI a b (l ++ [(h, n)])), 0) := by
  unfold addCm
  rw [if_pos (rightC_of h1 h2 h3 l), Int.toNat_natCast, addC_of]
theorem mergeCm_of {a b : Nat} (h1 : 1 ≤ a) (h2 : a ≤ 4) (h3 : b = 4 ∨ b = 8 ∨ b = 16 ∨ b = 32) (l m : List (Nat × Nat)) : mergeCm (a : Int) (b : Int) (ofI a b l) (a : Int) (b : Int) (ofI a b m) = (((a : Int), (b : Int), ofI a b (l ++ m)), 0) := by
  unfold mergeCm
  rw [rightC_of h1 h2 h3 l, rightC_of h1 h2 h3 m, decide_eq_true rfl, decide_eq_true rfl, mergeC_of]
  rfl
theorem lowerCm_of {a b : Nat} (h1 : 1 ≤ a) (h2 : a ≤ 4) (h3 : b = 4 ∨ b = 8 ∨ b = 16) (l : List (Nat × Nat)) : lowerCm (a : Int) ((2 * b : Nat) : Int) (ofI a (2 * b) l) = (((a : Int), (b : Int), ofI a b l), 0) := by
  unfold lowerCm
  rw [rightC_of h1 h2 (by omega) l, decide_eq_true (by omega), Bool.and_self, if_pos rfl, Int.toNat_natCast, Int.toNat_natCast, Nat.mul_div_cancel_left b (by decide), lowC_of8 a b (by omega)]
  rw [show ((2 * b : Nat) : Int) / 2 = (b : Int) by omega]
theorem countCm_of {a b : Nat} (h1 : 1 ≤ a) (h2 : a ≤ 4) (h3 : b = 4 ∨ b = 8 ∨ b = 16 ∨ b = 32) (l : List (Nat × Nat)) (h : Nat) : countCm (a : Int) (b : Int) (ofI a b l) h = countL b (ofI a b l) h a := by
  unfold countCm
  rw [if_pos (rightC_of h1 h2 h3 l), Int.toNat_natCast, Int.toNat_natCast]
end Go.Proofs.Ytpdedogdffolnaa
