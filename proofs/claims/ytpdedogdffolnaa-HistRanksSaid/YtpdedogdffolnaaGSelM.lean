/- The mathematics of HistRanks: values that come once each (stage 9). -/
import Derived.Test.YtpdedogdffolnaaGLawsD
namespace Go.Proofs.Ytpdedogdffolnaa

theorem sumP_no {p : Int → Bool} {l : List Bn} (h : ∀ x ∈ l, p x.1 = false) : sumP p l = 0 := by
  induction l with
  | nil => rfl
  | cons x t ih =>
    simp only [sumP]
    rw [h x (List.mem_cons_self ..), ih fun y hy => h y (List.mem_cons_of_mem _ hy)]
    rfl
theorem selL_spec {p : Nat} {X : List Bn} (hR : RiseG X) : ∀ acc, acc ≤ p → acc + sumP (fun _ => true) X ≤ topN →
    (selL p acc X = none ∧ acc + sumP (fun _ => true) X ≤ p) ∨ ∃ a, selL p acc X = some a ∧ (∃ y ∈ X, y.1 = a) ∧ p < acc + sumP (fun b => decide (b ≤ a)) X ∧ acc + sumP (fun b => decide (b < a)) X ≤ p := by
  induction X with
  | nil => intro acc h1 h2; exact .inl ⟨rfl, by simpa [sumP] using h1⟩
  | cons x t ih =>
    intro acc h1 h2
    have e0 : sumP (fun _ => true) (x :: t) = x.2 + sumP (fun _ => true) t := rfl
    rw [e0] at h2 ⊢
    have hs : plusS acc x.2 = acc + x.2 := by unfold plusS; omega
    unfold selL
    rw [hs]
    by_cases hp : p < acc + x.2
    · rw [if_pos hp]
      refine .inr ⟨x.1, rfl, ⟨x, List.mem_cons_self .., rfl⟩, ?_, ?_⟩
      · simp only [sumP, decide_eq_true (Int.le_refl x.1)]
        simp only [if_true]
        omega
      · rw [sumP_no]
        · omega
        · intro y hy
          rcases List.mem_cons.1 hy with rfl | hy
          · exact decide_eq_false (by omega)
          · exact decide_eq_false (by have := hR.1 y hy; omega)
    · rw [if_neg hp]
      rcases ih hR.tail (acc + x.2) (by omega) (by omega) with ⟨e1, e2⟩ | ⟨a, e1, ⟨y, hy, hya⟩, e3, e4⟩
      · exact .inl ⟨e1, by omega⟩
      · have hxa : x.1 < a := by rw [← hya]; exact hR.1 y hy
        refine .inr ⟨a, e1, ⟨y, List.mem_cons_of_mem _ hy, hya⟩, ?_, ?_⟩
        · simp only [sumP, decide_eq_true (show x.1 ≤ a by omega)]
          simp only [if_true]
          omega
        · simp only [sumP, decide_eq_true hxa]
          simp only [if_true]
          omega
def onesG (K : List Nat) : List (Nat × Nat) := K.map fun y => (y, 1)
theorem ones_len (K : List Nat) : (onesG K).length = K.length := by unfold onesG; rw [List.length_map]
theorem cnt_ones (f : Nat) (p : Int → Bool) (K : List Nat) : cntG f p (onesG K) = K.countP (fun y => p (bktP f y : Int)) := by
  induction K with
  | nil => rfl
  | cons y t ih =>
    have : onesG (y :: t) = (y, 1) :: onesG t := rfl
    rw [this, List.countP_cons]
    simp only [cntG, ih]
    omega
theorem ones_ok {K : List Nat} (hl : K.length ≤ 100) (hK : ∀ y ∈ K, y ≤ topN) : ItOk (onesG K) := by
  refine ⟨by rw [ones_len]; omega, fun x hx => ?_⟩
  obtain ⟨y, hy, rfl⟩ := List.mem_map.1 hx
  exact ⟨hK y hy, show 1 ≤ topN by decide⟩
theorem ones_snoc (K : List Nat) (k : Nat) (hk : k < K.length) : onesG (K.take (k + 1)) = onesG (K.take k) ++ [(K[k], 1)] := by
  unfold onesG
  rw [List.take_succ_eq_append_getElem hk, List.map_append]
  rfl
theorem cnt_small (f : Nat) (p : Int → Bool) {K : List Nat} (hl : K.length ≤ 100) : cntG f p (onesG K) ≤ 100 := by
  rw [cnt_ones]
  exact Nat.le_trans (List.countP_le_length ..) hl
theorem total_ones (f : Nat) {K : List Nat} (hl : K.length ≤ 100) : min (cntG f (fun _ => true) (onesG K)) topN = K.length := by
  rw [cnt_ones, List.countP_true]
  have : topN = 18446744073709551615 := rfl
  omega
theorem rank_ones {f v : Nat} {K : List Nat} (hl : K.length ≤ 100) (hK : ∀ y ∈ K, y ≤ topN) (hv : v ≤ topN) : min (cntG f (fun a => decide (a ≤ (bktP f v : Int))) (onesG K)) topN = K.countP (fun y => decide (y ≤ hiP f (bktP f v))) := by
  have h1 := cnt_small f (fun a => decide (a ≤ (bktP f v : Int))) hl
  have h2 : topN = 2 ^ 64 - 1 := rfl
  rw [Nat.min_eq_left (by omega), cnt_ones]
  refine List.countP_congr fun y hy => ?_
  have h3 := hK y hy
  have h4 := bkt_le_iff (f := f) (v := v) (w := y) (by omega) (by omega)
  simp only [decide_eq_true_eq]
  omega
theorem sum_ones (f : Nat) (p : Int → Bool) {K : List Nat} (hl : K.length ≤ 100) : sumP p (ofG f (onesG K)) = cntG f p (onesG K) := by
  have h1 := of_sumG f p (onesG K)
  have h2 := cnt_small f p hl
  have h3 : topN = 18446744073709551615 := rfl
  omega
/-- The rank of a value. -/
def rkG (f : Nat) (K : List Nat) (v : Nat) : Nat := min (cntG f (fun a => decide (a ≤ (bktP f v : Int))) (onesG K)) topN
theorem sel_ones {f : Nat} (hf : f ≤ 3) {K : List Nat} (hl : K.length ≤ 100) (hK : ∀ y ∈ K, y ≤ topN) (p : Nat) :
    (K.length ≤ p ∧ (selG f (ofG f (onesG K)) p).2.2 = false) ∨ (p < K.length ∧ ∃ a b : Nat, selG f (ofG f (onesG K)) p = (a, b, true) ∧ a ≤ b ∧ b ≤ topN ∧ p < rkG f K b ∧ (a = 0 ∨ rkG f K (a - 1) ≤ p)) := by
  have hI := ones_ok hl hK
  have hR := of_riseG f (fun x hx => (hI.2 x hx).2)
  have ht : topN = 2 ^ 64 - 1 := rfl
  have hT : sumP (fun _ => true) (ofG f (onesG K)) = K.length := by rw [sum_ones f _ hl, cnt_ones, List.countP_true]
  have hsel : selG (f : Int) (ofG f (onesG K)) p = (match selL p 0 (ofG f (onesG K)) with | some a => boundsI f a | none => (0, 0, false)) := by
    unfold selG
    rw [right_of hf hI.2, if_pos rfl]
    rfl
  rcases selL_spec hR (p := p) 0 (Nat.zero_le _) (by omega) with ⟨e1, e2⟩ | ⟨a, e1, ⟨y, hy, rfl⟩, e3, e4⟩
  · refine .inl ⟨by omega, ?_⟩
    rw [hsel, e1]
  · have h1 := sumP_le (p := fun b => decide (b ≤ y.1)) (q := fun _ => true) (fun _ _ => rfl) (ofG f (onesG K))
    obtain ⟨h0, ho⟩ := of_ok f (fun x hx => (hI.2 x hx).1) y hy
    obtain ⟨A, hA⟩ : ∃ A : Nat, y.1 = (A : Int) := ⟨y.1.toNat, by omega⟩
    rw [hA] at e1 e3 e4 ho h1
    rw [Int.toNat_natCast] at ho
    have hb : boundsI (f : Int) (A : Int) = (loP f A, hiP f A, true) := by
      unfold boundsI okI
      rw [fineB_of hf, Int.toNat_natCast, Int.toNat_natCast, ho, decide_eq_true (by omega)]
      rfl
    refine .inr ⟨by omega, loP f A, hiP f A, by rw [hsel, e1]; exact hb, lo_le_hi f A, by have := hi_lt ho; omega, ?_, ?_⟩
    · unfold rkG
      have h2 := cnt_small f (fun a => decide (a ≤ (bktP f (hiP f A) : Int))) hl
      rw [Nat.min_eq_left (by omega), bkt_hi ho, ← sum_ones f _ hl]
      omega
    · rcases Nat.eq_zero_or_pos (loP f A) with hz | hz
      · exact .inl hz
      · right
        have h3 := bkt_lt ho (v := loP f A - 1) (by omega)
        have h4 := sumP_le (p := fun b => decide (b ≤ (bktP f (loP f A - 1) : Int))) (q := fun b => decide (b < (A : Int))) (fun b hb => decide_eq_true (by have := of_decide_eq_true hb; omega)) (ofG f (onesG K))
        unfold rkG
        rw [← sum_ones f _ hl]
        omega
end Go.Proofs.Ytpdedogdffolnaa
