/- What the functions of layer 9 tell; digit by digit. Nothing of the program. -/
import Derived.Test.YtpdedogdffolnaaGList
namespace Go.Proofs.Ytpdedogdffolnaa

def digN (v : Nat) : Nat := if v = 0 then 0 else v.log2 + 1
theorem digN_half {v : Nat} (h : v ≠ 0) : digN v = digN (v / 2) + 1 := by
  unfold digN
  rw [if_neg h]
  by_cases h1 : v / 2 = 0
  · rw [if_pos h1]
    have : v = 1 := by omega
    rw [this]
    rfl
  · rw [if_neg h1]
    have h2 : v.log2 = (v / 2).log2 + 1 := (log_iff h).2 (by
      have g1 := Nat.log2_self_le h1
      have g2 := Nat.lt_log2_self (n := v / 2)
      rw [Nat.pow_succ] at g2 ⊢
      rw [Nat.pow_succ, Nat.pow_succ]
      omega)
    rw [h2]
theorem mant_zero (v : Nat) (hv : v ≠ 0) : mantP 0 v = 1 := by
  have h1 := mant_lo (f := 0) hv
  have h2 := mant_hi (f := 0) (v := v)
  omega
/-- A digit more. -/
theorem mant_step (i v : Nat) : mantP (i + 1) v = 2 * mantP i v + if i + 1 ≤ v.log2 then v / 2 ^ (v.log2 - 1 - i) % 2 else 0 := by
  by_cases h : i + 1 ≤ v.log2
  · rw [if_pos h, mant_long h, mant_long (by omega), show v.log2 - (i + 1) = v.log2 - 1 - i by omega, show v.log2 - i = v.log2 - 1 - i + 1 by omega, Nat.pow_succ, ← Nat.div_div_eq_div_mul]
    omega
  · rw [if_neg h, Nat.add_zero, mant_short (by omega)]
    by_cases h2 : v.log2 < i
    · rw [mant_short h2, show i + 1 - v.log2 = i - v.log2 + 1 by omega, Nat.pow_succ]
      rw [← Nat.mul_assoc, Nat.mul_comm _ 2]
      rfl
    · have h3 : v.log2 = i := by omega
      rw [mant_long (by omega), h3, Nat.sub_self, show i + 1 - i = 1 by omega]
      simp [Nat.mul_comm]
def fineB (f : Int) : Bool := decide (0 ≤ f) && decide (f ≤ 3)
theorem fineB_nat {f : Int} (h : fineB f = true) : ∃ n : Nat, f = (n : Int) ∧ n ≤ 3 := by
  obtain ⟨h1, h2⟩ := (Bool.and_eq_true _ _).mp h
  have h1 := of_decide_eq_true h1
  have h2 := of_decide_eq_true h2
  exact ⟨f.toNat, by omega, by omega⟩
theorem fineB_of {n : Nat} (h : n ≤ 3) : fineB (n : Int) = true := by
  unfold fineB
  rw [decide_eq_true (by omega), decide_eq_true (by omega)]
  rfl
def okI (f : Nat) (a : Int) : Bool := decide (0 ≤ a) && okP f a.toNat
def bucketI (f : Int) (v : Nat) : Nat := if fineB f then bktP f.toNat v else 0
def boundsI (f a : Int) : Nat × Nat × Bool := if fineB f && okI f.toNat a then (loP f.toNat a.toNat, hiP f.toNat a.toNat, true) else (0, 0, false)
/-- Rising, one by one. -/
def riseBn : List Bn → Bool
  | [] => true
  | x :: t => (match t with | [] => true | y :: _ => decide (x.1 < y.1)) && riseBn t
def binB (f : Int) (x : Bn) : Bool := fineB f && (okI f.toNat x.1 && decide (x.2 ≠ 0))
def rightG (f : Int) (L : List Bn) : Bool := fineB f && (L.all (binB f) && riseBn L)
theorem riseBn_all : ∀ {L : List Bn}, riseBn L = true → ∀ {x : Bn} {t : List Bn}, L = x :: t → ∀ y ∈ t, x.1 < y.1 := by
  intro L
  induction L with
  | nil => intro _ x t h; cases h
  | cons z s ih =>
    intro h x t he
    cases he
    cases s with
    | nil => intro y hy; cases hy
    | cons u r =>
      have h' : (decide (z.1 < u.1) && riseBn (u :: r)) = true := h
      obtain ⟨h1, h2⟩ := (Bool.and_eq_true _ _).mp h'
      intro y hy
      rcases List.mem_cons.1 hy with rfl | hy
      · exact of_decide_eq_true h1
      · have := ih h2 rfl y hy
        have := of_decide_eq_true h1
        omega
theorem riseBn_tail {x : Bn} {t : List Bn} (h : riseBn (x :: t) = true) : riseBn t = true := ((Bool.and_eq_true _ _).mp h).2
theorem right_rise {f : Int} {L : List Bn} (h : rightG f L = true) (hl : ∀ x ∈ L, x.2 ≤ topN) : RiseG L := by
  have h12 : L.all (binB f) = true ∧ riseBn L = true := (Bool.and_eq_true _ _).mp ((Bool.and_eq_true _ _).mp h).2
  clear h
  obtain ⟨h1, h2⟩ := h12
  induction L with
  | nil => trivial
  | cons x t ih =>
    rw [List.all_cons, Bool.and_eq_true] at h1
    refine ⟨riseBn_all h2 rfl, ?_, hl x (List.mem_cons_self ..), ih (fun y hy => hl y (List.mem_cons_of_mem _ hy)) h1.2 (riseBn_tail h2)⟩
    have := h1.1
    unfold binB at this
    simp only [Bool.and_eq_true, decide_eq_true_eq] at this
    exact this.2.2
theorem rise_bool {L : List Bn} (h : RiseG L) : riseBn L = true := by
  induction L with
  | nil => rfl
  | cons x t ih =>
    have h1 := ih h.tail
    cases t with
    | nil => rfl
    | cons y s =>
      show (decide (x.1 < y.1) && riseBn (y :: s)) = true
      rw [decide_eq_true (h.1 y (List.mem_cons_self ..)), h1]
      rfl
theorem rise_nz {L : List Bn} (h : RiseG L) : ∀ x ∈ L, x.2 ≠ 0 := by
  induction L with
  | nil => intro x hx; cases hx
  | cons y t ih =>
    intro x hx
    rcases List.mem_cons.1 hx with rfl | hx
    · exact h.2.1
    · exact ih h.tail x hx
theorem right_mk {n : Nat} (hn : n ≤ 3) {L : List Bn} (h : RiseG L) (ho : ∀ y ∈ L, 0 ≤ y.1 ∧ okP n y.1.toNat = true) : rightG (n : Int) L = true := by
  unfold rightG
  rw [fineB_of hn, Bool.true_and, rise_bool h, Bool.and_true, List.all_eq_true]
  intro x hx
  unfold binB okI
  rw [fineB_of hn, Int.toNat_natCast, (ho x hx).2, decide_eq_true (ho x hx).1, decide_eq_true (rise_nz h x hx)]
  rfl
theorem right_of {n : Nat} (hn : n ≤ 3) {l : List (Nat × Nat)} (hl : ∀ x ∈ l, x.1 ≤ topN ∧ x.2 ≤ topN) : rightG (n : Int) (ofG n l) = true :=
  right_mk hn (of_riseG n fun x hx => (hl x hx).2) (of_ok n fun x hx => (hl x hx).1)
/-! What is told: Fine, buckets; and the error's number. -/
abbrev Hg := (Int × List Bn) × Nat
def badG : Hg := ((0, []), 90)
def addG (f : Int) (L : List Bn) (v n : Nat) : Hg := if rightG f L then ((f, putBn L (bktP f.toNat v : Int) n), 0) else badG
def mergeGH (f : Int) (L : List Bn) (g : Int) (M : List Bn) : Hg := if rightG f L && (rightG g M && decide (f = g)) then ((f, mergeG L M), 0) else badG
def lowerGH (f : Int) (L : List Bn) : Hg := if rightG f L && decide (f ≠ 0) then ((f - 1, lowG f.toNat L), 0) else badG
def rankG (f : Int) (L : List Bn) (v : Nat) : Nat := if rightG f L then min (sumP (fun a => decide (a ≤ (bktP f.toNat v : Int))) L) topN else 0
/-- The first bucket up to which there are more. -/
def selL (p acc : Nat) : List Bn → Option Int
  | [] => none
  | x :: t => if p < plusS acc x.2 then some x.1 else selL p (plusS acc x.2) t
def selG (f : Int) (L : List Bn) (p : Nat) : Nat × Nat × Bool := if rightG f L then (match selL p 0 L with | some a => boundsI f a | none => (0, 0, false)) else (0, 0, false)
def sameG (f : Int) (L : List Bn) (g : Int) (M : List Bn) : Bool := decide (f = g) && decide (L = M)
theorem sameG_refl (f : Int) (L : List Bn) : sameG f L f L = true := by unfold sameG; simp
theorem addG_of {n : Nat} (hn : n ≤ 3) {l : List (Nat × Nat)} (hl : ∀ x ∈ l, x.1 ≤ topN ∧ x.2 ≤ topN) (h m : Nat) : addG (n : Int) (ofG n l) h m = (((n : Int), ofG n (l ++ [(h, m)])), 0) := by
  unfold addG
  rw [if_pos (right_of hn hl), Int.toNat_natCast, of_snocG]
theorem mergeG_of {n : Nat} (hn : n ≤ 3) {l m : List (Nat × Nat)} (hl : ∀ x ∈ l, x.1 ≤ topN ∧ x.2 ≤ topN) (hm : ∀ x ∈ m, x.1 ≤ topN ∧ x.2 ≤ topN) : mergeGH (n : Int) (ofG n l) (n : Int) (ofG n m) = (((n : Int), ofG n (l ++ m)), 0) := by
  unfold mergeGH
  rw [right_of hn hl, right_of hn hm, decide_eq_true rfl, merge_ofG n (fun x hx => (hl x hx).2) (fun x hx => (hm x hx).2)]
  rfl
theorem lowerG_of {n : Nat} (hn : n + 1 ≤ 3) {l : List (Nat × Nat)} (hl : ∀ x ∈ l, x.1 ≤ topN ∧ x.2 ≤ topN) : lowerGH ((n + 1 : Nat) : Int) (ofG (n + 1) l) = (((n : Int), ofG n l), 0) := by
  unfold lowerGH
  rw [right_of hn hl, decide_eq_true (by omega), Int.toNat_natCast, low_of9 n hl, Bool.and_self, if_pos rfl, show ((n + 1 : Nat) : Int) - 1 = (n : Int) by omega]
theorem rankG_of {n : Nat} (hn : n ≤ 3) {l : List (Nat × Nat)} (hl : ∀ x ∈ l, x.1 ≤ topN ∧ x.2 ≤ topN) (v : Nat) : rankG (n : Int) (ofG n l) v = min (cntG n (fun a => decide (a ≤ (bktP n v : Int))) l) topN := by
  unfold rankG
  rw [if_pos (right_of hn hl), Int.toNat_natCast, of_sumG]
end Go.Proofs.Ytpdedogdffolnaa
