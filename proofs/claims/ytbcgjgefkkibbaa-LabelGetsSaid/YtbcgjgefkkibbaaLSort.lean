/- Plain mathematics: labels sorted by their names; what a text tells. -/
import Derived.Test.YtbcgjgefkkibbaaLLen
import Derived.Shelf.SlSortCmp.WholeK
namespace Go.Proofs.Ytbcgjgefkkibbaa
open Go.RowKit

def cfL (x y : Lab) : Int := Lib.compareBytes x.1.data.toList y.1.data.toList
theorem cmp_ntrans (a b c : List UInt8) (h1 : ¬ Lib.compareBytes a b < 0) (h2 : ¬ Lib.compareBytes b c < 0) : ¬ Lib.compareBytes a c < 0 := by
  have s1 := cmp_swap a b
  have s2 := cmp_swap b c
  have s3 := cmp_swap a c
  intro h
  rcases cmp_cases a b with e | ⟨_, rfl⟩ | e
  · omega
  · exact h2 h
  · rcases cmp_cases b c with e2 | ⟨_, rfl⟩ | e2
    · omega
    · exact h1 h
    · have := cmp_trans c b a (by omega) (by omega)
      omega
theorem swoL : Sort.SWO (ltOf cfL) where
  irrefl x := by simp [ltOf, cfL, cmp_self]
  trans x y z h1 h2 := decide_eq_true (cmp_trans _ _ _ (of_decide_eq_true h1) (of_decide_eq_true h2))
  ntrans x y z h1 h2 := decide_eq_false (cmp_ntrans _ _ _ (of_decide_eq_false h1) (of_decide_eq_false h2))
theorem ins_perm : ∀ (A : List Lab) (x : Lab), (insL A x).Perm (x :: A) := by
  intro A x
  induction A with
  | nil => exact List.Perm.refl _
  | cons a A ih =>
    unfold insL
    split
    · exact (List.Perm.cons a ih).trans (List.Perm.swap x a A)
    · exact List.Perm.refl _
theorem fold_perm : ∀ (M A : List Lab), (M.foldl insL A).Perm (M ++ A) := by
  intro M
  induction M with
  | nil => intro A; exact List.Perm.refl _
  | cons x M ih =>
    intro A
    rw [List.foldl_cons]
    refine (ih (insL A x)).trans ?_
    refine ((ins_perm A x).append_left M).trans ?_
    exact List.perm_middle
/-- Two lists of the same labels, one rising, the other sorted: they are the same. -/
theorem rise_sorted {A B : List Lab} (hp : A.Perm B) (hA : A.Pairwise fun x y => ¬ cfL y x < 0) (hB : RiseL B) : A = B := by
  have hB' : B.Pairwise fun x y => ¬ cfL y x < 0 := hB.imp fun {x y} h => by
    have := cmp_swap x.1.data.toList y.1.data.toList
    show ¬ Lib.compareBytes y.1.data.toList x.1.data.toList < 0
    omega
  refine List.Perm.eq_of_pairwise ?_ hA hB' hp
  intro x y hx hy h1 h2
  have hxB := hp.subset hx
  -- two labels of B that neither is less: one label
  have key : ∀ (L : List Lab), RiseL L → ∀ x ∈ L, ∀ y ∈ L, ¬ cfL y x < 0 → ¬ cfL x y < 0 → x = y := by
    intro L
    induction L with
    | nil => intro _ x hx; simp at hx
    | cons a L ih =>
      intro hL x hx y hy h1 h2
      obtain ⟨ha, hL'⟩ := List.pairwise_cons.1 hL
      rcases List.mem_cons.1 hx with e1 | kx
      · rcases List.mem_cons.1 hy with e2 | ky
        · rw [e1, e2]
        · rw [e1] at h2
          exact absurd (ha y ky) h2
      · rcases List.mem_cons.1 hy with e2 | ky
        · rw [e2] at h1
          exact absurd (ha x kx) h1
        · exact ih hL' x kx y ky h1 h2
  exact key B hB x hxB y hy h1 h2
theorem rise_perm {A B : List Lab} (hp : A.Perm B) (hA : RiseL A) (hB : B.Pairwise fun x y => ¬ cfL y x < 0) : A = B := (rise_sorted hp.symm hB hA).symm
theorem ins_sorted : ∀ (A : List Lab) (x : Lab), (A.Pairwise fun x y => ¬ cfL y x < 0) → (insL A x).Pairwise fun x y => ¬ cfL y x < 0 := by
  intro A x
  induction A with
  | nil => intro _; exact List.pairwise_singleton ..
  | cons a A ih =>
    intro h
    obtain ⟨ha, hA⟩ := List.pairwise_cons.1 h
    unfold insL
    split
    · rename_i hlt
      refine List.pairwise_cons.2 ⟨fun y hy => ?_, ih hA⟩
      rcases insL_mem hy with rfl | hy
      · show ¬ Lib.compareBytes y.1.data.toList a.1.data.toList < 0
        have := cmp_swap y.1.data.toList a.1.data.toList
        omega
      · exact ha y hy
    · rename_i hlt
      refine List.pairwise_cons.2 ⟨fun y hy => ?_, h⟩
      rcases List.mem_cons.1 hy with rfl | hy
      · exact hlt
      · exact cmp_ntrans _ _ _ (ha y hy) hlt
theorem fold_sorted : ∀ (M A : List Lab), (A.Pairwise fun x y => ¬ cfL y x < 0) → (M.foldl insL A).Pairwise fun x y => ¬ cfL y x < 0 := by
  intro M
  induction M with
  | nil => intro A h; exact h
  | cons x M ih => intro A h; exact ih _ (ins_sorted A x h)
/-- Sorted in whatever way: a set, or none. -/
theorem sorted_right {M S : List Lab} (hp : S.Perm M) (hs : S.Pairwise fun x y => ¬ cfL y x < 0) :
    (rightB S = true → S = M.foldl insL []) ∧ (rightB S = false → rightB (M.foldl insL []) = false) := by
  have hF := fold_perm M []
  rw [List.append_nil] at hF
  have hq : S.Perm (M.foldl insL []) := hp.trans hF.symm
  have hfs := fold_sorted M [] List.Pairwise.nil
  refine ⟨fun h => rise_perm hq (right_good h).2 hfs, fun h => ?_⟩
  cases hr : rightB (M.foldl insL []) with
  | false => rfl
  | true =>
    have := rise_sorted hq hs (right_good hr).2
    rw [this, hr] at h
    cases h

theorem good_wt {x : Lab} (h : goodB x = true) : wtL x ≤ 133 := by
  unfold goodB at h
  simp only [Bool.and_eq_true] at h
  obtain ⟨h1, h2⟩ := h
  unfold nameB at h1
  simp only [Bool.and_eq_true, decide_eq_true_eq] at h1
  unfold valueB fewB at h2
  simp only [Bool.and_eq_true] at h2
  cases hc : cntL x.2.data.toList with
  | none => rw [hc] at h2; simp at h2
  | some n =>
    rw [hc] at h2
    simp only [decide_eq_true_eq] at h2
    obtain ⟨e1, e2⟩ := nl_cnt _ _ hc
    unfold wtL
    omega
theorem sum_le : ∀ (M : List Lab), (∀ x ∈ M, wtL x ≤ 133) → (M.map fun x => wtL x + 1).sum ≤ 134 * M.length := by
  intro M
  induction M with
  | nil => intro _; simp
  | cons x M ih =>
    intro h
    have h1 := h x (List.mem_cons_self ..)
    have h2 := ih fun y hy => h y (List.mem_cons_of_mem _ hy)
    rw [List.map_cons, List.sum_cons, List.length_cons]
    omega
/-- What the page tells of a text, by its labels in order. -/
theorem parse_labs (l : List UInt8) : (∀ k, cntL l = some k → parseL l = match labsO (l.length + 2) (44 :: l) with | none => none | some M => if rightB (M.foldl insL []) = true then some (M.foldl insL []) else none) ∧ (cntL l = none → parseL l = none) := by
  refine ⟨fun k hk => ?_, fun hk => by unfold parseL; rw [hk]⟩
  unfold parseL
  rw [hk]
  show doneL (labsL _ _ []) = _
  rw [labs_of]
  cases labsO (l.length + 2) (44 :: l) <;> rfl
/-- A text that tells a set has at most 803 bytes. -/
theorem parse_len (l : List UInt8) (h : 803 < l.length) : parseL l = none := by
  cases hk : cntL l with
  | none => exact (parse_labs l).2 hk
  | some k =>
    rw [(parse_labs l).1 k hk]
    cases ho : labsO (l.length + 2) (44 :: l) with
    | none => rfl
    | some M =>
      dsimp only
      cases hr : rightB (M.foldl insL []) with
      | false => rfl
      | true =>
        exfalso
        have hF := fold_perm M []
        rw [List.append_nil] at hF
        have hg := right_good hr
        have hw := sum_le M fun x hx => good_wt (hg.1 x (hF.symm.subset hx))
        have hsz := labs_size _ l M k hk ho
        have h6 := (right_len hr).2
        rw [hF.length_eq] at h6
        omega
end Go.Proofs.Ytbcgjgefkkibbaa
