/- The statements' walks: ExactParts. -/
import Derived.Test.YtncjbbgenngegaaELawsO
import Derived.Deep.RegionHeldLaw
namespace Go.Proofs.Ytncjbbgenngegaa
open Go.RowKit

/-- A list of numbers lies in no block that holds a sketch. -/
theorem NumSl.apart {W : World} {b : Nat} {T : TypeId} {a : Option Addr} {n c : Nat} {v : Value} {L : List Nat} (h : NumSl W v L) (hb : HasC W b T #[.slice a n c]) (u : Value) : NumSl (W.setCell ⟨b, 0, none⟩ u) v L := by
  rcases h with h | ⟨g, o, c', h1, h2, h3, h4⟩
  · exact .inl h
  · by_cases hg : g = b
    · subst hg
      rcases L with _ | ⟨x, t⟩
      · exact .inl ⟨_, _, h1, fun e => (by cases e), rfl⟩
      · have hc := h4 0 (by simp)
        rw [hb.cell] at hc
        rw [Nat.add_zero] at hc
        rcases o with _ | o
        · simp at hc
        · simp at hc
    · refine .inr ⟨g, o, c', h1, h2, by simpa using h3, fun j hj => ?_⟩
      rw [World.cell?_setCell_far W ⟨b, 0, none⟩ ⟨g, o + j, none⟩ u (by simpa using fun e => hg e.symm)]
      exact h4 j hj
theorem parts_merge {U : List Nat} {k : Nat} (h : (ofN U).length ≤ 64) : ofP (U.take k) = (ofN (U.take k), 0) ∧ ofP (U.drop k) = (ofN (U.drop k), 0) ∧ rightN (ofN (U.take k)) = true ∧ rightN (ofN (U.drop k)) = true ∧ (ofN (U.take k)).length ≤ 64 ∧ (ofN (U.drop k)).length ≤ 64 ∧
    mergeP (ofN (U.take k)) (ofN (U.drop k)) = (ofN U, 0) ∧ mergeP (ofN (U.drop k)) (ofN (U.take k)) = (ofN U, 0) := by
  have h1 : (ofN (U.take k)).length ≤ 64 := Nat.le_trans (of_mono fun x hx => List.mem_of_mem_take hx) h
  have h2 : (ofN (U.drop k)).length ≤ 64 := Nat.le_trans (of_mono fun x hx => List.mem_of_mem_drop hx) h
  have hm : ∀ x, x ∈ U ↔ x ∈ U.take k ∨ x ∈ U.drop k := fun x => by rw [← List.mem_append, List.take_append_drop]
  have e1 : ofN (ofN (U.take k) ++ ofN (U.drop k)) = ofN U := of_congr fun x => by rw [List.mem_append, mem_of, mem_of, hm]
  have e2 : ofN (ofN (U.drop k) ++ ofN (U.take k)) = ofN U := of_congr fun x => by rw [List.mem_append, mem_of, mem_of, hm]; exact or_comm
  have hr1 := of_right h1
  have hr2 := of_right h2
  have ep : ∀ A : List Nat, (ofN A).length ≤ 64 → ofP A = (ofN A, 0) := fun A hA => by unfold ofP; rw [if_pos hA]
  exact ⟨ep _ h1, ep _ h2, hr1, hr2, h1, h2, by rw [mergeP_of hr1 hr2 (by rw [e1]; exact h), e1], by rw [mergeP_of hr2 hr1 (by rw [e2]; exact h), e2]⟩
theorem add_drop {U : List Nat} {k : Nat} (hk : k < U.length) (h : (ofN U).length ≤ 64) : addP (ofN (U.drop (k + 1))) U[k] = (ofN (U.drop k), 0) := by
  have h1 : (ofN (U.drop (k + 1))).length ≤ 64 := Nat.le_trans (of_mono fun x hx => List.mem_of_mem_drop hx) h
  have h2 : (ofN (U.drop k)).length ≤ 64 := Nat.le_trans (of_mono fun x hx => List.mem_of_mem_drop hx) h
  have e : ofN (ofN (U.drop (k + 1)) ++ [U[k]]) = ofN (U.drop k) := of_congr fun x => by
    rw [List.drop_eq_getElem_cons hk]
    simp only [List.mem_append, mem_of, List.mem_cons, List.not_mem_nil, or_false]
    exact or_comm
  unfold addP
  rw [if_pos (of_right h1)]
  unfold ofP
  rw [e, if_pos h2]
theorem ofP_bad {L : List Nat} (h : ¬ (ofP L).2 = 0) : ofP L = ([], 60) ∧ ¬ (ofN L).length ≤ 64 := by
  unfold ofP at h ⊢
  by_cases hl : (ofN L).length ≤ 64
  · rw [if_pos hl] at h; exact absurd rfl h
  · rw [if_neg hl]; exact ⟨rfl, hl⟩
theorem ofP_good {L : List Nat} (h : (ofP L).2 = 0) : (ofN L).length ≤ 64 ∧ ofP L = (ofN L, 0) := by
  unfold ofP at h ⊢
  by_cases hl : (ofN L).length ≤ 64
  · rw [if_pos hl]; exact ⟨hl, rfl⟩
  · rw [if_neg hl] at h; cases h
theorem clamp_of (x : Int) (n : Nat) : ∃ m : Int, (if (n : Int) < x then (n : Int) else x) = m ∧ ∃ k : Nat, (if (0 : Int) < m then m else 0) = (k : Int) ∧ k ≤ n := by
  refine ⟨_, rfl, (if (0 : Int) < (if (n : Int) < x then (n : Int) else x) then (if (n : Int) < x then (n : Int) else x) else 0).toNat, ?_, ?_⟩
  · by_cases h1 : (n : Int) < x
    · rw [if_pos h1]
      by_cases h2 : (0 : Int) < n
      · rw [if_pos h2]; omega
      · rw [if_neg h2]; rfl
    · rw [if_neg h1]
      by_cases h2 : (0 : Int) < x
      · rw [if_pos h2]; omega
      · rw [if_neg h2]; rfl
  · by_cases h1 : (n : Int) < x
    · rw [if_pos h1]
      by_cases h2 : (0 : Int) < n
      · rw [if_pos h2]; omega
      · rw [if_neg h2]; simp
    · rw [if_neg h1]
      by_cases h2 : (0 : Int) < x
      · rw [if_pos h2]; omega
      · rw [if_neg h2]; simp
set_option maxHeartbeats 16000000 in
set_option maxRecDepth 100000 in
theorem lawParts_any (l : List Nat) (v : Value) (x0 : Int) (w : World) (h : NumSl w v l) (hn : l.length ≤ maxLen) :
    Calls Try.prog 5 #[v, .int .i64 x0] w fun e w' => e = .returned (.bool true) ∧ Below w.heap.size w w' := by
  have HV := Lib.hid h
  have FB := Lib.hid (fun W h => few6_any l v W h hn)
  have lU : (l.take 100).length ≤ 100 := by rw [List.length_take]; omega
  obtain ⟨U, hU⟩ : ∃ U, l.take 100 = U := ⟨_, rfl⟩
  rw [hU] at FB lU
  obtain ⟨a1, c1, rfl, _⟩ := h.shape
  obtain ⟨n1, hn1⟩ : ∃ n, n = l.length := ⟨_, rfl⟩
  rw [← hn1] at FB HV ⊢
  clear h hn hU hn1
  go_enter Try.func5, Try.ntmps5
  go_wp2_with fail
  with_reducible refine (shown6_any _).mono ?_
  rintro e w1 ⟨rfl, hk⟩
  go_wp2_with fail
  with_reducible refine (FB.out _ (HV.out.below hk)).mono ?_
  rintro e w2 ⟨s2, rfl, hs2, rfl⟩
  obtain ⟨n, hnU⟩ : ∃ n, n = U.length := ⟨_, rfl⟩
  obtain ⟨m0, hcm, k, hck, hkn⟩ := clamp_of x0 n
  have hr1 := num_take hs2 k (by omega)
  have hr2 := num_drop hs2 k (by omega)
  obtain ⟨src1, hr1, hs1⟩ := hr1
  obtain ⟨src2, hr2, hs3⟩ := hr2
  obtain ⟨ao, ac, rfl, hcells⟩ := hs2.shape
  have HS := Lib.hid hs2
  have HS1 := Lib.hid hs1
  have HS3 := Lib.hid hs3
  have HC := Lib.hid hcells
  have HNU := Lib.hid hnU
  rw [← hnU] at hr1 hr2 HS lU ⊢
  clear hs1 hs2 hs3 hcells hnU
  by_cases hbad : ¬ (ofP U).2 = 0
  · obtain ⟨hP, h65⟩ := ofP_bad hbad
    have O1 := Lib.hid (fun W v h => xOf_any U v W h (by have := HNU.out; omega))
    have O2 := Lib.hid (fun W v h => xOf_any (U.take k) v W h (by have := HNU.out; rw [List.length_take]; omega))
    have O3 := Lib.hid (fun W v h => xOf_any (U.drop k) v W h (by have := HNU.out; rw [List.length_drop]; omega))
    rw [hP] at O1
    obtain ⟨⟨X, e1⟩, hP1⟩ : ∃ P, ofP (U.take k) = P := ⟨_, rfl⟩
    obtain ⟨⟨Y, e2⟩, hP2⟩ : ∃ P, ofP (U.drop k) = P := ⟨_, rfl⟩
    rw [hP1] at O2
    rw [hP2] at O3
    clear hbad hP h65 hP1 hP2
    obtain ⟨Z, hZ⟩ : ∃ Z : List Nat, Z = [] := ⟨_, rfl⟩
    rw [← hZ] at O1
    clear hZ
    have hk2 := Below.refl w2.heap.size w2
    go_wp2_with fail
    with_reducible refine (O1.out _ _ (HS.out)).mono ?_
    rintro e x1 ⟨⟨y1, rfl, z1⟩, hb⟩
    have hk := hk.trans (hb.mono hk.size)
    have hk2 := hk2.trans (hb.mono hk2.size)
    obtain ⟨ao1, cc1, rfl, _⟩ := z1.sl.shape
    have zs1 : NumSl x1 (.slice ao1 Z.length cc1) Z := z1.sl
    obtain ⟨u1, hu1, hbu1, at1⟩ := at_new x1 (.slice ao1 Z.length cc1) Z zs1
    have hk := hk.trans (hbu1.mono hk.size)
    have hk2 := hk2.trans (hbu1.mono hk2.size)
    clear zs1 z1 hb hbu1
    go_wp2_with fail
    with_reducible refine (O2.out _ _ (HS1.out.below hk2)).mono ?_
    rintro e x2 ⟨⟨y2, rfl, z2⟩, hb⟩
    have hk := hk.trans (hb.mono hk.size)
    have hk2 := hk2.trans (hb.mono hk2.size)
    have at1 := at1.on hb
    obtain ⟨ao2, cc2, rfl, _⟩ := z2.sl.shape
    have zs2 : NumSl x2 (.slice ao2 X.length cc2) X := z2.sl
    obtain ⟨u2, hu2, hbu2, at2⟩ := at_new x2 (.slice ao2 X.length cc2) X zs2
    have hk := hk.trans (hbu2.mono hk.size)
    have hk2 := hk2.trans (hbu2.mono hk2.size)
    have at1 := at1.on hbu2
    clear zs2 z2 hb hbu2
    go_wp2_with fail
    with_reducible refine (O3.out _ _ (HS3.out.below hk2)).mono ?_
    rintro e x3 ⟨⟨y3, rfl, z3⟩, hb⟩
    have hk := hk.trans (hb.mono hk.size)
    have hk2 := hk2.trans (hb.mono hk2.size)
    have at1 := at1.on hb
    have at2 := at2.on hb
    obtain ⟨ao3, cc3, rfl, _⟩ := z3.sl.shape
    have zs3 : NumSl x3 (.slice ao3 Y.length cc3) Y := z3.sl
    obtain ⟨u3, hu3, hbu3, at3⟩ := at_new x3 (.slice ao3 Y.length cc3) Y zs3
    have hk := hk.trans (hbu3.mono hk.size)
    have hk2 := hk2.trans (hbu3.mono hk2.size)
    have at1 := at1.on hbu3
    have at2 := at2.on hbu3
    clear zs3 z3 hb hbu3
    go_wp2_with fail
    go_ret
    exact ⟨rfl, hk⟩
  · obtain ⟨h64, hP⟩ := ofP_good (Decidable.not_not.1 hbad)
    obtain ⟨p1, p2, p3, p4, p5, p6, p7, p8⟩ := parts_merge (k := k) h64
    have O1 := Lib.hid (fun W v h => xOf_any U v W h (by have := HNU.out; omega))
    have O2 := Lib.hid (fun W v h => xOf_any (U.take k) v W h (by have := HNU.out; rw [List.length_take]; omega))
    have O3 := Lib.hid (fun W v h => xOf_any (U.drop k) v W h (by have := HNU.out; rw [List.length_drop]; omega))
    rw [hP] at O1
    rw [p1] at O2
    rw [p2] at O3
    have M1 := Lib.hid (fun W va vb hA hB => xMerge_any (ofN (U.take k)) (ofN (U.drop k)) va vb W hA hB (by omega) (by omega))
    have M2 := Lib.hid (fun W va vb hA hB => xMerge_any (ofN (U.drop k)) (ofN (U.take k)) va vb W hA hB (by omega) (by omega))
    rw [p7] at M1
    rw [p8] at M2
    have S1 := Lib.hid (fun W va vb hA hB => xSame_any (ofN U) (ofN U) va vb W hA hB (by omega) (by omega))
    rw [decide_eq_true rfl] at S1
    have A1 := Lib.hid (fun (j : Nat) (hj : j < U.length) W v h => (add_drop hj h64) ▸ xAdd_any (ofN (U.drop (j + 1))) U[j] v W h (Nat.le_trans (Nat.le_trans (of_mono fun x hx => List.mem_of_mem_drop hx) h64) (by decide)))
    have hD0 : Hid (ofN (U.drop n) = []) := by
      show ofN (U.drop n) = []
      rw [List.drop_eq_nil_of_le (by have := HNU.out; omega)]
      rfl
    obtain ⟨X, hX⟩ : ∃ X, ofN (U.take k) = X := ⟨_, rfl⟩
    obtain ⟨Y, hY⟩ : ∃ Y, ofN (U.drop k) = Y := ⟨_, rfl⟩
    obtain ⟨A, hA⟩ : ∃ A, ofN U = A := ⟨_, rfl⟩
    rw [hX] at O2 M1 M2
    rw [hY] at O3 M1 M2
    rw [hA] at O1 M1 M2 S1
    have HA := Lib.hid hA
    clear hbad hP h64 p1 p2 p3 p4 p5 p6 p7 p8 hX hY hA
    have hk2 := Below.refl w2.heap.size w2
    go_wp2_with fail
    with_reducible refine (O1.out _ _ (HS.out)).mono ?_
    rintro e x1 ⟨⟨y1, rfl, z1⟩, hb⟩
    have hk := hk.trans (hb.mono hk.size)
    have hk2 := hk2.trans (hb.mono hk2.size)
    obtain ⟨ao1, cc1, rfl, _⟩ := z1.sl.shape
    have zs1 : NumSl x1 (.slice ao1 A.length cc1) A := z1.sl
    obtain ⟨u1, hu1, hbu1, at1⟩ := at_new x1 (.slice ao1 A.length cc1) A zs1
    have hk := hk.trans (hbu1.mono hk.size)
    have hk2 := hk2.trans (hbu1.mono hk2.size)
    clear zs1 z1 hb hbu1
    go_wp2_with fail
    with_reducible refine (O2.out _ _ (HS1.out.below hk2)).mono ?_
    rintro e x2 ⟨⟨y2, rfl, z2⟩, hb⟩
    have hk := hk.trans (hb.mono hk.size)
    have hk2 := hk2.trans (hb.mono hk2.size)
    have at1 := at1.on hb
    obtain ⟨ao2, cc2, rfl, _⟩ := z2.sl.shape
    have zs2 : NumSl x2 (.slice ao2 X.length cc2) X := z2.sl
    obtain ⟨u2, hu2, hbu2, at2⟩ := at_new x2 (.slice ao2 X.length cc2) X zs2
    have hk := hk.trans (hbu2.mono hk.size)
    have hk2 := hk2.trans (hbu2.mono hk2.size)
    have at1 := at1.on hbu2
    clear zs2 z2 hb hbu2
    go_wp2_with fail
    with_reducible refine (O3.out _ _ (HS3.out.below hk2)).mono ?_
    rintro e x3 ⟨⟨y3, rfl, z3⟩, hb⟩
    have hk := hk.trans (hb.mono hk.size)
    have hk2 := hk2.trans (hb.mono hk2.size)
    have at1 := at1.on hb
    have at2 := at2.on hb
    obtain ⟨ao3, cc3, rfl, _⟩ := z3.sl.shape
    have zs3 : NumSl x3 (.slice ao3 Y.length cc3) Y := z3.sl
    obtain ⟨u3, hu3, hbu3, at3⟩ := at_new x3 (.slice ao3 Y.length cc3) Y zs3
    have hk := hk.trans (hbu3.mono hk.size)
    have hk2 := hk2.trans (hbu3.mono hk2.size)
    have at1 := at1.on hbu3
    have at2 := at2.on hbu3
    clear zs3 z3 hb hbu3
    have k2 := at2.cell
    have k3 := at3.cell
    go_wp2_with fail
    with_reducible refine (M1.out _ _ _ at2.sl at3.sl).mono ?_
    rintro e x4 ⟨⟨y4, rfl, z4⟩, hb⟩
    have hk := hk.trans (hb.mono hk.size)
    have hk2 := hk2.trans (hb.mono hk2.size)
    have at1 := at1.on hb
    have at2 := at2.on hb
    have at3 := at3.on hb
    obtain ⟨ao4, cc4, rfl, _⟩ := z4.sl.shape
    have zs4 : NumSl x4 (.slice ao4 A.length cc4) A := z4.sl
    obtain ⟨u4, hu4, hbu4, at4⟩ := at_new x4 (.slice ao4 A.length cc4) A zs4
    have hk := hk.trans (hbu4.mono hk.size)
    have hk2 := hk2.trans (hbu4.mono hk2.size)
    have at1 := at1.on hbu4
    have at2 := at2.on hbu4
    have at3 := at3.on hbu4
    clear zs4 z4 hb hbu4
    clear k2 k3
    have k2 := at2.cell
    have k3 := at3.cell
    go_wp2_with fail
    with_reducible refine (M2.out _ _ _ at3.sl at2.sl).mono ?_
    rintro e x5 ⟨⟨y5, rfl, z5⟩, hb⟩
    have hk := hk.trans (hb.mono hk.size)
    have hk2 := hk2.trans (hb.mono hk2.size)
    have at1 := at1.on hb
    have at2 := at2.on hb
    have at3 := at3.on hb
    have at4 := at4.on hb
    obtain ⟨ao5, cc5, rfl, _⟩ := z5.sl.shape
    have zs5 : NumSl x5 (.slice ao5 A.length cc5) A := z5.sl
    obtain ⟨u5, hu5, hbu5, at5⟩ := at_new x5 (.slice ao5 A.length cc5) A zs5
    have hk := hk.trans (hbu5.mono hk.size)
    have hk2 := hk2.trans (hbu5.mono hk2.size)
    have at1 := at1.on hbu5
    have at2 := at2.on hbu5
    have at3 := at3.on hbu5
    have at4 := at4.on hbu5
    clear zs5 z5 hb hbu5
    clear k2 k3
    have hx6 := HasC.new u5 24 #[.slice none 0 0]
    have hb6 := (Below.refl u5.heap.size u5).alloc (Nat.le_refl _) (Obj.cells #[.slice none 0 0] 24)
    have hn6 : NumSl (u5.alloc (Obj.cells #[.slice none 0 0] 24)) (.slice none 0 0) (ofN (U.drop n)) := by rw [hD0.out]; exact num_nil _
    have HSU := Lib.hid (HS.out.below hk2)
    obtain ⟨aoU, acU, heU, hcU⟩ := HSU.out.shape
    simp only [Value.slice.injEq] at heU
    obtain ⟨rfl, hnU2, rfl⟩ := heU
    have HCU := Lib.hid hcU
    have hn100 : n ≤ 100 := lU
    have HK := Lib.hid hk
    clear hcU hk hk2 hnU2
    go_wp2_with fail
    go_loopw [17] (fun i wr => ∃ j : Nat, j ≤ n ∧ i = .int .i64 ((j : Int) - 1) ∧ Below u5.heap.size u5 wr ∧ ∃ so sn sc, HasC wr u5.heap.size 24 #[.slice so sn sc] ∧ NumSl wr (.slice so sn sc) (ofN (U.drop j))) (fun i _ => (intOf i + 1).toNat)
    case atStart => exact ⟨n, Nat.le_refl _, rfl, hb6, _, _, _, hx6, hn6⟩
    case round =>
      obtain ⟨j, hj, rfl, hbel, so, sn, sc, hB, hNs⟩ := hrel
      cases j with
      | zero =>
        have e0 : (((0 : Nat) : Int) - 1) = -1 := rfl
        rw [e0]
        rw [List.drop_zero, HA.out] at hNs
        have at1 := at1.on hbel
        have at4 := at4.on hbel
        have at5 := at5.on hbel
        have k1 := at1.cell
        have k4 := at4.cell
        have k5 := at5.cell
        have k6 := hB.cell 0
        have hk := HK.out.trans (hbel.mono HK.out.size)
        have HB := Lib.hid hB
        have hlt := hB.lt
        clear hbel e0 hB
        go_wp2_with fail
        with_reducible refine (S1.out _ _ _ at4.sl at1.sl).mono ?_
        rintro e w8 ⟨rfl, hb⟩
        have at1 := at1.on hb
        have at5 := at5.on hb
        have hB := HB.out.below hb hlt
        have hNs := hNs.below hb
        have hk := hk.trans (hb.mono hk.size)
        have hlt := hB.lt
        clear k1 k4 k5 k6 hb
        have k1 := at1.cell
        have k5 := at5.cell
        have k6 := hB.cell 0
        go_wp2_with fail
        with_reducible refine (S1.out _ _ _ at5.sl at1.sl).mono ?_
        rintro e w9 ⟨rfl, hb⟩
        have at1 := at1.on hb
        have hB := hB.below hb hlt
        have hNs := hNs.below hb
        have hk := hk.trans (hb.mono hk.size)
        clear k1 k5 k6 hb
        have k1 := at1.cell
        have k6 := hB.cell 0
        go_wp2_with fail
        with_reducible refine (S1.out _ _ _ hNs at1.sl).mono ?_
        rintro e w10 ⟨rfl, hb⟩
        have hk := hk.trans (hb.mono hk.size)
        go_wp2_with fail
        go_ret
        exact ⟨rfl, hk⟩
      | succ j =>
        have ej : (((j + 1 : Nat) : Int) - 1) = (j : Int) := by omega
        rw [ej]
        have hjU : j < U.length := by have := HNU.out; omega
        obtain ⟨g, o, rfl, hcell⟩ := HCU.out j hjU
        have c0 := hB.cell 0
        have c1 := hcell wr hbel
        have AJ := Lib.hid (A1.out j hjU)
        obtain ⟨y, hy⟩ : ∃ y, U[j] = y := ⟨_, rfl⟩
        rw [hy] at c1 AJ
        have HN := Lib.hid hNs
        have hlt := hB.lt
        have HB := Lib.hid hB
        clear hNs hcell hy
        go_wp2_with fail
        have C0 := Lib.hid c0
        have C1 := Lib.hid c1
        have hgl := World.block_lt_of_cell? _ _ c1
        go_region_held_law (fun w' => w'.cell? ⟨u5.heap.size, 0, none⟩ = some (.slice so sn sc) ∧ w'.cell? ⟨g, o + j, none⟩ = some (nV y))
          (first
            | go_keep
            | exact ⟨(HK8.out.cell (p := ⟨u5.heap.size, 0, none⟩) hlt).trans C0.out, (HK8.out.cell (p := ⟨g, o + j, none⟩) hgl).trans C1.out⟩
            | exact ⟨((HK8.out.alloc HK8.out.size _).cell (p := ⟨u5.heap.size, 0, none⟩) hlt).trans C0.out, ((HK8.out.alloc HK8.out.size _).cell (p := ⟨g, o + j, none⟩) hgl).trans C1.out⟩
            | exact ⟨((HK8.out.setCell (p := ⟨wr.heap.size, 0, none⟩) (Nat.le_refl _) _).cell (p := ⟨u5.heap.size, 0, none⟩) hlt).trans C0.out, ((HK8.out.setCell (p := ⟨wr.heap.size, 0, none⟩) (Nat.le_refl _) _).cell (p := ⟨g, o + j, none⟩) hgl).trans C1.out⟩)
          (first
            | (go_at_call 23; refine (AJ.out _ _ (HN.out.below ((Below.refl _ _).drew))).mono ?_; rintro e w8 ⟨⟨v8, rfl, z8⟩, hb8⟩; obtain ⟨ao8, c8, rfl, _⟩ := z8.sl.shape; have HK8 : Hid (Below wr.heap.size wr w8) := ((Below.refl wr.heap.size wr).drew).trans hb8; have HZ8 : Hid (NumF wr.heap.size w8 (.slice ao8 (ofN (U.drop j)).length c8) (ofN (U.drop j))) := z8; clear z8 hb8)
            | (go_at_call 23; refine (AJ.out _ _ (HN.out.below (((Below.refl _ _).drew).alloc (Nat.le_refl _) _))).mono ?_; rintro e w8 ⟨⟨v8, rfl, z8⟩, hb8⟩; obtain ⟨ao8, c8, rfl, _⟩ := z8.sl.shape; have HL8 : Hid (HasC w8 wr.heap.size 24 #[.slice none 0 0]) := (HasC.new wr.drew 24 #[.slice none 0 0]).below hb8 (by simp); have g2 : w8.cell? ⟨wr.heap.size, 0, none⟩ = some (.slice none 0 0) := HL8.out.cell 0; have g3 : w8.frozen? ⟨wr.heap.size, 0, none⟩ = false := HL8.out.frozen 0; have HK8 : Hid (Below wr.heap.size wr w8) := (((Below.refl wr.heap.size wr).drew).alloc (Nat.le_refl _) _).trans (hb8.mono (by simp)); have HZ8 : Hid (NumF (wr.heap.size + 1) w8 (.slice ao8 (ofN (U.drop j)).length c8) (ofN (U.drop j))) := z8.mono (by simp); clear z8 hb8))
        all_goals clear c0 c1
        all_goals first
          | (have F1 : Below wr.heap.size wr (w8.alloc (Obj.cells #[(.slice ao8 (ofN (U.drop j)).length c8)] 24)) := HK8.out.alloc HK8.out.size _
             have F2 : (w8.alloc (Obj.cells #[(.slice ao8 (ofN (U.drop j)).length c8)] 24)).cell? ⟨w8.heap.size, 0, none⟩ = some (.slice ao8 (ofN (U.drop j)).length c8) := World.cell?_alloc_at _ _ _ _ rfl
             have F3 : NumSl (w8.alloc (Obj.cells #[(.slice ao8 (ofN (U.drop j)).length c8)] 24)) (.slice ao8 (ofN (U.drop j)).length c8) (ofN (U.drop j)) := HZ8.out.sl.below ((Below.refl _ _).alloc (Nat.le_refl _) _)
             generalize w8.alloc (Obj.cells #[(.slice ao8 (ofN (U.drop j)).length c8)] 24) = WF at F1 F2 F3 ⊢
             have hB9 := HB.out.below F1 hlt
             have c9 := hB9.cell 0
             have z9 := hB9.frozen 0
             have hN9 := Lib.hid (F3.apart hB9 (.slice ao8 (ofN (U.drop j)).length c8))
             have hB8 := Lib.hid ((hbel.trans (F1.mono hbel.size)).setCell (p := ⟨u5.heap.size, 0, none⟩) (Nat.le_refl _) (.slice ao8 (ofN (U.drop j)).length c8))
             have hS9 := Lib.hid (HasC.eq (hB9.set 0 (.slice ao8 (ofN (U.drop j)).length c8)) (cs' := #[.slice ao8 (ofN (U.drop j)).length c8]) rfl)
             clear F1 F3 hB9
             go_wp2_with fail
             go_roundw
             case rel => exact ⟨j, by omega, by go_num, hB8.out, _, _, _, hS9.out, hN9.out⟩
             case measure => simp [intOf]; try omega)
          | (have F1 : Below wr.heap.size wr (w8.setCell ⟨wr.heap.size, 0, none⟩ (.slice ao8 (ofN (U.drop j)).length c8)) := HK8.out.setCell (p := ⟨wr.heap.size, 0, none⟩) (Nat.le_refl _) _
             have F2 : (w8.setCell ⟨wr.heap.size, 0, none⟩ (.slice ao8 (ofN (U.drop j)).length c8)).cell? ⟨wr.heap.size, 0, none⟩ = some (.slice ao8 (ofN (U.drop j)).length c8) := World.cell?_setCell_same' _ _ _ (by rw [HL8.out.cell 0]; rfl)
             have F3 : NumSl (w8.setCell ⟨wr.heap.size, 0, none⟩ (.slice ao8 (ofN (U.drop j)).length c8)) (.slice ao8 (ofN (U.drop j)).length c8) (ofN (U.drop j)) := HZ8.out.sl.apart HL8.out _
             generalize w8.setCell ⟨wr.heap.size, 0, none⟩ (.slice ao8 (ofN (U.drop j)).length c8) = WF at F1 F2 F3 ⊢
             have hB9 := HB.out.below F1 hlt
             have c9 := hB9.cell 0
             have z9 := hB9.frozen 0
             have hN9 := Lib.hid (F3.apart hB9 (.slice ao8 (ofN (U.drop j)).length c8))
             have hB8 := Lib.hid ((hbel.trans (F1.mono hbel.size)).setCell (p := ⟨u5.heap.size, 0, none⟩) (Nat.le_refl _) (.slice ao8 (ofN (U.drop j)).length c8))
             have hS9 := Lib.hid (HasC.eq (hB9.set 0 (.slice ao8 (ofN (U.drop j)).length c8)) (cs' := #[.slice ao8 (ofN (U.drop j)).length c8]) rfl)
             clear F1 F3 hB9
             go_wp2_with fail
             go_roundw
             case rel => exact ⟨j, by omega, by go_num, hB8.out, _, _, _, hS9.out, hN9.out⟩
             case measure => simp [intOf]; try omega)
end Go.Proofs.Ytncjbbgenngegaa
