/- The statements' walks: ExactHas. -/
import Derived.Test.YtncjbbgenngegaaELawsF
namespace Go.Proofs.Ytncjbbgenngegaa
open Go.RowKit

theorem merge_two {X Y : List Nat} (hX : rightN X = true) (hY : rightN Y = true) : (mergeP X Y = (ofN (X ++ Y), 0) ∧ (ofN (X ++ Y)).length ≤ 64) ∨ mergeP X Y = ([], 60) := by
  unfold mergeP ofP
  rw [hX, hY]
  by_cases h : (ofN (X ++ Y)).length ≤ 64
  · exact .inl ⟨by rw [if_pos h]; rfl, h⟩
  · exact .inr (by rw [if_neg h]; rfl)
theorem has_of {U : List Nat} {x : Nat} (h : (ofN U).length ≤ 64) : hasB (ofN U) x = decide (x ∈ U) := by
  unfold hasB
  rw [of_right h, Bool.and_true, decide_eq_decide]
  exact mem_of U x
theorem count_of {U : List Nat} (h : (ofN U).length ≤ 64) : countN (ofN U) = (ofN U).length := by
  unfold countN
  rw [if_pos (of_right h)]
theorem take_mem (x : Nat) {l : List Nat} {k : Nat} (hk : k < l.length) : decide (x ∈ l.take (k + 1)) = (decide (x ∈ l.take k) || decide (l[k] = x)) := by
  rw [← Bool.decide_or, decide_eq_decide, List.take_succ_eq_append_getElem hk, List.mem_append, List.mem_singleton]
  exact ⟨fun h => h.imp id Eq.symm, fun h => h.imp id Eq.symm⟩
/-- What a merged sketch has, and how many. -/
theorem has_merged {U V : List Nat} {x : Nat} (hZ : (ofN (ofN U ++ ofN V)).length ≤ 64) :
    hasB (ofN (ofN U ++ ofN V)) x = (decide (x ∈ U) || decide (x ∈ V)) ∧ (ofN (ofN U ++ ofN V)).length ≤ (ofN U).length + (ofN V).length ∧ (ofN U).length ≤ (ofN (ofN U ++ ofN V)).length ∧ (ofN V).length ≤ (ofN (ofN U ++ ofN V)).length := by
  refine ⟨?_, ?_, ?_, ?_⟩
  · rw [has_of hZ, ← Bool.decide_or, decide_eq_decide, List.mem_append, mem_of, mem_of]
  · have := of_len (ofN U ++ ofN V)
    rwa [List.length_append] at this
  · have := of_mono (A := U) (B := ofN U ++ ofN V) fun y hy => List.mem_append.2 (.inl ((mem_of U y).2 hy))
    exact this
  · have := of_mono (A := V) (B := ofN U ++ ofN V) fun y hy => List.mem_append.2 (.inr ((mem_of V y).2 hy))
    exact this
set_option maxHeartbeats 16000000 in
set_option maxRecDepth 100000 in
theorem lawHas_any (l1 l2 : List Nat) (x : Nat) (v1 v2 : Value) (w : World) (h1 : NumSl w v1 l1) (h2 : NumSl w v2 l2) (hn1 : l1.length ≤ maxLen) (hn2 : l2.length ≤ maxLen) :
    Calls Try.prog 6 #[v1, v2, nV x] w fun e w' => e = .returned (.bool true) ∧ Below w.heap.size w w' := by
  have HV1 := Lib.hid h1
  have HV2 := Lib.hid h2
  have F1 := Lib.hid (fun W h => few6_any l1 v1 W h hn1)
  have F2 := Lib.hid (fun W h => few6_any l2 v2 W h hn2)
  have lU : (l1.take 100).length ≤ 100 := by rw [List.length_take]; omega
  have lV : (l2.take 100).length ≤ 100 := by rw [List.length_take]; omega
  obtain ⟨V, hV⟩ : ∃ V, l2.take 100 = V := ⟨_, rfl⟩
  obtain ⟨U, hU⟩ : ∃ U, l1.take 100 = U := ⟨_, rfl⟩
  rw [hU] at F1 lU
  rw [hV] at F2 lV
  have HU := Lib.hid hU
  have O1 := Lib.hid (fun W v h => xOf_any U v W h (by omega))
  have O2 := Lib.hid (fun W v h => xOf_any V v W h (by omega))
  obtain ⟨a1, c1, rfl, hcells⟩ := h1.shape
  obtain ⟨a2, c2, rfl, _⟩ := h2.shape
  obtain ⟨n1, hnn1⟩ : ∃ n, n = l1.length := ⟨_, rfl⟩
  obtain ⟨n2, hnn2⟩ : ∃ n, n = l2.length := ⟨_, rfl⟩
  have HC := Lib.hid hcells
  have HN1 := Lib.hid hnn1
  rw [← hnn1] at F1 HV1 hn1 ⊢
  rw [← hnn2] at F2 HV2 ⊢
  unfold maxLen at hn1
  clear h1 h2 hn2 hnn1 hnn2 hU hV hcells
  by_cases hbad : (ofP U).2 = 0 ∧ (ofP V).2 = 0
  · obtain ⟨hb1, hb2⟩ := hbad
    obtain ⟨g1, e1⟩ := ofP_good hb1
    obtain ⟨g2, e2⟩ := ofP_good hb2
    rw [e1] at O1
    rw [e2] at O2
    have M1 := Lib.hid (fun W va vb hA hB => xMerge_any (ofN U) (ofN V) va vb W hA hB (by omega) (by omega))
    have hm := merge_two (of_right g1) (of_right g2)
    have hx := has_of (x := x) g1
    have hy := has_of (x := x) g2
    have cx := count_of g1
    have cy := count_of g2
    have H1 := Lib.hid (fun W v h => xHas_any (ofN U) x v W h (by omega))
    have H2 := Lib.hid (fun W v h => xHas_any (ofN V) x v W h (by omega))
    have T1 := Lib.hid (fun W v h => xCount_any (ofN U) v W h (by omega))
    have T2 := Lib.hid (fun W v h => xCount_any (ofN V) v W h (by omega))
    rw [hx] at H1
    rw [hy] at H2
    rw [cx] at T1
    rw [cy] at T2
    have hz := fun h => has_merged (U := U) (V := V) (x := x) h
    obtain ⟨X, hX⟩ : ∃ X, ofN U = X := ⟨_, rfl⟩
    obtain ⟨Y, hY⟩ : ∃ Y, ofN V = Y := ⟨_, rfl⟩
    obtain ⟨J, hJ⟩ : ∃ J, decide (x ∈ V) = J := ⟨_, rfl⟩
    obtain ⟨I, hI⟩ : ∃ I, decide (x ∈ U) = I := ⟨_, rfl⟩
    rw [hX, hY, hJ, hI] at hz
    rw [hX, hY] at M1 hm
    rw [hX] at O1 T1 H1 g1
    rw [hY] at O2 T2 H2 g2
    rw [hI] at H1
    rw [hJ] at H2
    have HI := Lib.hid hI
    have HZ := Lib.hid hz
    obtain ⟨⟨Z, g⟩, hP⟩ : ∃ P, mergeP X Y = P := ⟨_, rfl⟩
    rw [hP] at M1 hm
    have HM := Lib.hid hm
    have HXE := Lib.hid hX
    have HYE := Lib.hid hY
    clear hb1 hb2 e1 e2 hm hx hy cx cy hz hX hY hJ hI hP
    go_enter Try.func6, Try.ntmps6
    go_wp2_with fail
    with_reducible refine (shown6_any _).mono ?_
    rintro e w1 ⟨rfl, hk⟩
    go_wp2_with fail
    with_reducible refine (F1.out _ (HV1.out.below hk)).mono ?_
    rintro e w2 ⟨s2, rfl, hs2, rfl⟩
    go_wp2_with fail
    with_reducible refine (O1.out _ _ hs2).mono ?_
    rintro e x1 ⟨⟨y1, rfl, z1⟩, hb⟩
    have hk := hk.trans (hb.mono hk.size)
    obtain ⟨ao1, cc1, rfl, _⟩ := z1.sl.shape
    have zs1 : NumSl x1 (.slice ao1 X.length cc1) X := z1.sl
    obtain ⟨u1, hu1, hbu1, at1⟩ := at_new x1 (.slice ao1 X.length cc1) X zs1
    have hk := hk.trans (hbu1.mono hk.size)
    clear zs1 z1 hb hbu1
    go_wp2_with fail
    with_reducible refine (F2.out _ (HV2.out.below hk)).mono ?_
    rintro e w3 ⟨s3, rfl, hs3, rfl⟩
    go_wp2_with fail
    with_reducible refine (O2.out _ _ hs3).mono ?_
    rintro e x2 ⟨⟨y2, rfl, z2⟩, hb⟩
    have hk := hk.trans (hb.mono hk.size)
    have at1 := at1.on hb
    obtain ⟨ao2, cc2, rfl, _⟩ := z2.sl.shape
    have zs2 : NumSl x2 (.slice ao2 Y.length cc2) Y := z2.sl
    obtain ⟨u2, hu2, hbu2, at2⟩ := at_new x2 (.slice ao2 Y.length cc2) Y zs2
    have hk := hk.trans (hbu2.mono hk.size)
    have at1 := at1.on hbu2
    clear zs2 z2 hb hbu2
    have HK := Lib.hid hk
    have A1 := Lib.hid at1
    have A2 := Lib.hid at2
    clear hk at1 at2 hs2 hs3
    go_wp2_with fail
    go_loopw [12, 13] (fun b i wr => ∃ k : Nat, k ≤ n1 ∧ k ≤ 100 ∧ i = .int .i64 k ∧ (∃ t, b = .bool t ∧ Hid (decide (x ∈ l1.take k) = t)) ∧ wr = u2) (fun _ i _ => n1 - (intOf i).toNat)
    case atStart => exact ⟨0, Nat.zero_le _, by decide, rfl, ⟨false, rfl, by rw [List.take_zero]; exact decide_eq_false (by simp)⟩, by first | rfl | exact hu2⟩
    case round =>
      obtain ⟨k, hk1, hk2, rfl, ⟨t, rfl, ht⟩, rfl⟩ := hrel
      by_cases hgo : k < n1 ∧ k < 100
      · obtain ⟨hlt, hlt2⟩ := hgo
        have hkl : k < l1.length := by have := HN1.out; omega
        have htk := take_mem x hkl
        obtain ⟨g, o, rfl, hc0⟩ := HC.out k hkl
        have c0 := hc0 _ HK.out
        obtain ⟨y, hy⟩ : ∃ y, l1[k] = y := ⟨_, rfl⟩
        rw [hy] at htk c0
        have HT := Lib.hid htk
        clear htk hy hc0
        cases t with
        | true =>
          have ht2 : Hid (decide (x ∈ l1.take (k + 1)) = true) := by show _ = _; rw [HT.out, ht.out]; rfl
          go_wp2_with fail
          go_roundw
          case rel => exact ⟨k + 1, by omega, by omega, by go_num, ⟨true, rfl, ht2⟩, by trivial⟩
          case measure => simp [intOf]; omega
        | false =>
          by_cases hyx : y = x
          · have ht2 : Hid (decide (x ∈ l1.take (k + 1)) = true) := by show _ = _; rw [HT.out, ht.out, decide_eq_true hyx]; rfl
            subst hyx
            go_wp2_with fail
            go_roundw
            case rel => exact ⟨k + 1, by omega, by omega, by go_num, ⟨true, rfl, ht2⟩, by trivial⟩
            case measure => simp [intOf]; omega
          · have ht2 : Hid (decide (x ∈ l1.take (k + 1)) = false) := by show _ = _; rw [HT.out, ht.out, decide_eq_false hyx]; rfl
            have hyx' : ((y : Int) == (x : Int)) = false := by simp; omega
            go_wp2_with fail
            go_roundw
            case rel => exact ⟨k + 1, by omega, by omega, by go_num, ⟨false, rfl, ht2⟩, by trivial⟩
            case measure => simp [intOf]; omega
      · have htI : t = I := by
          rw [← ht.out, ← HI.out, ← HU.out]
          rcases Nat.lt_or_ge k 100 with h | h
          · have : k = l1.length := by have := HN1.out; omega
            rw [this, List.take_of_length_le (Nat.le_refl _), List.take_of_length_le (by have := HN1.out; omega)]
          · rw [show k = 100 by omega]
        subst htI
        have hk := HK.out
        have at1 := A1.out
        have at2 := A2.out
        have k1 := at1.cell
        have k2 := at2.cell
        clear ht
        by_cases hlt : k < n1
        · have hk100 : k = 100 := by omega
          subst hk100
          go_wp2_with fail
          with_reducible refine (M1.out _ _ _ at1.sl at2.sl).mono ?_
          rintro e x3 ⟨⟨y3, rfl, z3⟩, hb⟩
          have hk := hk.trans (hb.mono hk.size)
          have at1 := at1.on hb
          have at2 := at2.on hb
          obtain ⟨ao3, cc3, rfl, _⟩ := z3.sl.shape
          have zs3 : NumSl x3 (.slice ao3 Z.length cc3) Z := z3.sl
          obtain ⟨u3, hu3, hbu3, at3⟩ := at_new x3 (.slice ao3 Z.length cc3) Z zs3
          have hk := hk.trans (hbu3.mono hk.size)
          have at1 := at1.on hbu3
          have at2 := at2.on hbu3
          clear zs3 z3 hb hbu3
          clear k1 k2
          have k1 := at1.cell
          have k2 := at2.cell
          have k3 := at3.cell
          go_wp2_with fail
          with_reducible refine (H1.out _ _ at1.sl).mono ?_
          rintro e w8 ⟨rfl, hb⟩
          have hk := hk.trans (hb.mono hk.size)
          have at1 := at1.on hb
          have at2 := at2.on hb
          have at3 := at3.on hb
          clear k1 k2 k3 hb
          obtain ⟨D, hD0, hDon, hDk⟩ : ∃ D : World → Prop, D w8 ∧ (∀ W W', D W → Below W.heap.size W W' → D W') ∧ ∀ W, D W → At W x1.heap.size (.slice ao1 X.length cc1) X ∧ At W x2.heap.size (.slice ao2 Y.length cc2) Y ∧ At W x3.heap.size (.slice ao3 Z.length cc3) Z ∧ Below w.heap.size w W :=
            ⟨fun W => At W x1.heap.size (.slice ao1 X.length cc1) X ∧ At W x2.heap.size (.slice ao2 Y.length cc2) Y ∧ At W x3.heap.size (.slice ao3 Z.length cc3) Z ∧ Below w.heap.size w W, ⟨at1, at2, at3, hk⟩, fun W W' h hb => ⟨h.1.on hb, h.2.1.on hb, h.2.2.1.on hb, h.2.2.2.trans (hb.mono h.2.2.2.size)⟩, fun _ h => h⟩
          have E1 : ∀ i : InC D, i.w.cell? ⟨x1.heap.size, 0, none⟩ = some (.slice ao1 X.length cc1) := fun i => (hDk _ i.h).1.cell
          have E2 : ∀ i : InC D, i.w.cell? ⟨x2.heap.size, 0, none⟩ = some (.slice ao2 Y.length cc2) := fun i => (hDk _ i.h).2.1.cell
          have E3 : ∀ i : InC D, i.w.cell? ⟨x3.heap.size, 0, none⟩ = some (.slice ao3 Z.length cc3) := fun i => (hDk _ i.h).2.2.1.cell
          have SX := Lib.hid (fun i : InC D => (hDk _ i.h).1.sl)
          have SY := Lib.hid (fun i : InC D => (hDk _ i.h).2.1.sl)
          have SZ := Lib.hid (fun i : InC D => (hDk _ i.h).2.2.1.sl)
          have HDK := Lib.hid (fun i : InC D => (hDk _ i.h).2.2.2)
          have HDON := Lib.hid hDon
          have HD0 := Lib.hid (hDon _ _ hD0 ((Below.refl _ _).drew))
          clear hD0 hDon hDk at1 at2 at3 hk
          rcases HM.out with ⟨hP, hz64⟩ | hP
          · simp only [Prod.mk.injEq] at hP
            obtain ⟨hZe, rfl⟩ := hP
            obtain ⟨z1, z2, z3, z4⟩ := HZ.out hz64
            have z5 := count_of hz64
            rw [← hZe] at hz64 z1 z2 z3 z4 z5
            have H3 := Lib.hid (fun W v h => xHas_any Z x v W h (by omega))
            have T3 := Lib.hid (fun W v h => xCount_any Z v W h (by omega))
            rw [z1] at H3
            rw [z5] at T3
            have q0 : ((Z.length : Int) ≤ (X.length : Int) + (Y.length : Int)) := by omega
            have q1 : IntKind.u64.wrap ((X.length : Int) + (Y.length : Int)) = (X.length : Int) + (Y.length : Int) := by rw [wrap_u64]; omega
            clear hZe hz64 z1 z2 z5
            cases t <;> cases J
            all_goals
              dsimp only [Bool.or] at H3
              go_wp2_with fail
              refine region_class D (by kernel_rfl) (by kernel_rfl) HD0.out ?_
              intro hne
              repeat (go_big_quiet_step (first
                | (go_at_call 18; with_reducible refine (H3.out _ _ (SZ.out _)).mono ?_; rintro e w' ⟨rfl, hb⟩; exact ⟨rfl, ⟨_, HDON.out _ _ (InC.h _) hb⟩, rfl⟩)
                | (go_at_call 18; with_reducible refine (H2.out _ _ (SY.out _)).mono ?_; rintro e w' ⟨rfl, hb⟩; exact ⟨rfl, ⟨_, HDON.out _ _ (InC.h _) hb⟩, rfl⟩)
                | (go_at_call 20; with_reducible refine (T3.out _ _ (SZ.out _)).mono ?_; rintro e w' ⟨rfl, hb⟩; exact ⟨rfl, ⟨_, HDON.out _ _ (InC.h _) hb⟩, rfl⟩)
                | (go_at_call 20; with_reducible refine (T1.out _ _ (SX.out _)).mono ?_; rintro e w' ⟨rfl, hb⟩; exact ⟨rfl, ⟨_, HDON.out _ _ (InC.h _) hb⟩, rfl⟩)
                | (go_at_call 20; with_reducible refine (T2.out _ _ (SY.out _)).mono ?_; rintro e w' ⟨rfl, hb⟩; exact ⟨rfl, ⟨_, HDON.out _ _ (InC.h _) hb⟩, rfl⟩)))
              refine wpQuiet_nil ?_
              intro i
              go_wp2_with fail
              all_goals go_ret
              all_goals exact ⟨by simp; try omega, HDK.out i⟩
          · simp only [Prod.mk.injEq] at hP
            obtain ⟨rfl, rfl⟩ := hP
            go_wp2_with fail
            refine region_class D (by kernel_rfl) (by kernel_rfl) HD0.out ?_
            intro hne
            repeat (go_big_quiet_step (fail))
            refine wpQuiet_nil ?_
            intro i
            go_wp2_with fail
            go_ret
            exact ⟨rfl, HDK.out i⟩
        · have hkn1 : k = n1 := by omega
          subst hkn1
          go_wp2_with fail
          with_reducible refine (M1.out _ _ _ at1.sl at2.sl).mono ?_
          rintro e x3 ⟨⟨y3, rfl, z3⟩, hb⟩
          have hk := hk.trans (hb.mono hk.size)
          have at1 := at1.on hb
          have at2 := at2.on hb
          obtain ⟨ao3, cc3, rfl, _⟩ := z3.sl.shape
          have zs3 : NumSl x3 (.slice ao3 Z.length cc3) Z := z3.sl
          obtain ⟨u3, hu3, hbu3, at3⟩ := at_new x3 (.slice ao3 Z.length cc3) Z zs3
          have hk := hk.trans (hbu3.mono hk.size)
          have at1 := at1.on hbu3
          have at2 := at2.on hbu3
          clear zs3 z3 hb hbu3
          clear k1 k2
          have k1 := at1.cell
          have k2 := at2.cell
          have k3 := at3.cell
          go_wp2_with fail
          with_reducible refine (H1.out _ _ at1.sl).mono ?_
          rintro e w8 ⟨rfl, hb⟩
          have hk := hk.trans (hb.mono hk.size)
          have at1 := at1.on hb
          have at2 := at2.on hb
          have at3 := at3.on hb
          clear k1 k2 k3 hb
          obtain ⟨D, hD0, hDon, hDk⟩ : ∃ D : World → Prop, D w8 ∧ (∀ W W', D W → Below W.heap.size W W' → D W') ∧ ∀ W, D W → At W x1.heap.size (.slice ao1 X.length cc1) X ∧ At W x2.heap.size (.slice ao2 Y.length cc2) Y ∧ At W x3.heap.size (.slice ao3 Z.length cc3) Z ∧ Below w.heap.size w W :=
            ⟨fun W => At W x1.heap.size (.slice ao1 X.length cc1) X ∧ At W x2.heap.size (.slice ao2 Y.length cc2) Y ∧ At W x3.heap.size (.slice ao3 Z.length cc3) Z ∧ Below w.heap.size w W, ⟨at1, at2, at3, hk⟩, fun W W' h hb => ⟨h.1.on hb, h.2.1.on hb, h.2.2.1.on hb, h.2.2.2.trans (hb.mono h.2.2.2.size)⟩, fun _ h => h⟩
          have E1 : ∀ i : InC D, i.w.cell? ⟨x1.heap.size, 0, none⟩ = some (.slice ao1 X.length cc1) := fun i => (hDk _ i.h).1.cell
          have E2 : ∀ i : InC D, i.w.cell? ⟨x2.heap.size, 0, none⟩ = some (.slice ao2 Y.length cc2) := fun i => (hDk _ i.h).2.1.cell
          have E3 : ∀ i : InC D, i.w.cell? ⟨x3.heap.size, 0, none⟩ = some (.slice ao3 Z.length cc3) := fun i => (hDk _ i.h).2.2.1.cell
          have SX := Lib.hid (fun i : InC D => (hDk _ i.h).1.sl)
          have SY := Lib.hid (fun i : InC D => (hDk _ i.h).2.1.sl)
          have SZ := Lib.hid (fun i : InC D => (hDk _ i.h).2.2.1.sl)
          have HDK := Lib.hid (fun i : InC D => (hDk _ i.h).2.2.2)
          have HDON := Lib.hid hDon
          have HD0 := Lib.hid (hDon _ _ hD0 ((Below.refl _ _).drew))
          clear hD0 hDon hDk at1 at2 at3 hk
          rcases HM.out with ⟨hP, hz64⟩ | hP
          · simp only [Prod.mk.injEq] at hP
            obtain ⟨hZe, rfl⟩ := hP
            obtain ⟨z1, z2, z3, z4⟩ := HZ.out hz64
            have z5 := count_of hz64
            rw [← hZe] at hz64 z1 z2 z3 z4 z5
            have H3 := Lib.hid (fun W v h => xHas_any Z x v W h (by omega))
            have T3 := Lib.hid (fun W v h => xCount_any Z v W h (by omega))
            rw [z1] at H3
            rw [z5] at T3
            have q0 : ((Z.length : Int) ≤ (X.length : Int) + (Y.length : Int)) := by omega
            have q1 : IntKind.u64.wrap ((X.length : Int) + (Y.length : Int)) = (X.length : Int) + (Y.length : Int) := by rw [wrap_u64]; omega
            clear hZe hz64 z1 z2 z5
            cases t <;> cases J
            all_goals
              dsimp only [Bool.or] at H3
              go_wp2_with fail
              refine region_class D (by kernel_rfl) (by kernel_rfl) HD0.out ?_
              intro hne
              repeat (go_big_quiet_step (first
                | (go_at_call 18; with_reducible refine (H3.out _ _ (SZ.out _)).mono ?_; rintro e w' ⟨rfl, hb⟩; exact ⟨rfl, ⟨_, HDON.out _ _ (InC.h _) hb⟩, rfl⟩)
                | (go_at_call 18; with_reducible refine (H2.out _ _ (SY.out _)).mono ?_; rintro e w' ⟨rfl, hb⟩; exact ⟨rfl, ⟨_, HDON.out _ _ (InC.h _) hb⟩, rfl⟩)
                | (go_at_call 20; with_reducible refine (T3.out _ _ (SZ.out _)).mono ?_; rintro e w' ⟨rfl, hb⟩; exact ⟨rfl, ⟨_, HDON.out _ _ (InC.h _) hb⟩, rfl⟩)
                | (go_at_call 20; with_reducible refine (T1.out _ _ (SX.out _)).mono ?_; rintro e w' ⟨rfl, hb⟩; exact ⟨rfl, ⟨_, HDON.out _ _ (InC.h _) hb⟩, rfl⟩)
                | (go_at_call 20; with_reducible refine (T2.out _ _ (SY.out _)).mono ?_; rintro e w' ⟨rfl, hb⟩; exact ⟨rfl, ⟨_, HDON.out _ _ (InC.h _) hb⟩, rfl⟩)))
              refine wpQuiet_nil ?_
              intro i
              go_wp2_with fail
              all_goals go_ret
              all_goals exact ⟨by simp; try omega, HDK.out i⟩
          · simp only [Prod.mk.injEq] at hP
            obtain ⟨rfl, rfl⟩ := hP
            go_wp2_with fail
            refine region_class D (by kernel_rfl) (by kernel_rfl) HD0.out ?_
            intro hne
            repeat (go_big_quiet_step (fail))
            refine wpQuiet_nil ?_
            intro i
            go_wp2_with fail
            go_ret
            exact ⟨rfl, HDK.out i⟩
  · obtain ⟨⟨X, e1⟩, hP1⟩ : ∃ P, ofP U = P := ⟨_, rfl⟩
    obtain ⟨⟨Y, e2⟩, hP2⟩ : ∃ P, ofP V = P := ⟨_, rfl⟩
    rw [hP1] at O1 hbad
    rw [hP2] at O2 hbad
    dsimp only at hbad
    clear hP1 hP2
    go_enter Try.func6, Try.ntmps6
    go_wp2_with fail
    with_reducible refine (shown6_any _).mono ?_
    rintro e w1 ⟨rfl, hk⟩
    go_wp2_with fail
    with_reducible refine (F1.out _ (HV1.out.below hk)).mono ?_
    rintro e w2 ⟨s2, rfl, hs2, rfl⟩
    go_wp2_with fail
    with_reducible refine (O1.out _ _ hs2).mono ?_
    rintro e x1 ⟨⟨y1, rfl, z1⟩, hb⟩
    have hk := hk.trans (hb.mono hk.size)
    obtain ⟨ao1, cc1, rfl, _⟩ := z1.sl.shape
    have zs1 : NumSl x1 (.slice ao1 X.length cc1) X := z1.sl
    obtain ⟨u1, hu1, hbu1, at1⟩ := at_new x1 (.slice ao1 X.length cc1) X zs1
    have hk := hk.trans (hbu1.mono hk.size)
    clear zs1 z1 hb hbu1
    go_wp2_with fail
    with_reducible refine (F2.out _ (HV2.out.below hk)).mono ?_
    rintro e w3 ⟨s3, rfl, hs3, rfl⟩
    go_wp2_with fail
    with_reducible refine (O2.out _ _ hs3).mono ?_
    rintro e x2 ⟨⟨y2, rfl, z2⟩, hb⟩
    have hk := hk.trans (hb.mono hk.size)
    have at1 := at1.on hb
    obtain ⟨ao2, cc2, rfl, _⟩ := z2.sl.shape
    have zs2 : NumSl x2 (.slice ao2 Y.length cc2) Y := z2.sl
    obtain ⟨u2, hu2, hbu2, at2⟩ := at_new x2 (.slice ao2 Y.length cc2) Y zs2
    have hk := hk.trans (hbu2.mono hk.size)
    have at1 := at1.on hbu2
    clear zs2 z2 hb hbu2
    by_cases h1 : e1 = 0
    · have h2 : ¬ e2 = 0 := fun h => hbad ⟨h1, h⟩
      have h2' : ((e2 : Int) == 0) = false := by simpa using h2
      subst h1
      clear hbad
      go_wp2_with fail
      go_ret
      exact ⟨rfl, hk⟩
    · have h1' : ((e1 : Int) == 0) = false := by simpa using h1
      clear hbad
      go_wp2_with fail
      go_ret
      exact ⟨rfl, hk⟩
end Go.Proofs.Ytncjbbgenngegaa
