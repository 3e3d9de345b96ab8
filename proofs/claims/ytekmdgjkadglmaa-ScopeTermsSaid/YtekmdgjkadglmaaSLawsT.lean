/- The statements' walks: ScopeTerms. -/
import Derived.Test.YtekmdgjkadglmaaSLaws
import Derived.Test.YtekmdgjkadglmaaSStrs
namespace Go.Proofs.Ytekmdgjkadglmaa
open Go.RowKit

theorem means_yes {t : ByteArray} {A : List Lab} (h : (scopeB t && rightB A) = true) : MeansV t A = .tuple #[.bool (meansB t A), .int .i64 0] := by unfold MeansV; rw [if_pos h]
theorem means_no {t : ByteArray} {A : List Lab} (h : (scopeB t && rightB A) = false) : MeansV t A = .tuple #[.bool false, .int .i64 50] := by unfold MeansV; rw [if_neg (by rw [h]; decide)]
theorem size_zero {t : ByteArray} (h : t.size = 0) : t = { data := #[] } := baL (by
  have : t.data.toList = [] := List.length_eq_zero_iff.1 (by rw [lenL]; exact h)
  rw [this])
theorem isEmpty_no {t : ByteArray} (h : t.size ≠ 0) : t.toList.isEmpty = false := by
  cases hq : t.toList with
  | nil => rw [ByteArray.toList_eq] at hq; exact absurd (by rw [← lenL, hq]; rfl) h
  | cons => rfl
theorem isEmpty_yes {t : ByteArray} (h : t.size = 0) : t.toList.isEmpty = true := by
  rw [size_zero h, ByteArray.toList_eq]
  rfl
set_option maxHeartbeats 8000000 in
set_option maxRecDepth 100000 in
theorem lawTerms_any (ts : List ByteArray) (K : List Lab) (vt va : Value) (w : World) (hT : TxtSl w vt ts) (_hnt : ts.length ≤ maxLen) (hzt : ∀ t ∈ ts, t.size ≤ maxLen)
    (hA : LblSl w va K) (hna : K.length ≤ maxLen) (za : ∀ x ∈ K, x.1.size ≤ maxLen ∧ x.2.size ≤ maxLen) :
    Calls Try.prog 4 #[vt, va] w fun e w' => e = .returned (.bool true) ∧ Below w.heap.size w w' := by
  have F1 := Lib.hid (fun W h => few4_any K va W h hna za)
  have sa := fewLb_small K
  have la := fewLb_len K
  obtain ⟨A, hAe⟩ : ∃ A, fewLb K = A := ⟨_, rfl⟩
  rw [hAe] at F1 sa la
  have M1 := Lib.hid (fun W t a hs h => sMeans_any t A a W hs h (by omega) sa)
  have R1 := Lib.hid (fun W a h => lRight_any A a W h (by omega) sa)
  have P1 := Lib.hid sRight_any
  obtain ⟨rb, hrb⟩ : ∃ rb, rightB A = rb := ⟨_, rfl⟩
  rw [hrb] at R1
  have HRB := Lib.hid hrb
  obtain ⟨ao, c, rfl, hc⟩ := hT.shape
  obtain ⟨n, hnn⟩ : ∃ n, n = ts.length := ⟨_, rfl⟩
  rw [← hnn] at _hnt ⊢
  have HC := Lib.hid hc
  have HN := Lib.hid hnn
  have HZ := Lib.hid hzt
  unfold maxLen at _hnt
  clear hc hnn hzt hrb hAe hna za sa hT
  go_enter Try.func4, Try.ntmps4
  go_wp2_with fail
  with_reducible refine (shown5_any _).mono ?_
  rintro e w1 ⟨rfl, hb1⟩
  go_wp2_with fail
  with_reducible refine (F1.out _ (hA.below hb1)).mono ?_
  rintro e w2 ⟨⟨v1, rfl, ho⟩, hb⟩
  have hv1 := lblSl_of_owns ho
  have hb2 := hb1.trans (hb.mono hb1.size)
  have HV := Lib.hid hv1
  have HB2 := Lib.hid hb2
  clear hb1 hb ho hv1 hA
  go_wp2_with fail
  go_loopw [6, 7, 8] (fun s b i wr => ∃ (k : Nat) (S : ByteArray), k ≤ n ∧ k ≤ 4 ∧ i = .int .i64 k ∧ s = .string S ∧ b = .bool (meansB S A) ∧ Hid (scopeB S = true) ∧ S.size ≤ 101 * k ∧ Below w2.heap.size w2 wr) (fun _ _ i _ => n - (intOf i).toNat)
  case atStart => exact ⟨0, { data := #[] }, Nat.zero_le _, by omega, rfl, rfl, rfl, scope_empty, Nat.zero_le _, Below.refl _ _⟩
  case round =>
    obtain ⟨k, S, hk, hk4, rfl, rfl, rfl, hsc, hsz, hbel⟩ := hrel
    by_cases hlt : k < n ∧ k < 4
    · obtain ⟨hlt, hlt4⟩ := hlt
      have hkl : k < ts.length := by have := HN.out; omega
      obtain ⟨g, o, rfl, hcc⟩ := HC.out k hkl
      have hz := HZ.out _ (List.getElem_mem hkl)
      obtain ⟨x, hx⟩ : ∃ x, ts[k] = x := ⟨_, rfl⟩
      rw [hx] at hcc hz
      unfold maxLen at hz
      have c0 := hcc wr (HB2.out.trans (hbel.mono HB2.out.size))
      have hvr := HV.out.below hbel
      clear hcc hx
      obtain ⟨m1, q1, l1, k1⟩ : ∃ m1 : Nat, (if (100 : Int) < (x.size : Int) then (100 : Int) else (x.size : Int)) = (m1 : Int) ∧ (m1 : Int) ≤ (x.size : Int) ∧ m1 ≤ 100 := ⟨min x.size 100, by split <;> omega, by omega, by omega⟩
      obtain ⟨t, ht⟩ : ∃ t, x.extract 0 m1 = t := ⟨_, rfl⟩
      have htz : t.size ≤ 100 := by rw [← ht]; simp; omega
      have hd : decide ((k : Int) < 4) = true := by simp; omega
      obtain ⟨bs, hbs⟩ : ∃ bs, meansB S A = bs := ⟨_, rfl⟩
      have HBS := Lib.hid hbs
      rw [hbs]
      have MT := Lib.hid (fun W a h => M1.out W t a (by omega) h)
      by_cases h0 : S.size = 0
      · have bS : S.toList.isEmpty = true := isEmpty_yes h0
        have hm : t.size ≠ 0 → meansB t A = (bs && meansB t A) := fun _ => by rw [← hbs, size_zero h0, means_empty, Bool.true_and]
        have HM := Lib.hid hm
        have HNZ : Hid (t.size ≤ 101 * (k + 1)) := show t.size ≤ 101 * (k + 1) by omega
        have PN := Lib.hid (fun W => P1.out t (by omega) W)
        clear hm hbs h0
        go_wp2_with fail
        go_quiet (fail)
        have hbel1 : Below w2.heap.size w2 (wr.drewN nq) := bel_drewN hbel _
        have hvr1 := HV.out.below hbel1
        clear hbel hvr c0
        cases hq : (scopeB t && rightB A) with
        | false =>
          rw [means_no hq] at MT
          clear hq
          go_wp2_with fail
          with_reducible refine (MT.out _ _ hvr1).mono ?_
          rintro e w3 ⟨rfl, hb⟩
          have hbel3 := hbel1.trans (hb.mono hbel1.size)
          clear hb hbel1 hvr1
          by_cases ht0 : t.size = 0
          · have bt : t.toList.isEmpty = true := isEmpty_yes ht0
            go_wp2_with fail
            go_roundw
            case rel => exact ⟨k + 1, S, by omega, by omega, by go_num, rfl, by rw [HBS.out], hsc, by omega, hbel3⟩
            case measure => simp [intOf]; omega
          · have bt : t.toList.isEmpty = false := isEmpty_no ht0
            go_wp2_with fail
            go_roundw
            case rel => exact ⟨k + 1, S, by omega, by omega, by go_num, rfl, by rw [HBS.out], hsc, by omega, hbel3⟩
            case measure => simp [intOf]; omega
        | true =>
          rw [means_yes hq] at MT
          clear hq
          go_wp2_with fail
          with_reducible refine (MT.out _ _ hvr1).mono ?_
          rintro e w3 ⟨rfl, hb⟩
          have hbel3 := hbel1.trans (hb.mono hbel1.size)
          clear hb hbel1 hvr1
          by_cases ht0 : t.size = 0
          · have bt : t.toList.isEmpty = true := isEmpty_yes ht0
            go_wp2_with fail
            go_roundw
            case rel => exact ⟨k + 1, S, by omega, by omega, by go_num, rfl, by rw [HBS.out], hsc, by omega, hbel3⟩
            case measure => simp [intOf]; omega
          · have bt : t.toList.isEmpty = false := isEmpty_no ht0
            have HM2 := Lib.hid (HM.out ht0)
            cases hn : scopeB t with
            | false =>
              rw [hn] at PN
              clear hn
              go_wp2_with fail
              with_reducible refine (PN.out _).mono ?_
              rintro e w4 ⟨rfl, hb⟩
              have hbel4 := hbel3.trans (hb.mono hbel3.size)
              clear hb hbel3
              go_wp2_with fail
              go_roundw
              case rel => exact ⟨k + 1, S, by omega, by omega, by go_num, rfl, by rw [HBS.out], hsc, by omega, hbel4⟩
              case measure => simp [intOf]; omega
            | true =>
              have HSN : Hid (scopeB t = true) := hn
              rw [hn] at PN
              clear hn
              go_wp2_with fail
              with_reducible refine (PN.out _).mono ?_
              rintro e w4 ⟨rfl, hb⟩
              have hbel4 := hbel3.trans (hb.mono hbel3.size)
              clear hb hbel3
              cases bs with
              | false =>
                go_wp2_with fail
                go_roundw
                case rel => exact ⟨k + 1, t, by omega, by omega, by go_num, rfl, (congrArg Value.bool HM2.out).symm, HSN, HNZ.out, hbel4⟩
                case measure => simp [intOf]; omega
              | true =>
                go_wp2_with fail
                go_roundw
                case rel => exact ⟨k + 1, t, by omega, by omega, by go_num, rfl, (congrArg Value.bool HM2.out).symm, HSN, HNZ.out, hbel4⟩
                case measure => simp [intOf]; omega
      · have bS : S.toList.isEmpty = false := isEmpty_no h0
        have hm : t.size ≠ 0 → meansB (S ++ semi ++ t) A = (bs && meansB t A) := fun ht0 => by rw [← hbs]; exact means_join h0 ht0 A
        obtain ⟨NX, hNX⟩ : ∃ NX, S ++ semi ++ t = NX := ⟨_, rfl⟩
        have hnz : NX.size ≤ 101 * (k + 1) := by rw [← hNX, ByteArray.size_append, ByteArray.size_append]; have : semi.size = 1 := rfl; omega
        rw [hNX] at hm
        unfold semi at hNX
        have HM := Lib.hid hm
        have HNZ := Lib.hid hnz
        have PN := Lib.hid (fun W => P1.out NX (by omega) W)
        clear hm hbs h0 hnz
        go_wp2_with fail
        go_quiet (fail)
        have hbel1 : Below w2.heap.size w2 (wr.drewN nq) := bel_drewN hbel _
        have hvr1 := HV.out.below hbel1
        clear hbel hvr c0
        cases hq : (scopeB t && rightB A) with
        | false =>
          rw [means_no hq] at MT
          clear hq
          go_wp2_with fail
          with_reducible refine (MT.out _ _ hvr1).mono ?_
          rintro e w3 ⟨rfl, hb⟩
          have hbel3 := hbel1.trans (hb.mono hbel1.size)
          clear hb hbel1 hvr1
          by_cases ht0 : t.size = 0
          · have bt : t.toList.isEmpty = true := isEmpty_yes ht0
            go_wp2_with fail
            go_roundw
            case rel => exact ⟨k + 1, S, by omega, by omega, by go_num, rfl, by rw [HBS.out], hsc, by omega, hbel3⟩
            case measure => simp [intOf]; omega
          · have bt : t.toList.isEmpty = false := isEmpty_no ht0
            go_wp2_with fail
            go_roundw
            case rel => exact ⟨k + 1, S, by omega, by omega, by go_num, rfl, by rw [HBS.out], hsc, by omega, hbel3⟩
            case measure => simp [intOf]; omega
        | true =>
          rw [means_yes hq] at MT
          clear hq
          go_wp2_with fail
          with_reducible refine (MT.out _ _ hvr1).mono ?_
          rintro e w3 ⟨rfl, hb⟩
          have hbel3 := hbel1.trans (hb.mono hbel1.size)
          clear hb hbel1 hvr1
          by_cases ht0 : t.size = 0
          · have bt : t.toList.isEmpty = true := isEmpty_yes ht0
            go_wp2_with fail
            go_roundw
            case rel => exact ⟨k + 1, S, by omega, by omega, by go_num, rfl, by rw [HBS.out], hsc, by omega, hbel3⟩
            case measure => simp [intOf]; omega
          · have bt : t.toList.isEmpty = false := isEmpty_no ht0
            have HM2 := Lib.hid (HM.out ht0)
            cases hn : scopeB NX with
            | false =>
              rw [hn] at PN
              clear hn
              go_wp2_with fail
              with_reducible refine (PN.out _).mono ?_
              rintro e w4 ⟨rfl, hb⟩
              have hbel4 := hbel3.trans (hb.mono hbel3.size)
              clear hb hbel3
              go_wp2_with fail
              go_roundw
              case rel => exact ⟨k + 1, S, by omega, by omega, by go_num, rfl, by rw [HBS.out], hsc, by omega, hbel4⟩
              case measure => simp [intOf]; omega
            | true =>
              have HSN : Hid (scopeB NX = true) := hn
              rw [hn] at PN
              clear hn
              go_wp2_with fail
              with_reducible refine (PN.out _).mono ?_
              rintro e w4 ⟨rfl, hb⟩
              have hbel4 := hbel3.trans (hb.mono hbel3.size)
              clear hb hbel3
              cases bs with
              | false =>
                go_wp2_with fail
                go_roundw
                case rel => exact ⟨k + 1, NX, by omega, by omega, by go_num, rfl, (congrArg Value.bool HM2.out).symm, HSN, HNZ.out, hbel4⟩
                case measure => simp [intOf]; omega
              | true =>
                go_wp2_with fail
                go_roundw
                case rel => exact ⟨k + 1, NX, by omega, by omega, by go_num, rfl, (congrArg Value.bool HM2.out).symm, HSN, HNZ.out, hbel4⟩
                case measure => simp [intOf]; omega
    · have hd : (decide ((k : Int) < n) && decide ((k : Int) < 4)) = false := by
        rw [Bool.and_eq_false_iff, decide_eq_false_iff_not, decide_eq_false_iff_not]
        by_cases h : k < n
        · exact .inr (fun h4 => hlt ⟨h, by omega⟩)
        · exact .inl (by omega)
      have hvr := HV.out.below hbel
      have hb5 := HB2.out.trans (hbel.mono HB2.out.size)
      obtain ⟨bs, hbs⟩ : ∃ bs, meansB S A = bs := ⟨_, rfl⟩
      have MT := Lib.hid (fun W a h => M1.out W S a (by omega) h)
      cases rb with
      | false =>
        have hq : (scopeB S && rightB A) = false := by rw [HRB.out, Bool.and_false]
        rw [means_no hq] at MT
        rw [hbs]
        clear hq hbs hsc
        have hcond : k < n → ¬ k < 4 := fun h h4 => hlt ⟨h, h4⟩
        go_wp2_with fail
        all_goals
          with_reducible refine (MT.out _ _ hvr).mono ?_
          rintro e w3 ⟨rfl, hb⟩
          have hvr3 := hvr.below hb
          have hb6 := hb5.trans (hb.mono hb5.size)
          clear hb hvr
          go_wp2_with fail
          with_reducible refine (R1.out _ _ hvr3).mono ?_
          rintro e w4 ⟨rfl, hb⟩
          have hb7 := hb6.trans (hb.mono hb6.size)
          clear hb hvr3
          go_wp2_with fail
          go_ret
          exact ⟨rfl, hb7⟩
      | true =>
        have hq : (scopeB S && rightB A) = true := by rw [HRB.out, hsc.out]; rfl
        rw [means_yes hq, hbs] at MT
        rw [hbs]
        clear hq hbs hsc
        go_wp2_with fail
        all_goals
          with_reducible refine (MT.out _ _ hvr).mono ?_
          rintro e w3 ⟨rfl, hb⟩
          have hvr3 := hvr.below hb
          have hb6 := hb5.trans (hb.mono hb5.size)
          clear hb hvr
          go_wp2_with fail
          with_reducible refine (R1.out _ _ hvr3).mono ?_
          rintro e w4 ⟨rfl, hb⟩
          have hb7 := hb6.trans (hb.mono hb6.size)
          clear hb hvr3
          go_wp2_with fail
          go_ret
          exact ⟨by simp, hb7⟩
end Go.Proofs.Ytekmdgjkadglmaa
