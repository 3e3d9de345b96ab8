
/- The statements' walks: LabelTurns. -/
import Derived.Test.YtbcgjgefkkibbaaLLawsB
namespace Go.Proofs.Ytbcgjgefkkibbaa
open Go.RowKit

set_option maxRecDepth 100000 in
theorem cut_one {B : Nat} {v : Value} {L : List Lab} {w : World} (h : w.ownsRow B 41 2 v L.length (cellsL L)) (k : Nat) (hk : k < L.length) :
    ∃ src, (∀ W : World, (Instr.slice 23 v (some (.int .i64 (k : Int))) (some (.int .i64 ((k : Int) + 1))) none).run Try.prog W = .ok src W) ∧ LblSl w src [L[k]] := by
  have hz : ∀ W : World, (sizeOf (Try.prog.elem 23)).run Try.prog W = .ok 2 W := fun W => rfl
  have hs := lblSl_of_owns h
  rcases h.2 with ⟨hv, h0⟩ | ⟨g, cap, cur, hv, _, hg, hc1, hc2, _, htk⟩
  · omega
  · subst hv
    refine ⟨.slice (some ⟨g, k * 2, none⟩) 1 (cap - k), fun W => ?_, .inr ⟨g, k * 2, cap - k, rfl, (Array.getElem?_eq_some_iff.1 hg).1, fun j hj => ?_⟩⟩
    · rw [run_slice_lh (P := Try.prog) W 23 _ _ _ Try.underlying23 .i64 .i64 _ _ (by omega) (by omega) (by omega), hz]
      simp only [Result.andThen_ok, sliced, Int.toNat_natCast]
      rw [if_neg (by omega), Option.map_some, add_block, show ((k : Int) + 1).toNat - k = 1 by omega]
    · obtain rfl : j = 0 := by simpa using hj
      rcases hs with ⟨a, c, he, _⟩ | ⟨g', o', c', he, _, hcc⟩
      · simp only [Value.slice.injEq] at he
        omega
      · have hcc2 := hcc k hk
        simp only [Value.slice.injEq, Option.some.injEq, Addr.mk.injEq] at he
        obtain ⟨⟨rfl, rfl, _⟩, _, _⟩ := he
        simp only [Nat.zero_add, Nat.zero_mul, Nat.add_zero] at hcc2 ⊢
        exact hcc2
theorem small_one {x : Lab} (h : x.1.size ≤ 3000 ∧ x.2.size ≤ 3000) : smallLb [x] := fun z hz => by
  have hzx : z = x := by simpa using hz
  rw [hzx]
  exact h
theorem turn_more (L : List Lab) (k : Nat) (hk : k < L.length) (h0 : 0 < k) : joinL (L.take (k + 1)).reverse = labL L[k] ++ 44 :: joinL (L.take k).reverse := by
  rw [List.take_succ_eq_append_getElem hk, List.reverse_append]
  show joinL (L[k] :: (L.take k).reverse) = _
  exact join_cons _ _ (fun e => by have h := congrArg List.length e; rw [List.length_reverse, List.length_take, List.length_nil] at h; omega)
theorem join_ne (L : List Lab) (h : L ≠ []) : joinL L ≠ [] := fun e => by
  have := join_len_ge L
  rw [e] at this
  exact h (List.length_eq_zero_iff.1 (by simpa using this))

set_option maxHeartbeats 8000000 in
set_option maxRecDepth 100000 in
theorem lawTurns_any (K : List Lab) (va : Value) (w : World) (hA : LblSl w va K) (hna : K.length ≤ maxLen)
    (za : ∀ x ∈ K, x.1.size ≤ maxLen ∧ x.2.size ≤ maxLen) :
    Calls Try.prog 6 #[va] w fun e w' => e = .returned (.bool true) ∧ Below w.heap.size w w' := by
  have F1 := Lib.hid (fun W h => few4_any K va W h hna za)
  have sa := fewLb_small K
  have la := fewLb_len K
  have ta := fewLb_tiny K
  obtain ⟨A, hAe⟩ : ∃ A, fewLb K = A := ⟨_, rfl⟩
  rw [hAe] at F1 sa la ta
  have R1 := Lib.hid (fun W a h => lRight_any A a W h (by omega) sa)
  clear hAe hna za
  cases hr : rightB A with
  | false =>
    rw [hr] at R1
    clear hr
    go_enter Try.func6, Try.ntmps6
    go_wp2_with fail
    with_reducible refine (shown4_any _).mono ?_
    rintro e w1 ⟨rfl, hb1⟩
    go_wp2_with fail
    with_reducible refine (F1.out _ (hA.below hb1)).mono ?_
    rintro e w2 ⟨⟨v1, rfl, ho⟩, hb⟩
    have hv1 := lblSl_of_owns ho
    have hb2 := hb1.trans (hb.mono hb1.size)
    clear hb1 hb ho
    go_wp2_with fail
    with_reducible refine (R1.out _ _ hv1).mono ?_
    rintro e w3 ⟨rfl, hb⟩
    have hb3 := hb2.trans (hb.mono hb2.size)
    clear hb2 hb
    go_wp2_with fail
    go_ret
    exact ⟨rfl, hb3⟩
  | true =>
    rw [hr] at R1
    have h6 := (right_len hr).2
    have hpar : ∀ s : ByteArray, s.data.toList = joinL A.reverse → s.size ≤ 2000 ∧ ∀ w' e, ParseP s w' e → ∃ v, e = .returned (.tuple #[v, .int .i64 0]) ∧ LblSl w' v A := fun s hs => by
      refine ⟨?_, fun w' e hp => parseP_get hp (by rw [hs]; exact parse_turned hr)⟩
      have := join_tiny A.reverse (fun e => right_ne hr (by simpa using e)) (fun x hx => ta x (by simpa using hx))
      rw [← hs, lenL, List.length_reverse] at this
      omega
    have HP := Lib.hid hpar
    have hone : ∀ x ∈ A, rightB [x] = true := fun x hx => right_single hr x hx
    have T1 := Lib.hid (fun x (hx : x ∈ A) W a h => lText_any [x] a W h (by simp) (small_one (sa x hx)))
    have HONE := Lib.hid hone
    have TA := Lib.hid ta
    have S1 := Lib.hid (fun W a c h1 h2 => refSame_any4 A A a c W h1 h2 (by omega) (by omega))
    rw [show decide (A = A) = true by simp] at S1
    clear hr hpar hone sa ta
    go_enter Try.func6, Try.ntmps6
    go_wp2_with fail
    with_reducible refine (shown4_any _).mono ?_
    rintro e w1 ⟨rfl, hb1⟩
    go_wp2_with fail
    with_reducible refine (F1.out _ (hA.below hb1)).mono ?_
    rintro e w2 ⟨⟨v1, rfl, ho⟩, hb⟩
    have hcut : ∀ k (hk : k < A.length), _ := fun k hk => cut_one ho k hk
    have hv2 := lblSl_of_owns ho
    have hb2 := hb1.trans (hb.mono hb1.size)
    clear hb1 hb ho
    go_wp2_with fail
    with_reducible refine (R1.out _ _ hv2).mono ?_
    rintro e w3 ⟨rfl, hb3⟩
    obtain ⟨ao, c, rfl, _⟩ := hv2.shape
    obtain ⟨n, hnn⟩ : ∃ n, n = A.length := ⟨_, rfl⟩
    have hcut2 : ∀ k, k < n → ∃ src, (∀ W : World, (Instr.slice 23 (.slice ao n c) (some (.int .i64 (k : Int))) (some (.int .i64 ((k : Int) + 1))) none).run Try.prog W = .ok src W) ∧ ∀ hk : k < A.length, LblSl w2 src [A[k]] := fun k hk => by
      obtain ⟨src, h1, h2⟩ := hcut k (by omega)
      exact ⟨src, fun W => by rw [hnn]; exact h1 W, fun _ => h2⟩
    rw [← hnn] at la hv2 h6 ⊢
    have HN := Lib.hid hnn
    have HV := Lib.hid hv2
    have HCUT := Lib.hid hcut2
    clear hnn hv2 hcut hcut2
    go_wp2_with fail
    go_loopw [4, 5] (fun sv i wr => ∃ (k : Nat) (S : ByteArray), k ≤ n ∧ i = .int .i64 k ∧ sv = .string S ∧ Hid (S.data.toList = joinL (A.take k).reverse) ∧ Below w2.heap.size w2 wr) (fun _ i _ => n - (intOf i).toNat)
    case atStart => exact ⟨0, { data := #[] }, Nat.zero_le _, rfl, rfl, by simp [Hid, joinL], hb3⟩
    case round =>
      obtain ⟨k, S, hk, rfl, rfl, HS, hbel⟩ := hrel
      by_cases hlt : k < n
      · have hkl : k < A.length := by have := HN.out; omega
        have hSz : S.size ≤ 2620 := by
          by_cases h0 : (A.take k).reverse = []
          · have h1 := HS.out
            rw [h0] at h1
            rw [← lenL, h1]
            simp [joinL]
          · have h1 := join_tiny _ h0 (fun x hx => TA.out x (List.mem_of_mem_take (by simpa using hx)))
            rw [← HS.out, lenL, List.length_reverse, List.length_take] at h1
            omega
        obtain ⟨src, hsl, hsv⟩ := HCUT.out k hlt
        have hsv := hsv hkl
        have hmem := List.getElem_mem hkl
        have hr1 := HONE.out _ hmem
        have hx3 := TA.out _ hmem
        have TT := T1.out _ hmem
        have hsing : textB [A[k]] = textB [A[k]] := rfl
        obtain ⟨x, hx⟩ : ∃ x, A[k] = x := ⟨_, rfl⟩
        rw [hx] at hsv hr1 TT hx3
        have hlb : (textB [x]).data.toList = labL x := textB_list [x]
        have hlz : (textB [x]).size ≤ 261 := by
          have h4 := esc_len x.2.data.toList
          rw [← lenL, hlb]
          unfold labL
          rw [List.length_append, List.length_cons, lenL]
          rw [lenL] at h4
          omega
        have hst0 : k = 0 → joinL (A.take (k + 1)).reverse = labL x := fun h => by
          subst h
          rw [List.take_succ_eq_append_getElem hkl, hx]
          rfl
        have hst1 : 0 < k → joinL (A.take (k + 1)).reverse = labL x ++ 44 :: joinL (A.take k).reverse := fun h => by rw [turn_more A k hkl h, hx]
        have hSn : 0 < k → ¬ S.data.toList = [] := fun h => by
          rw [HS.out]
          exact join_ne _ (fun e => by have h := congrArg List.length e; rw [List.length_reverse, List.length_take, List.length_nil] at h; omega)
        obtain ⟨T, hT⟩ : ∃ T, textB [x] = T := ⟨_, rfl⟩
        have TT2 := Lib.hid (fun W a h => TT W a h)
        rw [text_right hr1, hT] at TT2
        rw [hT] at hlb hlz
        have hsr := hsv.below hbel
        by_cases h0 : k = 0
        · have hS0 : S = { data := #[] } := ba_nil (by rw [HS.out, h0]; rfl)
          have hnew : Hid ((T ++ S).data.toList = joinL (A.take (k + 1)).reverse) := by
            show (T ++ S).data.toList = _
            rw [hst0 h0, appL, hlb, hS0]
            simp
          clear hst0 hst1 hSn TT hT hx hx3 hr1 hlb hsing hmem h0
          subst hS0
          go_wp2_with fail
          with_reducible refine (TT2.out _ _ hsr).mono ?_
          rintro e w4 ⟨rfl, hb⟩
          have hbel4 := hbel.trans (hb.mono hbel.size)
          go_wp2_with fail
          go_roundw
          case rel => exact ⟨k + 1, _, by omega, by go_num, rfl, hnew, hbel4⟩
          case measure => simp [intOf]; omega
        · have hSt := hSn (by omega)
          have hSe : ¬ S.toList = [] := by rw [ByteArray.toList_eq]; exact hSt
          have hSb : S.toList.isEmpty = false := by
            cases h : S.toList with
            | nil => exact absurd h hSe
            | cons => rfl
          have hnew : Hid ((T ++ ((⟨#[44]⟩ : ByteArray) ++ S)).data.toList = joinL (A.take (k + 1)).reverse) := by
            show (T ++ ((⟨#[44]⟩ : ByteArray) ++ S)).data.toList = _
            rw [hst1 (by omega), appL, appL, hlb, HS.out]
            rfl
          have e44 : (⟨#[44]⟩ : ByteArray).size = 1 := rfl
          clear hst0 hst1 hSn TT hT hx hx3 hr1 hlb hsing hmem hSt
          go_wp2_with fail
          with_reducible refine (TT2.out _ _ hsr).mono ?_
          rintro e w4 ⟨rfl, hb⟩
          have hbel4 := hbel.trans (hb.mono hbel.size)
          go_wp2_with fail
          go_roundw
          case rel => exact ⟨k + 1, _, by omega, by go_num, rfl, hnew, hbel4⟩
          case measure => simp [intOf]; omega
      · have hkk : A.take k = A := List.take_of_length_le (by have := HN.out; omega)
        have hSA : S.data.toList = joinL A.reverse := by rw [HS.out, hkk]
        obtain ⟨hz, hq⟩ := HP.out S hSA
        have HQ := Lib.hid hq
        have hvr := (HV.out).below hbel
        have hb5 := hb2.trans (hbel.mono hb2.size)
        clear hkk hSA hq hbel
        go_wp2_with fail
        with_reducible refine (lParse_any S hz _).mono ?_
        rintro e w4 ⟨hp, hb⟩
        obtain ⟨v4, rfl, hv4⟩ := HQ.out _ _ hp
        have hvr := hvr.below hb
        have hb6 := hb5.trans (hb.mono hb5.size)
        clear hb hb5 hp
        go_wp2_with fail
        with_reducible refine (S1.out _ _ _ hv4 hvr).mono ?_
        rintro e w7 ⟨rfl, hb⟩
        have hb7 := hb6.trans (hb.mono hb6.size)
        clear hb hb6
        go_wp2_with fail
        go_ret
        exact ⟨rfl, hb7⟩
end Go.Proofs.Ytbcgjgefkkibbaa
