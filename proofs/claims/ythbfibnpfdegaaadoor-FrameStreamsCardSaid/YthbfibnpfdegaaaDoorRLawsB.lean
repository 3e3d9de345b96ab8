/- Layer 3's statements: FrameMore, FrameBack. -/
import Derived.Test.YthbfibnpfdegaaaDoorRLaws
namespace Go.Proofs.YthbfibnpfdegaaaDoor
open Go.RowKit

theorem make_no {A : ByteArray} (h : A.size < 1 ∨ 2000 < A.size) : MakeOut A = .tuple #[.string { data := #[] }, .int .i64 30] := by unfold MakeOut; rw [if_pos h]
theorem make_ok {A : ByteArray} (h1 : 1 ≤ A.size) (h2 : A.size ≤ 2000) : MakeOut A = .tuple #[.string (frameB A), .int .i64 0] := by unfold MakeOut; rw [if_neg (by omega)]
theorem read_more_out {A : ByteArray} (h1 : 1 ≤ A.size) (h2 : A.size ≤ 2000) (j : Nat) (hj : j < (frameB A).size) :
    ReadOut ((frameB A).extract 0 j) = .tuple #[.string { data := #[] }, .string ((frameB A).extract 0 j), .int .i64 20] := by
  have := frame_short A h1 h2 j hj
  unfold ReadOut
  rw [this]
theorem read_back_out {A M : ByteArray} (h1 : 1 ≤ A.size) (h2 : A.size ≤ 2000) : ReadOut (frameB A ++ M) = .tuple #[.string A, .string M, .int .i64 0] := by
  obtain ⟨a, k, hr, e1, e2⟩ := frame_read A M h1 h2
  unfold ReadOut
  rw [hr]
  dsimp only
  rw [e1, e2]
theorem frame_le {A : ByteArray} (h2 : A.size ≤ 2000) : (frameB A).size ≤ 2007 ∧ 7 + A.size ≥ (frameB A).size ∧ 6 + A.size ≤ (frameB A).size := by
  have := frame_bytes A h2
  split at this <;> omega

set_option maxHeartbeats 1000000 in
set_option maxRecDepth 100000 in
theorem more_walk {am af : Addr} {N : Nat} (s : ByteArray) (x : Int) (hs : s.size ≤ maxLen) (w : World) (hS : SentR am af N w) :
    Calls Tryd.prog 8 #[.string s, .int .i64 x] w fun e w' => e = .returned (.bool true) ∧ Below w.heap.size w w' := by
  obtain ⟨A, hA, -, hca⟩ := cutR_as s hs
  have HCA := Lib.hid hca
  clear hca hs
  by_cases hbad : A.size < 1 ∨ 2000 < A.size
  · have HMK : Hid (∀ W, SentR am af N W → Calls Tryd.prog 11 #[.string A] W fun e w' => e = .returned (.tuple #[.string { data := #[] }, .int .i64 30]) ∧ Below W.heap.size W w') := fun W h => by rw [← make_no hbad]; exact make_any A (by unfold maxLen; omega) W h
    clear hbad
    go_enter Tryd.func8, Tryd.ntmps8
    go_wp2_with fail
    refine (shown_any _ hS).mono ?_
    rintro e w1 ⟨rfl, hbw⟩
    go_wp2_with fail
    with_reducible refine (HCA.out _).mono ?_
    rintro e w' ⟨rfl, rfl⟩
    go_wp2_with fail
    with_reducible refine (HMK.out _ (hS.on hbw)).mono ?_
    rintro e w' ⟨rfl, hb⟩
    replace hbw := hbw.trans (hb.mono hbw.size)
    clear hb
    go_wp2_with fail
    go_ret
    exact ⟨rfl, hbw⟩
  · have h1 : 1 ≤ A.size := by omega
    have h2 : A.size ≤ 2000 := by omega
    have HMK : Hid (∀ W, SentR am af N W → Calls Tryd.prog 11 #[.string A] W fun e w' => e = .returned (.tuple #[.string (frameB A), .int .i64 0]) ∧ Below W.heap.size W w') := fun W h => by rw [← make_ok h1 h2]; exact make_any A (by unfold maxLen; omega) W h
    have hfl := (frame_le h2).1
    have hrd : ∀ j, j < (frameB A).size → ∀ W, SentR am af N W → Calls Tryd.prog 14 #[.string ((frameB A).extract 0 j)] W fun e w' => e = .returned (.tuple #[.string { data := #[] }, .string ((frameB A).extract 0 j), .int .i64 20]) ∧ Below W.heap.size W w' := fun j hj W h => by
      have hm : ((frameB A).extract 0 j).size ≤ maxLen := by unfold maxLen; simp; omega
      have := read_any ((frameB A).extract 0 j) hm W h
      rwa [read_more_out h1 h2 j hj] at this
    obtain ⟨P, hP⟩ : ∃ P, frameB A = P := ⟨_, rfl⟩
    rw [hP] at HMK hfl hrd
    have HRD := Lib.hid hrd
    clear hbad hrd hP h1 h2
    by_cases hx : x < 0
    · go_enter Tryd.func8, Tryd.ntmps8
      go_wp2_with fail
      refine (shown_any _ hS).mono ?_
      rintro e w1 ⟨rfl, hbw⟩
      go_wp2_with fail
      with_reducible refine (HCA.out _).mono ?_
      rintro e w' ⟨rfl, rfl⟩
      go_wp2_with fail
      with_reducible refine (HMK.out _ (hS.on hbw)).mono ?_
      rintro e w' ⟨rfl, hb⟩
      replace hbw := hbw.trans (hb.mono hbw.size)
      clear hb
      go_wp2_with fail
      go_ret
      exact ⟨rfl, hbw⟩
    · obtain ⟨j, rfl⟩ : ∃ j : Nat, x = j := ⟨x.toNat, by omega⟩
      by_cases hj : P.size ≤ j
      · go_enter Tryd.func8, Tryd.ntmps8
        go_wp2_with fail
        refine (shown_any _ hS).mono ?_
        rintro e w1 ⟨rfl, hbw⟩
        go_wp2_with fail
        with_reducible refine (HCA.out _).mono ?_
        rintro e w' ⟨rfl, rfl⟩
        go_wp2_with fail
        with_reducible refine (HMK.out _ (hS.on hbw)).mono ?_
        rintro e w' ⟨rfl, hb⟩
        replace hbw := hbw.trans (hb.mono hbw.size)
        clear hb
        go_wp2_with fail
        go_ret
        exact ⟨rfl, hbw⟩
      · have hj2 : j < P.size := by omega
        clear hj
        go_enter Tryd.func8, Tryd.ntmps8
        go_wp2_with fail
        refine (shown_any _ hS).mono ?_
        rintro e w1 ⟨rfl, hbw⟩
        go_wp2_with fail
        with_reducible refine (HCA.out _).mono ?_
        rintro e w' ⟨rfl, rfl⟩
        go_wp2_with fail
        with_reducible refine (HMK.out _ (hS.on hbw)).mono ?_
        rintro e w' ⟨rfl, hb⟩
        replace hbw := hbw.trans (hb.mono hbw.size)
        clear hb
        go_wp2_with fail
        with_reducible refine (HRD.out j hj2 _ (hS.on hbw)).mono ?_
        rintro e w' ⟨rfl, hb⟩
        replace hbw := hbw.trans (hb.mono hbw.size)
        clear hb
        go_wp2_with fail
        go_ret
        exact ⟨rfl, hbw⟩

theorem cut_none {s A : ByteArray} (h : A = cutR s) (h1 : A.size < 1) : s.toList = [] := by
  subst h
  unfold cutR at h1
  have hz : (s.extract 0 (min s.size 2010)).size = min (min s.size 2010) s.size := by simp
  have h0 : s.size = 0 := by omega
  have hl : s.data.toList = [] := List.length_eq_zero_iff.1 (by simpa using h0)
  rw [ByteArray.toList_eq, hl]
theorem cut_some {s A : ByteArray} (h : A = cutR s) (h1 : 2000 < A.size) : ¬ s.toList = [] := by
  intro e
  subst h
  unfold cutR at h1
  have hl : s.data.toList = [] := by rwa [ByteArray.toList_eq] at e
  have h0 : s.size = 0 := by
    have := congrArg List.length hl
    simpa using this
  simp at h1
  omega
set_option maxHeartbeats 1000000 in
set_option maxRecDepth 100000 in
theorem back_walk {am af : Addr} {N : Nat} (s t : ByteArray) (hs : s.size ≤ maxLen) (ht : t.size ≤ maxLen) (w : World) (hS : SentR am af N w) :
    Calls Tryd.prog 5 #[.string s, .string t] w fun e w' => e = .returned (.bool true) ∧ Below w.heap.size w w' := by
  obtain ⟨A, hA, hAc, hca⟩ := cutR_as s hs
  obtain ⟨M, hM, -, hcm⟩ := cutR_as t ht
  have HCA := Lib.hid hca
  have HCM := Lib.hid hcm
  clear hca hcm hs ht
  by_cases hbad : A.size < 1 ∨ 2000 < A.size
  · have HMK : Hid (∀ W, SentR am af N W → Calls Tryd.prog 11 #[.string A] W fun e w' => e = .returned (.tuple #[.string { data := #[] }, .int .i64 30]) ∧ Below W.heap.size W w') := fun W h => by rw [← make_no hbad]; exact make_any A (by unfold maxLen; omega) W h
    obtain ⟨p, q, e, hR⟩ := readOut_tuple ({ data := #[] } ++ M)
    have hz : (({ data := #[] } : ByteArray) ++ M).size ≤ maxLen := by
      rw [ByteArray.size_append]
      have h0 : ({ data := #[] } : ByteArray).size = 0 := rfl
      unfold maxLen
      omega
    have HRD : Hid (∀ W, SentR am af N W → Calls Tryd.prog 14 #[.string ({ data := #[] } ++ M)] W fun e' w' => e' = .returned (.tuple #[.string p, .string q, .int .i64 e]) ∧ Below W.heap.size W w') := fun W h => by rw [← hR]; exact read_any _ hz W h
    clear hR hz
    have h0 : ({ data := #[] } : ByteArray).size = 0 := rfl
    rcases hbad with h1 | h1
    · have hs0 := cut_none hAc h1
      have hs1 : s.toList.isEmpty = true := by rw [hs0]; rfl
      clear hAc
      go_enter Tryd.func5, Tryd.ntmps5
      go_wp2_with fail
      refine (shown_any _ hS).mono ?_
      rintro e w1 ⟨rfl, hbw⟩
      go_wp2_with fail
      with_reducible refine (HCA.out _).mono ?_
      rintro e w' ⟨rfl, rfl⟩
      go_wp2_with fail
      with_reducible refine (HMK.out _ (hS.on hbw)).mono ?_
      rintro e w' ⟨rfl, hb⟩
      replace hbw := hbw.trans (hb.mono hbw.size)
      clear hb
      go_wp2_with fail
      with_reducible refine (HCM.out _).mono ?_
      rintro e w' ⟨rfl, rfl⟩
      go_wp2_with fail
      with_reducible refine (HRD.out _ (hS.on hbw)).mono ?_
      rintro e w' ⟨rfl, hb⟩
      replace hbw := hbw.trans (hb.mono hbw.size)
      clear hb
      go_wp2_with fail
      go_ret
      exact ⟨rfl, hbw⟩
    · have hs0 := cut_some hAc h1
      have hs1 : s.toList.isEmpty = false := by simpa using hs0
      clear hAc
      go_enter Tryd.func5, Tryd.ntmps5
      go_wp2_with fail
      refine (shown_any _ hS).mono ?_
      rintro e w1 ⟨rfl, hbw⟩
      go_wp2_with fail
      with_reducible refine (HCA.out _).mono ?_
      rintro e w' ⟨rfl, rfl⟩
      go_wp2_with fail
      with_reducible refine (HMK.out _ (hS.on hbw)).mono ?_
      rintro e w' ⟨rfl, hb⟩
      replace hbw := hbw.trans (hb.mono hbw.size)
      clear hb
      go_wp2_with fail
      with_reducible refine (HCM.out _).mono ?_
      rintro e w' ⟨rfl, rfl⟩
      go_wp2_with fail
      with_reducible refine (HRD.out _ (hS.on hbw)).mono ?_
      rintro e w' ⟨rfl, hb⟩
      replace hbw := hbw.trans (hb.mono hbw.size)
      clear hb
      go_wp2_with fail
      with_reducible refine (HCA.out _).mono ?_
      rintro e w' ⟨rfl, rfl⟩
      go_wp2_with fail
      go_ret
      exact ⟨by show Ending.returned (.bool (decide (2000 < (A.size : Int)))) = _; rw [decide_eq_true (by omega)], hbw⟩
  · have h1 : 1 ≤ A.size := by omega
    have h2 : A.size ≤ 2000 := by omega
    have HMK : Hid (∀ W, SentR am af N W → Calls Tryd.prog 11 #[.string A] W fun e w' => e = .returned (.tuple #[.string (frameB A), .int .i64 0]) ∧ Below W.heap.size W w') := fun W h => by rw [← make_ok h1 h2]; exact make_any A (by unfold maxLen; omega) W h
    have hfl := (frame_le h2).1
    have hm : (frameB A ++ M).size ≤ maxLen := by rw [ByteArray.size_append]; unfold maxLen; omega
    have HRD : Hid (∀ W, SentR am af N W → Calls Tryd.prog 14 #[.string (frameB A ++ M)] W fun e w' => e = .returned (.tuple #[.string A, .string M, .int .i64 0]) ∧ Below W.heap.size W w') := fun W h => by
      have := read_any (frameB A ++ M) hm W h
      rwa [read_back_out h1 h2] at this
    obtain ⟨P, hP⟩ : ∃ P, frameB A = P := ⟨_, rfl⟩
    rw [hP] at HMK hfl HRD
    clear hbad hP h1 h2 hm hAc
    go_enter Tryd.func5, Tryd.ntmps5
    go_wp2_with fail
    refine (shown_any _ hS).mono ?_
    rintro e w1 ⟨rfl, hbw⟩
    go_wp2_with fail
    with_reducible refine (HCA.out _).mono ?_
    rintro e w' ⟨rfl, rfl⟩
    go_wp2_with fail
    with_reducible refine (HMK.out _ (hS.on hbw)).mono ?_
    rintro e w' ⟨rfl, hb⟩
    replace hbw := hbw.trans (hb.mono hbw.size)
    clear hb
    go_wp2_with fail
    with_reducible refine (HCM.out _).mono ?_
    rintro e w' ⟨rfl, rfl⟩
    go_wp2_with fail
    with_reducible refine (HRD.out _ (hS.on hbw)).mono ?_
    rintro e w' ⟨rfl, hb⟩
    replace hbw := hbw.trans (hb.mono hbw.size)
    clear hb
    go_wp2_with fail
    with_reducible refine (HCA.out _).mono ?_
    rintro e w' ⟨rfl, rfl⟩
    go_wp2_with fail
    with_reducible refine (HCM.out _).mono ?_
    rintro e w' ⟨rfl, rfl⟩
    go_wp2_with fail
    go_ret
    exact ⟨rfl, hbw⟩
end Go.Proofs.YthbfibnpfdegaaaDoor
