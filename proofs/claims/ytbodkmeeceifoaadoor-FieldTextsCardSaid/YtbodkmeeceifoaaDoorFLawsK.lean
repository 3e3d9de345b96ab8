/- FieldBack: what it comes to. -/
import Derived.Test.YtbodkmeeceifoaaDoorFLawsN
namespace Go.Proofs.YtbodkmeeceifoaaDoor
open Go.RowKit Go.Lib

theorem get_val {am af : Addr} {N : Nat} (s : ByteArray) (v : Value) (hv : GetOut s = v) (hs : s.size ≤ maxLen) (w : World) (hS : Sent am af N w) :
    Calls Tryd.prog 11 #[.string s] w fun e w' => e = .returned v ∧ Below w.heap.size w w' := by
  rw [← hv]
  exact get_any s hs w hS
theorem getText_val {am af : Addr} {N : Nat} (s : ByteArray) (v : Value) (hv : TextOut s = v) (hs : s.size ≤ maxLen) (w : World) (hS : Sent am af N w) :
    Calls Tryd.prog 23 #[.string s] w fun e w' => e = .returned v ∧ Below w.heap.size w w' := by
  rw [← hv]
  exact getText_any s hs w hS
theorem putText_val (t : ByteArray) (v : Value) (hv : putsV [] [t] = v) (w : World) : Calls Tryd.prog 19 #[.string t] w fun e w' => e = .returned v ∧ Below w.heap.size w w' := by
  rw [← hv]
  exact putText_any t w
theorem ext_behind (b a : ByteArray) (k : Nat) (hk : k = b.size) : (b ++ a).extract k (b ++ a).size = a := by
  apply ba_list
  have hl : b.data.toList.length = b.size := by simp
  rw [ext_list, List.take_of_length_le (by simp), app_list, hk, ← hl, List.drop_left]
theorem get_back (n : Nat) (hn : n < 18446744073709551616) (a : ByteArray) : GetOut (putB n ++ a) = .tuple #[.int .u64 (n : Int), .string a, .int .i64 0] := by
  have hg : getL (putB n ++ a).data.toList = .ok n (putL n).length := by rw [app_list]; exact get_put n hn _
  unfold GetOut
  rw [hg]
  dsimp only
  rw [ext_behind _ _ _ (putB_size n).symm]
theorem put_of_get (a : ByteArray) (v k : Nat) (h : getL a.data.toList = .ok v k) : putB v ++ a.extract k a.size = a ∧ v ≤ 18446744073709551615 := by
  obtain ⟨h1, h2, h3, h4, h5⟩ := put_get h
  refine ⟨?_, by omega⟩
  apply ba_list
  rw [app_list, ext_list, List.take_of_length_le (by simp)]
  exact h5

/-- A text's bytes. -/
def textB (t : ByteArray) : ByteArray := putB t.size ++ t
theorem putsV_one (t : ByteArray) (h : t.size ≤ 400) : putsV [] [t] = .tuple #[.string (textB t), .int .i64 0] := by
  have hf : fits [t] = true := by simp [fits, h]
  unfold putsV
  rw [if_pos hf]
  have e : (⟨([] ++ textsL [t]).toArray⟩ : ByteArray) = textB t := by
    apply ba_list
    unfold textB
    rw [app_list, putB_list]
    simp [textsL]
  rw [e]
theorem text_put (t a : ByteArray) (h : t.size ≤ 400) : textL (textB t ++ a).data.toList = .ok (putL t.size).length ((putL t.size).length + t.size) := by
  have hg : getL (textB t ++ a).data.toList = .ok t.size (putL t.size).length := by
    unfold textB
    rw [app_list, app_list, List.append_assoc]
    exact get_put _ (by omega) _
  have hc : cntL 400 (textB t ++ a).data.toList = .ok t.size (putL t.size).length := by
    unfold cntL
    rw [hg]
    dsimp only
    rw [if_neg (by omega)]
  unfold textL
  rw [hc]
  dsimp only
  rw [if_neg]
  unfold textB
  rw [app_list, app_list, putB_list]
  simp
theorem ext_mid (b t a : ByteArray) (k : Nat) (hk : k = b.size) : (b ++ t ++ a).extract k (k + t.size) = t := by
  apply ba_list
  have hl : b.data.toList.length = b.size := by simp
  have hl2 : t.data.toList.length = t.size := by simp
  rw [ext_list, app_list, app_list, hk, ← hl, ← hl2, ← List.length_append, List.take_left, List.drop_left]
theorem text_back (t a : ByteArray) (h : t.size ≤ 400) : TextOut (textB t ++ a) = .tuple #[.string t, .string a, .int .i64 0] := by
  have e1 := ext_mid (putB t.size) t a _ (putB_size t.size).symm
  have e2 := ext_behind (textB t) a ((putL t.size).length + t.size) (by unfold textB; rw [ByteArray.size_append, putB_size])
  unfold TextOut
  rw [text_put t a h]
  dsimp only
  rw [e2]
  unfold textB
  rw [e1]

theorem bool_true {p : Prop} [Decidable p] (h : p) : Ending.returned (.bool (decide p)) = Ending.returned (.bool true) := by rw [decide_eq_true h]
set_option maxHeartbeats 2000000 in
set_option maxRecDepth 100000 in
theorem back_walk {am af : Addr} {N : Nat} (n : Nat) (hn : n < 18446744073709551616) (t s : ByteArray) (ht : t.size ≤ maxLen) (hs : s.size ≤ maxLen) (w : World) (hS : Sent am af N w) :
    Calls Tryd.prog 5 #[.int .u64 (n : Int), .string t, .string s] w fun e w' => e = .returned (.bool true) ∧ Below w.heap.size w w' := by
  obtain ⟨a, ha, -, hca⟩ := cut_as s hs
  have HCA := Lib.hid hca
  obtain ⟨T, hT4, hTe⟩ : ∃ T : ByteArray, T.size ≤ 400 ∧ t.extract 0 (min (t.size : Int) 400).toNat = T := ⟨_, by simp; omega, rfl⟩
  have hgb := get_back n hn a
  have hpt := putsV_one T hT4
  have htb := text_back T a hT4
  have hn9 := putL_len9 n
  have hn1 := putL_len1 n
  have ht9 := putL_len9 T.size
  rw [← putB_size] at hn9 hn1
  have hbs : (textB T).size ≤ 409 := by unfold textB; rw [ByteArray.size_append, putB_size]; omega
  obtain ⟨P, hP⟩ : ∃ P, P = putB n := ⟨_, rfl⟩
  obtain ⟨B, hB⟩ : ∃ B, B = textB T := ⟨_, rfl⟩
  rw [← hB] at hpt htb hbs
  rw [← hP] at hgb hn9 hn1
  have hput : ∀ W, Calls Tryd.prog 14 #[.int .u64 (n : Int)] W fun e w' => e = .returned (.string P) ∧ Below W.heap.size W w' := fun W => by rw [hP]; exact put_any n (by omega) W
  have HPUT := Lib.hid hput
  have HGB := Lib.hid hgb
  have HPT := Lib.hid hpt
  have HTB := Lib.hid htb
  have hm1 : (P ++ a).size ≤ maxLen := by rw [ByteArray.size_append]; unfold maxLen; omega
  have hm2 : (B ++ a).size ≤ maxLen := by rw [ByteArray.size_append]; unfold maxLen; omega
  have HM1 := Lib.hid hm1
  have HM2 := Lib.hid hm2
  have hma : a.size ≤ maxLen := by unfold maxLen; omega
  have HMA := Lib.hid hma
  unfold maxLen at ht
  clear hca hgb hpt htb hput hP hB hm1 hm2 hma hs hn ht9 hT4
  cases hg : getL a.data.toList
  · have hgo : GetOut a = .tuple #[.int .u64 0, .string a, .int .i64 20] := by unfold GetOut; rw [hg]
    have HGO := Lib.hid hgo
    clear hgo hg
    go_enter Tryd.func5, Tryd.ntmps5
    go_wp2_with fail
    refine (shown_any _ hS).mono ?_
    rintro e w1 ⟨rfl, hbw⟩
    go_wp2_with fail
    refine (HPUT.out _).mono ?_
    rintro e w' ⟨rfl, hb⟩
    replace hbw := hbw.trans (hb.mono hbw.size)
    clear hb
    go_wp2_with fail
    refine (HCA.out _).mono ?_
    rintro e w' ⟨rfl, rfl⟩
    go_wp2_with fail
    refine (get_val _ _ HGB.out HM1.out _ (hS.on hbw)).mono ?_
    rintro e w' ⟨rfl, hb⟩
    replace hbw := hbw.trans (hb.mono hbw.size)
    clear hb
    go_wp2_with fail
    refine (putText_val _ _ HPT.out _).mono ?_
    rintro e w' ⟨rfl, hb⟩
    replace hbw := hbw.trans (hb.mono hbw.size)
    clear hb
    go_wp2_with fail
    refine (HCA.out _).mono ?_
    rintro e w' ⟨rfl, rfl⟩
    go_wp2_with fail
    refine (getText_val _ _ HTB.out HM2.out _ (hS.on hbw)).mono ?_
    rintro e w' ⟨rfl, hb⟩
    replace hbw := hbw.trans (hb.mono hbw.size)
    clear hb
    go_wp2_with fail
    refine (HCA.out _).mono ?_
    rintro e w' ⟨rfl, rfl⟩
    go_wp2_with fail
    refine (get_val _ _ HGO.out HMA.out _ (hS.on hbw)).mono ?_
    rintro e w' ⟨rfl, hb⟩
    replace hbw := hbw.trans (hb.mono hbw.size)
    clear hb
    go_wp2_with fail
    refine (HCA.out _).mono ?_
    rintro e w' ⟨rfl, rfl⟩
    go_wp2_with fail
    refine (HCA.out _).mono ?_
    rintro e w' ⟨rfl, rfl⟩
    go_wp2_with fail
    refine (HPUT.out _).mono ?_
    rintro e w' ⟨rfl, hb⟩
    replace hbw := hbw.trans (hb.mono hbw.size)
    clear hb
    go_wp2_with fail
    refine (HPUT.out _).mono ?_
    rintro e w' ⟨rfl, hb⟩
    replace hbw := hbw.trans (hb.mono hbw.size)
    clear hb
    go_wp2_with fail
    go_ret
    exact ⟨bool_true (by omega), hbw⟩
  · have hgo : GetOut a = .tuple #[.int .u64 0, .string a, .int .i64 21] := by unfold GetOut; rw [hg]
    have HGO := Lib.hid hgo
    clear hgo hg
    go_enter Tryd.func5, Tryd.ntmps5
    go_wp2_with fail
    refine (shown_any _ hS).mono ?_
    rintro e w1 ⟨rfl, hbw⟩
    go_wp2_with fail
    refine (HPUT.out _).mono ?_
    rintro e w' ⟨rfl, hb⟩
    replace hbw := hbw.trans (hb.mono hbw.size)
    clear hb
    go_wp2_with fail
    refine (HCA.out _).mono ?_
    rintro e w' ⟨rfl, rfl⟩
    go_wp2_with fail
    refine (get_val _ _ HGB.out HM1.out _ (hS.on hbw)).mono ?_
    rintro e w' ⟨rfl, hb⟩
    replace hbw := hbw.trans (hb.mono hbw.size)
    clear hb
    go_wp2_with fail
    refine (putText_val _ _ HPT.out _).mono ?_
    rintro e w' ⟨rfl, hb⟩
    replace hbw := hbw.trans (hb.mono hbw.size)
    clear hb
    go_wp2_with fail
    refine (HCA.out _).mono ?_
    rintro e w' ⟨rfl, rfl⟩
    go_wp2_with fail
    refine (getText_val _ _ HTB.out HM2.out _ (hS.on hbw)).mono ?_
    rintro e w' ⟨rfl, hb⟩
    replace hbw := hbw.trans (hb.mono hbw.size)
    clear hb
    go_wp2_with fail
    refine (HCA.out _).mono ?_
    rintro e w' ⟨rfl, rfl⟩
    go_wp2_with fail
    refine (get_val _ _ HGO.out HMA.out _ (hS.on hbw)).mono ?_
    rintro e w' ⟨rfl, hb⟩
    replace hbw := hbw.trans (hb.mono hbw.size)
    clear hb
    go_wp2_with fail
    refine (HCA.out _).mono ?_
    rintro e w' ⟨rfl, rfl⟩
    go_wp2_with fail
    refine (HCA.out _).mono ?_
    rintro e w' ⟨rfl, rfl⟩
    go_wp2_with fail
    refine (HPUT.out _).mono ?_
    rintro e w' ⟨rfl, hb⟩
    replace hbw := hbw.trans (hb.mono hbw.size)
    clear hb
    go_wp2_with fail
    refine (HPUT.out _).mono ?_
    rintro e w' ⟨rfl, hb⟩
    replace hbw := hbw.trans (hb.mono hbw.size)
    clear hb
    go_wp2_with fail
    go_ret
    exact ⟨bool_true (by omega), hbw⟩
  · rename_i v k
    obtain ⟨hpv, hv⟩ := put_of_get a v k hg
    have hgo : GetOut a = .tuple #[.int .u64 (v : Int), .string (a.extract k a.size), .int .i64 0] := by unfold GetOut; rw [hg]
    obtain ⟨X, hX⟩ : ∃ X, a.extract k a.size = X := ⟨_, rfl⟩
    obtain ⟨V, hV⟩ : ∃ V, putB v = V := ⟨_, rfl⟩
    rw [hX] at hgo hpv
    rw [hV] at hpv
    have hput2 : ∀ W, Calls Tryd.prog 14 #[.int .u64 (v : Int)] W fun e w' => e = .returned (.string V) ∧ Below W.heap.size W w' := fun W => by rw [← hV]; exact put_any v hv W
    have HPV := Lib.hid hput2
    have HGO := Lib.hid hgo
    have hvx : V.size + X.size ≤ 3000 := by
      have := congrArg ByteArray.size hpv
      rw [ByteArray.size_append] at this
      omega
    clear hgo hg hput2 hv hX hV
    go_enter Tryd.func5, Tryd.ntmps5
    go_wp2_with fail
    refine (shown_any _ hS).mono ?_
    rintro e w1 ⟨rfl, hbw⟩
    go_wp2_with fail
    refine (HPUT.out _).mono ?_
    rintro e w' ⟨rfl, hb⟩
    replace hbw := hbw.trans (hb.mono hbw.size)
    clear hb
    go_wp2_with fail
    refine (HCA.out _).mono ?_
    rintro e w' ⟨rfl, rfl⟩
    go_wp2_with fail
    refine (get_val _ _ HGB.out HM1.out _ (hS.on hbw)).mono ?_
    rintro e w' ⟨rfl, hb⟩
    replace hbw := hbw.trans (hb.mono hbw.size)
    clear hb
    go_wp2_with fail
    refine (putText_val _ _ HPT.out _).mono ?_
    rintro e w' ⟨rfl, hb⟩
    replace hbw := hbw.trans (hb.mono hbw.size)
    clear hb
    go_wp2_with fail
    refine (HCA.out _).mono ?_
    rintro e w' ⟨rfl, rfl⟩
    go_wp2_with fail
    refine (getText_val _ _ HTB.out HM2.out _ (hS.on hbw)).mono ?_
    rintro e w' ⟨rfl, hb⟩
    replace hbw := hbw.trans (hb.mono hbw.size)
    clear hb
    go_wp2_with fail
    refine (HCA.out _).mono ?_
    rintro e w' ⟨rfl, rfl⟩
    go_wp2_with fail
    refine (get_val _ _ HGO.out HMA.out _ (hS.on hbw)).mono ?_
    rintro e w' ⟨rfl, hb⟩
    replace hbw := hbw.trans (hb.mono hbw.size)
    clear hb
    go_wp2_with fail
    refine (HPV.out _).mono ?_
    rintro e w' ⟨rfl, hb⟩
    replace hbw := hbw.trans (hb.mono hbw.size)
    clear hb
    go_wp2_with fail
    refine (HCA.out _).mono ?_
    rintro e w' ⟨rfl, rfl⟩
    go_wp2_with fail
    refine (HCA.out _).mono ?_
    rintro e w' ⟨rfl, rfl⟩
    go_wp2_with fail
    refine (HCA.out _).mono ?_
    rintro e w' ⟨rfl, rfl⟩
    go_wp2_with fail
    refine (HPUT.out _).mono ?_
    rintro e w' ⟨rfl, hb⟩
    replace hbw := hbw.trans (hb.mono hbw.size)
    clear hb
    go_wp2_with fail
    refine (HPUT.out _).mono ?_
    rintro e w' ⟨rfl, hb⟩
    replace hbw := hbw.trans (hb.mono hbw.size)
    clear hb
    go_wp2_with fail
    go_ret
    exact ⟨bool_true (by omega), hbw⟩
end Go.Proofs.YtbodkmeeceifoaaDoor
