/- FieldMore: what it comes to. -/
import Derived.Test.YtbodkmeeceifoaaDoorFListMath
import Derived.Test.YtbodkmeeceifoaaDoorFFew
namespace Go.Proofs.YtbodkmeeceifoaaDoor
open Go.RowKit Go.Lib

theorem putList_val (ts : List ByteArray) (v r : Value) (hv : listV ts = r) (w : World) (hn : ts.length ≤ maxLen) (h : StrSl w v ts) :
    Calls Tryd.prog 21 #[v] w fun e w' => e = .returned r ∧ Below w.heap.size w w' := by
  rw [← hv]
  exact putList_any ts v w hn h
theorem get_cut (n : Nat) (Q : ByteArray) (h : (putB n).extract 0 ((putB n).size - 1) = Q) : GetOut Q = .tuple #[.int .u64 0, .string Q, .int .i64 20] := by
  have h1 := putL_len1 n
  have hg : getL Q.data.toList = .more := by
    rw [← h, ext_list, putB_list, List.drop_zero, putB_size]
    exact get_short n _ (by omega)
  unfold GetOut
  rw [hg]

set_option maxHeartbeats 2000000 in
set_option maxRecDepth 100000 in
theorem more_walk {am af : Addr} {N : Nat} (n : Nat) (hn : n < 18446744073709551616) (ts : List ByteArray) (v : Value) (at_ : Int) (w : World) (hS : Sent am af N w)
    (hts : StrSl w v ts) (hlen : ts.length ≤ maxLen) (hz : ∀ t ∈ ts, t.size ≤ maxLen) :
    Calls Tryd.prog 8 #[.int .u64 (n : Int), v, .int .i64 at_] w fun e w' => e = .returned (.bool true) ∧ Below w.heap.size w w' := by
  have hn9 := putL_len9 n
  have hn1 := putL_len1 n
  rw [← putB_size] at hn9 hn1
  obtain ⟨Q, hQ⟩ : ∃ Q, (putB n).extract 0 ((putB n).size - 1) = Q := ⟨_, rfl⟩
  have hgq := get_cut n Q hQ
  have hqs : Q.size = (putB n).size - 1 := by rw [← hQ]; simp
  obtain ⟨P, hP⟩ : ∃ P, P = putB n := ⟨_, rfl⟩
  rw [← hP] at hQ hqs hn1 hn9
  have hput : ∀ W, Calls Tryd.prog 14 #[.int .u64 (n : Int)] W fun e w' => e = .returned (.string P) ∧ Below W.heap.size W w' := fun W => by rw [hP]; exact put_any n (by omega) W
  have hmin : min (1 : Int) (P.size : Int) = 1 := by omega
  have hqi : (Q.size : Int) = (P.size : Int) - 1 := by omega
  have hqm : Q.size ≤ maxLen := by unfold maxLen; omega
  have HPUT := Lib.hid hput
  have HGQ := Lib.hid hgq
  have HQM := Lib.hid hqm
  have HTS := Lib.hid hts
  have hfl := fewL_len ts
  obtain ⟨F, hF⟩ : ∃ F, F = fewL ts := ⟨_, rfl⟩
  have hfew : ∀ W, StrSl W v ts → Calls Tryd.prog 18 #[v] W fun e w' => (∃ v', e = .returned v' ∧ StrSl w' v' F) ∧ Below W.heap.size W w' := fun W h => by rw [hF]; exact few_any ts v W hlen hz h
  rw [← hF] at hfl
  have HFEW := Lib.hid hfew
  have hflm : F.length ≤ maxLen := by unfold maxLen; omega
  have HFLM := Lib.hid hflm
  clear hgq hput hqm hts hlen hz hP hF hfew hqs hflm
  by_cases hok : F.length ≤ 100 ∧ fits F = true
  · have hlv := listV_ok F hok.1 hok.2
    have hsh := list_short F hok.1 hok.2
    have hbs := listB_size F hok.1 hok.2
    obtain ⟨B, hB⟩ : ∃ B, B = listB F := ⟨_, rfl⟩
    rw [← hB] at hlv hsh hbs
    have HLV := Lib.hid hlv
    have HSH := Lib.hid hsh
    clear hlv hsh hB hok hfl
    by_cases h0 : at_ < 0
    · go_enter Tryd.func8, Tryd.ntmps8
      go_wp2_with fail
      refine (shown_any _ hS).mono ?_
      rintro e w1 ⟨rfl, hbw⟩
      go_wp2_with fail
      with_reducible refine (HPUT.out _).mono ?_
      rintro e w' ⟨rfl, hb⟩
      replace hbw := hbw.trans (hb.mono hbw.size)
      clear hb
      go_wp2_with fail
      with_reducible refine (get_val _ _ HGQ.out HQM.out _ (hS.on hbw)).mono ?_
      rintro e w' ⟨rfl, hb⟩
      replace hbw := hbw.trans (hb.mono hbw.size)
      clear hb
      go_wp2_with fail
      with_reducible refine (HFEW.out _ (HTS.out.below hbw)).mono ?_
      rintro e w' ⟨⟨v', rfl, hsl'⟩, hb⟩
      replace hbw := hbw.trans (hb.mono hbw.size)
      have HSL := Lib.hid hsl'
      clear hb hsl'
      go_wp2_with fail
      with_reducible refine (putList_val F v' _ HLV.out _ HFLM.out HSL.out).mono ?_
      rintro e w' ⟨rfl, hb⟩
      replace hbw := hbw.trans (hb.mono hbw.size)
      clear hb HSL
      go_wp2_with fail
      go_ret
      exact ⟨rfl, hbw⟩
    · obtain ⟨k, rfl⟩ : ∃ k : Nat, at_ = k := ⟨at_.toNat, by omega⟩
      by_cases h1 : k < B.size
      · have hgm := HSH.out k h1
        obtain ⟨C, hC⟩ : ∃ C, B.extract 0 k = C := ⟨_, rfl⟩
        rw [hC] at hgm
        have hcm : C.size ≤ maxLen := by rw [← hC]; unfold maxLen; simp; omega
        have HGM := Lib.hid hgm
        have HCM := Lib.hid hcm
        clear hgm hcm HSH
        go_enter Tryd.func8, Tryd.ntmps8
        go_wp2_with fail
        refine (shown_any _ hS).mono ?_
        rintro e w1 ⟨rfl, hbw⟩
        go_wp2_with fail
        with_reducible refine (HPUT.out _).mono ?_
        rintro e w' ⟨rfl, hb⟩
        replace hbw := hbw.trans (hb.mono hbw.size)
        clear hb
        go_wp2_with fail
        with_reducible refine (get_val _ _ HGQ.out HQM.out _ (hS.on hbw)).mono ?_
        rintro e w' ⟨rfl, hb⟩
        replace hbw := hbw.trans (hb.mono hbw.size)
        clear hb
        go_wp2_with fail
        with_reducible refine (HFEW.out _ (HTS.out.below hbw)).mono ?_
        rintro e w' ⟨⟨v', rfl, hsl'⟩, hb⟩
        replace hbw := hbw.trans (hb.mono hbw.size)
        have HSL := Lib.hid hsl'
        clear hb hsl'
        go_wp2_with fail
        with_reducible refine (putList_val F v' _ HLV.out _ HFLM.out HSL.out).mono ?_
        rintro e w' ⟨rfl, hb⟩
        replace hbw := hbw.trans (hb.mono hbw.size)
        clear hb HSL
        go_wp2_with fail
        with_reducible refine (getList_more C HCM.out _ (hS.on hbw) HGM.out).mono ?_
        rintro e w' ⟨rfl, hb⟩
        replace hbw := hbw.trans (hb.mono hbw.size)
        clear hb
        go_wp2_with fail
        go_ret
        exact ⟨rfl, hbw⟩
      · clear HSH
        go_enter Tryd.func8, Tryd.ntmps8
        go_wp2_with fail
        refine (shown_any _ hS).mono ?_
        rintro e w1 ⟨rfl, hbw⟩
        go_wp2_with fail
        with_reducible refine (HPUT.out _).mono ?_
        rintro e w' ⟨rfl, hb⟩
        replace hbw := hbw.trans (hb.mono hbw.size)
        clear hb
        go_wp2_with fail
        with_reducible refine (get_val _ _ HGQ.out HQM.out _ (hS.on hbw)).mono ?_
        rintro e w' ⟨rfl, hb⟩
        replace hbw := hbw.trans (hb.mono hbw.size)
        clear hb
        go_wp2_with fail
        with_reducible refine (HFEW.out _ (HTS.out.below hbw)).mono ?_
        rintro e w' ⟨⟨v', rfl, hsl'⟩, hb⟩
        replace hbw := hbw.trans (hb.mono hbw.size)
        have HSL := Lib.hid hsl'
        clear hb hsl'
        go_wp2_with fail
        with_reducible refine (putList_val F v' _ HLV.out _ HFLM.out HSL.out).mono ?_
        rintro e w' ⟨rfl, hb⟩
        replace hbw := hbw.trans (hb.mono hbw.size)
        clear hb HSL
        go_wp2_with fail
        go_ret
        exact ⟨rfl, hbw⟩
  · have hlv := listV_bad F hok
    have HLV := Lib.hid hlv
    clear hlv hok hfl
    go_enter Tryd.func8, Tryd.ntmps8
    go_wp2_with fail
    refine (shown_any _ hS).mono ?_
    rintro e w1 ⟨rfl, hbw⟩
    go_wp2_with fail
    with_reducible refine (HPUT.out _).mono ?_
    rintro e w' ⟨rfl, hb⟩
    replace hbw := hbw.trans (hb.mono hbw.size)
    clear hb
    go_wp2_with fail
    with_reducible refine (get_val _ _ HGQ.out HQM.out _ (hS.on hbw)).mono ?_
    rintro e w' ⟨rfl, hb⟩
    replace hbw := hbw.trans (hb.mono hbw.size)
    clear hb
    go_wp2_with fail
    with_reducible refine (HFEW.out _ (HTS.out.below hbw)).mono ?_
    rintro e w' ⟨⟨v', rfl, hsl'⟩, hb⟩
    replace hbw := hbw.trans (hb.mono hbw.size)
    have HSL := Lib.hid hsl'
    clear hb hsl'
    go_wp2_with fail
    with_reducible refine (putList_val F v' _ HLV.out _ HFLM.out HSL.out).mono ?_
    rintro e w' ⟨rfl, hb⟩
    replace hbw := hbw.trans (hb.mono hbw.size)
    clear hb HSL
    go_wp2_with fail
    go_ret
    exact ⟨rfl, hbw⟩
end Go.Proofs.YtbodkmeeceifoaaDoor
