/- FieldLists: what it comes to. -/
import Derived.Test.YtbodkmeeceifoaaDoorFLawsM
import Derived.Test.YtbodkmeeceifoaaDoorFTexts
namespace Go.Proofs.YtbodkmeeceifoaaDoor
open Go.RowKit Go.Lib

theorem nil_app (a : ByteArray) : ({ data := #[] } : ByteArray) ++ a = a := by apply ba_list; simp
theorem strSl_nil (W : World) : StrSl W (.slice none 0 0) [] := Or.inl ⟨none, 0, rfl, rfl⟩
theorem list_nil : listV [] = .tuple #[.string (listB []), .int .i64 0] := listV_ok [] (by simp) rfl

set_option maxHeartbeats 4000000 in
set_option maxRecDepth 100000 in
theorem lists_walk {am af : Addr} {N : Nat} (ts : List ByteArray) (v : Value) (s : ByteArray) (hs : s.size ≤ maxLen) (w : World) (hS : Sent am af N w)
    (hts : StrSl w v ts) (hlen : ts.length ≤ maxLen) (hz : ∀ t ∈ ts, t.size ≤ maxLen) :
    Calls Tryd.prog 6 #[v, .string s] w fun e w' => e = .returned (.bool true) ∧ Below w.heap.size w w' := by
  obtain ⟨A, hA, -, hca⟩ := cut_as s hs
  have HCA := Lib.hid hca
  have ham : A.size ≤ maxLen := by unfold maxLen; omega
  have HAM := Lib.hid ham
  have HTS := Lib.hid hts
  have hfl := fewL_len ts
  obtain ⟨F, hF⟩ : ∃ F, F = fewL ts := ⟨_, rfl⟩
  have hfew : ∀ W, StrSl W v ts → Calls Tryd.prog 18 #[v] W fun e w' => (∃ v', e = .returned v' ∧ StrSl w' v' F) ∧ Below W.heap.size W w' := fun W h => by rw [hF]; exact few_any ts v W hlen hz h
  rw [← hF] at hfl
  have HFEW := Lib.hid hfew
  have hflm : F.length ≤ maxLen := by unfold maxLen; omega
  have hf1000 : F.length ≤ 1000 := by omega
  have HFLM := Lib.hid hflm
  have HF1000 := Lib.hid hf1000
  have HLN := Lib.hid list_nil
  obtain ⟨E0, hE0⟩ : ∃ E0, E0 = listB [] := ⟨_, rfl⟩
  rw [← hE0] at HLN
  have hl0 : ([] : List ByteArray).length ≤ maxLen := Nat.zero_le _
  have HL0 := Lib.hid hl0
  clear hca ham hts hlen hz hF hfew hflm hf1000 hs hE0 hl0
  by_cases hok : F.length ≤ 100 ∧ fits F = true
  · have hlv := listV_ok F hok.1 hok.2
    have hlb := list_back F A hok.1 hok.2
    have hbs := listB_size F hok.1 hok.2
    obtain ⟨B, hB⟩ : ∃ B, B = listB F := ⟨_, rfl⟩
    rw [← hB] at hlv hlb hbs
    have hba : (B ++ A).size ≤ maxLen := by rw [ByteArray.size_append]; unfold maxLen; omega
    have HLV := Lib.hid hlv
    have HLB := Lib.hid hlb
    have HBA := Lib.hid hba
    clear hlv hlb hB hok hfl hba
    cases hg : getLS A with
    | more =>
      have HG := Lib.hid hg
      clear hg
      go_enter Tryd.func6, Tryd.ntmps6
      go_wp2_with fail
      refine (shown_any _ hS).mono ?_
      rintro e w1 ⟨rfl, hbw⟩
      go_wp2_with fail
      with_reducible refine (HFEW.out _ (HTS.out.below hbw)).mono ?_
      rintro e w' ⟨⟨l, rfl, hl⟩, hb⟩
      replace hbw := hbw.trans (hb.mono hbw.size)
      have Hl := Lib.hid hl
      clear hb hl
      go_wp2_with fail
      with_reducible refine (putList_val F l _ HLV.out _ HFLM.out Hl.out).mono ?_
      rintro e w' ⟨rfl, hb⟩
      replace Hl := Lib.hid (Hl.out.below hb)
      replace hbw := hbw.trans (hb.mono hbw.size)
      clear hb
      go_wp2_with fail
      with_reducible refine (HCA.out _).mono ?_
      rintro e w' ⟨rfl, rfl⟩
      go_wp2_with fail
      with_reducible refine (getList_ok (B ++ A) HBA.out _ (hS.on hbw) HLB.out).mono ?_
      rintro e w' ⟨⟨bb, rfl, hbb⟩, hb⟩
      replace Hl := Lib.hid (Hl.out.below hb)
      replace hbw := hbw.trans (hb.mono hbw.size)
      have Hbb := Lib.hid hbb
      clear hb hbb
      go_wp2_with fail
      with_reducible refine (texts_same F bb l _ HF1000.out Hbb.out Hl.out).mono ?_
      rintro e w' ⟨rfl, hb⟩
      replace hbw := hbw.trans (hb.mono hbw.size)
      clear hb
      go_wp2_with fail
      with_reducible refine (HCA.out _).mono ?_
      rintro e w' ⟨rfl, rfl⟩
      go_wp2_with fail
      with_reducible refine (HCA.out _).mono ?_
      rintro e w' ⟨rfl, rfl⟩
      go_wp2_with fail
      with_reducible refine (getList_more A HAM.out _ (hS.on hbw) HG.out).mono ?_
      rintro e w' ⟨rfl, hb⟩
      replace hbw := hbw.trans (hb.mono hbw.size)
      clear hb
      go_wp2_with fail
      with_reducible refine (putList_val [] _ _ HLN.out _ HL0.out (strSl_nil _)).mono ?_
      rintro e w' ⟨rfl, hb⟩
      replace hbw := hbw.trans (hb.mono hbw.size)
      clear hb
      go_wp2_with fail
      go_ret
      exact ⟨rfl, hbw⟩
    | bad =>
      have HG := Lib.hid hg
      clear hg
      go_enter Tryd.func6, Tryd.ntmps6
      go_wp2_with fail
      refine (shown_any _ hS).mono ?_
      rintro e w1 ⟨rfl, hbw⟩
      go_wp2_with fail
      with_reducible refine (HFEW.out _ (HTS.out.below hbw)).mono ?_
      rintro e w' ⟨⟨l, rfl, hl⟩, hb⟩
      replace hbw := hbw.trans (hb.mono hbw.size)
      have Hl := Lib.hid hl
      clear hb hl
      go_wp2_with fail
      with_reducible refine (putList_val F l _ HLV.out _ HFLM.out Hl.out).mono ?_
      rintro e w' ⟨rfl, hb⟩
      replace Hl := Lib.hid (Hl.out.below hb)
      replace hbw := hbw.trans (hb.mono hbw.size)
      clear hb
      go_wp2_with fail
      with_reducible refine (HCA.out _).mono ?_
      rintro e w' ⟨rfl, rfl⟩
      go_wp2_with fail
      with_reducible refine (getList_ok (B ++ A) HBA.out _ (hS.on hbw) HLB.out).mono ?_
      rintro e w' ⟨⟨bb, rfl, hbb⟩, hb⟩
      replace Hl := Lib.hid (Hl.out.below hb)
      replace hbw := hbw.trans (hb.mono hbw.size)
      have Hbb := Lib.hid hbb
      clear hb hbb
      go_wp2_with fail
      with_reducible refine (texts_same F bb l _ HF1000.out Hbb.out Hl.out).mono ?_
      rintro e w' ⟨rfl, hb⟩
      replace hbw := hbw.trans (hb.mono hbw.size)
      clear hb
      go_wp2_with fail
      with_reducible refine (HCA.out _).mono ?_
      rintro e w' ⟨rfl, rfl⟩
      go_wp2_with fail
      with_reducible refine (HCA.out _).mono ?_
      rintro e w' ⟨rfl, rfl⟩
      go_wp2_with fail
      with_reducible refine (getList_bad A HAM.out _ (hS.on hbw) HG.out).mono ?_
      rintro e w' ⟨rfl, hb⟩
      replace hbw := hbw.trans (hb.mono hbw.size)
      clear hb
      go_wp2_with fail
      with_reducible refine (putList_val [] _ _ HLN.out _ HL0.out (strSl_nil _)).mono ?_
      rintro e w' ⟨rfl, hb⟩
      replace hbw := hbw.trans (hb.mono hbw.size)
      clear hb
      go_wp2_with fail
      go_ret
      exact ⟨rfl, hbw⟩
    | ok L r =>
      obtain ⟨h1, h2, h3⟩ := list_of A r L hg
      have hll := listV_ok L h1 h2
      have hds := listB_size L h1 h2
      obtain ⟨D, hD⟩ : ∃ D, D = listB L := ⟨_, rfl⟩
      rw [← hD] at hll h3 hds
      have hlm : L.length ≤ maxLen := by unfold maxLen; omega
      have hrs : D.size + r.size ≤ 3000 := by rw [← ByteArray.size_append, h3]; exact hA
      have HG := Lib.hid hg
      have HLL := Lib.hid hll
      have HLM := Lib.hid hlm
      clear hg h1 h2 hll hD hlm
      go_enter Tryd.func6, Tryd.ntmps6
      go_wp2_with fail
      refine (shown_any _ hS).mono ?_
      rintro e w1 ⟨rfl, hbw⟩
      go_wp2_with fail
      with_reducible refine (HFEW.out _ (HTS.out.below hbw)).mono ?_
      rintro e w' ⟨⟨l, rfl, hl⟩, hb⟩
      replace hbw := hbw.trans (hb.mono hbw.size)
      have Hl := Lib.hid hl
      clear hb hl
      go_wp2_with fail
      with_reducible refine (putList_val F l _ HLV.out _ HFLM.out Hl.out).mono ?_
      rintro e w' ⟨rfl, hb⟩
      replace Hl := Lib.hid (Hl.out.below hb)
      replace hbw := hbw.trans (hb.mono hbw.size)
      clear hb
      go_wp2_with fail
      with_reducible refine (HCA.out _).mono ?_
      rintro e w' ⟨rfl, rfl⟩
      go_wp2_with fail
      with_reducible refine (getList_ok (B ++ A) HBA.out _ (hS.on hbw) HLB.out).mono ?_
      rintro e w' ⟨⟨bb, rfl, hbb⟩, hb⟩
      replace Hl := Lib.hid (Hl.out.below hb)
      replace hbw := hbw.trans (hb.mono hbw.size)
      have Hbb := Lib.hid hbb
      clear hb hbb
      go_wp2_with fail
      with_reducible refine (texts_same F bb l _ HF1000.out Hbb.out Hl.out).mono ?_
      rintro e w' ⟨rfl, hb⟩
      replace hbw := hbw.trans (hb.mono hbw.size)
      clear hb
      go_wp2_with fail
      with_reducible refine (HCA.out _).mono ?_
      rintro e w' ⟨rfl, rfl⟩
      go_wp2_with fail
      with_reducible refine (HCA.out _).mono ?_
      rintro e w' ⟨rfl, rfl⟩
      go_wp2_with fail
      with_reducible refine (getList_ok A HAM.out _ (hS.on hbw) HG.out).mono ?_
      rintro e w' ⟨⟨cc, rfl, hcc⟩, hb⟩
      replace hbw := hbw.trans (hb.mono hbw.size)
      have Hcc := Lib.hid hcc
      clear hb hcc
      go_wp2_with fail
      with_reducible refine (putList_val L cc _ HLL.out _ HLM.out Hcc.out).mono ?_
      rintro e w' ⟨rfl, hb⟩
      replace hbw := hbw.trans (hb.mono hbw.size)
      clear hb
      go_wp2_with fail
      with_reducible refine (HCA.out _).mono ?_
      rintro e w' ⟨rfl, rfl⟩
      go_wp2_with fail
      go_ret
      exact ⟨rfl, hbw⟩
  · have hlv := listV_bad F hok
    have HLV := Lib.hid hlv
    have hna := nil_app A
    clear hlv hok hfl
    cases hg : getLS A with
    | more =>
      have HG := Lib.hid hg
      clear hg
      go_enter Tryd.func6, Tryd.ntmps6
      go_wp2_with fail
      refine (shown_any _ hS).mono ?_
      rintro e w1 ⟨rfl, hbw⟩
      go_wp2_with fail
      with_reducible refine (HFEW.out _ (HTS.out.below hbw)).mono ?_
      rintro e w' ⟨⟨l, rfl, hl⟩, hb⟩
      replace hbw := hbw.trans (hb.mono hbw.size)
      have Hl := Lib.hid hl
      clear hb hl
      go_wp2_with fail
      with_reducible refine (putList_val F l _ HLV.out _ HFLM.out Hl.out).mono ?_
      rintro e w' ⟨rfl, hb⟩
      replace hbw := hbw.trans (hb.mono hbw.size)
      clear hb
      go_wp2_with fail
      with_reducible refine (HCA.out _).mono ?_
      rintro e w' ⟨rfl, rfl⟩
      go_wp2_with fail
      with_reducible refine (getList_more A HAM.out _ (hS.on hbw) HG.out).mono ?_
      rintro e w' ⟨rfl, hb⟩
      replace hbw := hbw.trans (hb.mono hbw.size)
      clear hb
      go_wp2_with fail
      with_reducible refine (HCA.out _).mono ?_
      rintro e w' ⟨rfl, rfl⟩
      go_wp2_with fail
      with_reducible refine (getList_more A HAM.out _ (hS.on hbw) HG.out).mono ?_
      rintro e w' ⟨rfl, hb⟩
      replace hbw := hbw.trans (hb.mono hbw.size)
      clear hb
      go_wp2_with fail
      with_reducible refine (putList_val [] _ _ HLN.out _ HL0.out (strSl_nil _)).mono ?_
      rintro e w' ⟨rfl, hb⟩
      replace hbw := hbw.trans (hb.mono hbw.size)
      clear hb
      go_wp2_with fail
      go_ret
      exact ⟨rfl, hbw⟩
    | bad =>
      have HG := Lib.hid hg
      clear hg
      go_enter Tryd.func6, Tryd.ntmps6
      go_wp2_with fail
      refine (shown_any _ hS).mono ?_
      rintro e w1 ⟨rfl, hbw⟩
      go_wp2_with fail
      with_reducible refine (HFEW.out _ (HTS.out.below hbw)).mono ?_
      rintro e w' ⟨⟨l, rfl, hl⟩, hb⟩
      replace hbw := hbw.trans (hb.mono hbw.size)
      have Hl := Lib.hid hl
      clear hb hl
      go_wp2_with fail
      with_reducible refine (putList_val F l _ HLV.out _ HFLM.out Hl.out).mono ?_
      rintro e w' ⟨rfl, hb⟩
      replace hbw := hbw.trans (hb.mono hbw.size)
      clear hb
      go_wp2_with fail
      with_reducible refine (HCA.out _).mono ?_
      rintro e w' ⟨rfl, rfl⟩
      go_wp2_with fail
      with_reducible refine (getList_bad A HAM.out _ (hS.on hbw) HG.out).mono ?_
      rintro e w' ⟨rfl, hb⟩
      replace hbw := hbw.trans (hb.mono hbw.size)
      clear hb
      go_wp2_with fail
      with_reducible refine (HCA.out _).mono ?_
      rintro e w' ⟨rfl, rfl⟩
      go_wp2_with fail
      with_reducible refine (getList_bad A HAM.out _ (hS.on hbw) HG.out).mono ?_
      rintro e w' ⟨rfl, hb⟩
      replace hbw := hbw.trans (hb.mono hbw.size)
      clear hb
      go_wp2_with fail
      with_reducible refine (putList_val [] _ _ HLN.out _ HL0.out (strSl_nil _)).mono ?_
      rintro e w' ⟨rfl, hb⟩
      replace hbw := hbw.trans (hb.mono hbw.size)
      clear hb
      go_wp2_with fail
      go_ret
      exact ⟨rfl, hbw⟩
    | ok L r =>
      obtain ⟨h1, h2, h3⟩ := list_of A r L hg
      have hll := listV_ok L h1 h2
      have hds := listB_size L h1 h2
      obtain ⟨D, hD⟩ : ∃ D, D = listB L := ⟨_, rfl⟩
      rw [← hD] at hll h3 hds
      have hlm : L.length ≤ maxLen := by unfold maxLen; omega
      have hrs : D.size + r.size ≤ 3000 := by rw [← ByteArray.size_append, h3]; exact hA
      have HG := Lib.hid hg
      have HLL := Lib.hid hll
      have HLM := Lib.hid hlm
      clear hg h1 h2 hll hD hlm
      go_enter Tryd.func6, Tryd.ntmps6
      go_wp2_with fail
      refine (shown_any _ hS).mono ?_
      rintro e w1 ⟨rfl, hbw⟩
      go_wp2_with fail
      with_reducible refine (HFEW.out _ (HTS.out.below hbw)).mono ?_
      rintro e w' ⟨⟨l, rfl, hl⟩, hb⟩
      replace hbw := hbw.trans (hb.mono hbw.size)
      have Hl := Lib.hid hl
      clear hb hl
      go_wp2_with fail
      with_reducible refine (putList_val F l _ HLV.out _ HFLM.out Hl.out).mono ?_
      rintro e w' ⟨rfl, hb⟩
      replace hbw := hbw.trans (hb.mono hbw.size)
      clear hb
      go_wp2_with fail
      with_reducible refine (HCA.out _).mono ?_
      rintro e w' ⟨rfl, rfl⟩
      go_wp2_with fail
      with_reducible refine (getList_ok A HAM.out _ (hS.on hbw) HG.out).mono ?_
      rintro e w' ⟨⟨bb, rfl, hbb⟩, hb⟩
      replace hbw := hbw.trans (hb.mono hbw.size)
      have Hbb := Lib.hid hbb
      clear hb hbb
      go_wp2_with fail
      with_reducible refine (HCA.out _).mono ?_
      rintro e w' ⟨rfl, rfl⟩
      go_wp2_with fail
      with_reducible refine (getList_ok A HAM.out _ (hS.on hbw) HG.out).mono ?_
      rintro e w' ⟨⟨cc, rfl, hcc⟩, hb⟩
      replace hbw := hbw.trans (hb.mono hbw.size)
      have Hcc := Lib.hid hcc
      clear hb hcc
      go_wp2_with fail
      with_reducible refine (putList_val L cc _ HLL.out _ HLM.out Hcc.out).mono ?_
      rintro e w' ⟨rfl, hb⟩
      replace hbw := hbw.trans (hb.mono hbw.size)
      clear hb
      go_wp2_with fail
      with_reducible refine (HCA.out _).mono ?_
      rintro e w' ⟨rfl, rfl⟩
      go_wp2_with fail
      go_ret
      exact ⟨rfl, hbw⟩
end Go.Proofs.YtbodkmeeceifoaaDoor
