/- FieldTexts: what it comes to. -/
import Derived.Test.YtbodkmeeceifoaaDoorFLawsL
import Derived.Test.YtbodkmeeceifoaaDoorFRefList
namespace Go.Proofs.YtbodkmeeceifoaaDoor
open Go.RowKit Go.Lib

theorem list_out (s : ByteArray) (hs : s.size ≤ maxLen) : ∃ (L : List ByteArray) (r : ByteArray) (E : Int), L.length ≤ 1000 ∧
    (∀ (am af : Addr) (N : Nat) (W : World), Sent am af N W → Calls Tryd.prog 25 #[.string s] W fun e w' => (∃ v, e = .returned (.tuple #[v, .string r, .int .i64 E]) ∧ StrSl w' v L) ∧ Below W.heap.size W w') ∧
    (∀ W, Calls Tryd.prog 26 #[.string s] W fun e w' => (∃ v, e = .returned (.tuple #[v, .string r, .int .i64 E]) ∧ StrSl w' v L) ∧ Below W.heap.size W w') := by
  cases hg : getLS s with
  | more =>
    refine ⟨[], s, 20, by simp, fun am af N W hS => (getList_more s hs W hS hg).mono ?_, fun W => (refGetList_err hs (.inl ⟨hg, rfl⟩) W).mono ?_⟩
    · rintro e w' ⟨rfl, hb⟩
      exact ⟨⟨_, rfl, strSl_nil _⟩, hb⟩
    · rintro e w' ⟨rfl, hb⟩
      exact ⟨⟨_, rfl, strSl_nil _⟩, hb⟩
  | bad =>
    refine ⟨[], s, 21, by simp, fun am af N W hS => (getList_bad s hs W hS hg).mono ?_, fun W => (refGetList_err hs (.inr ⟨hg, rfl⟩) W).mono ?_⟩
    · rintro e w' ⟨rfl, hb⟩
      exact ⟨⟨_, rfl, strSl_nil _⟩, hb⟩
    · rintro e w' ⟨rfl, hb⟩
      exact ⟨⟨_, rfl, strSl_nil _⟩, hb⟩
  | ok ts r =>
    have hl : ts.length ≤ 1000 := by
      have h := hg
      unfold getLS at h
      split at h
      · cases h
      · cases h
      rename_i n k hc
      have := listS_len h
      have := (cnt_ok hc).2
      omega
    exact ⟨ts, r, 0, hl, fun am af N W hS => getList_ok s hs W hS hg, fun W => refGetList_ok hs hg W⟩
theorem textOut_tuple (s : ByteArray) : ∃ (p q : ByteArray) (E : Int), TextOut s = .tuple #[.string p, .string q, .int .i64 E] := by
  unfold TextOut
  split
  · exact ⟨_, _, _, rfl⟩
  · exact ⟨_, _, _, rfl⟩
  · exact ⟨_, _, _, rfl⟩
theorem listV_tuple (ts : List ByteArray) : ∃ s e, listV ts = .tuple #[.string s, .int .i64 e] := by
  unfold listV
  split
  · exact ⟨_, _, rfl⟩
  · exact putsV_tuple _ _

set_option maxHeartbeats 4000000 in
set_option maxRecDepth 100000 in
theorem texts_walk {am af : Addr} {N : Nat} (ts : List ByteArray) (v : Value) (s : ByteArray) (hs : s.size ≤ maxLen) (w : World) (hS : Sent am af N w)
    (hts : StrSl w v ts) (hlen : ts.length ≤ maxLen) (hz : ∀ t ∈ ts, t.size ≤ maxLen) :
    Calls Tryd.prog 4 #[v, .string s] w fun e w' => e = .returned (.bool true) ∧ Below w.heap.size w w' := by
  obtain ⟨A, hA, -, hca⟩ := cut_as s hs
  have HCA := Lib.hid hca
  have ham : A.size ≤ maxLen := by unfold maxLen; omega
  have HTS := Lib.hid hts
  have hfl := fewL_len ts
  obtain ⟨F, hF⟩ : ∃ F, F = fewL ts := ⟨_, rfl⟩
  have hfew : ∀ W, StrSl W v ts → Calls Tryd.prog 18 #[v] W fun e w' => (∃ v', e = .returned v' ∧ StrSl w' v' F) ∧ Below W.heap.size W w' := fun W h => by rw [hF]; exact few_any ts v W hlen hz h
  rw [← hF] at hfl
  have HFEW := Lib.hid hfew
  have hflm : F.length ≤ maxLen := by unfold maxLen; omega
  have HFLM := Lib.hid hflm
  obtain ⟨X, EX, hX⟩ := listV_tuple F
  have hpl : ∀ (l : Value) W, StrSl W l F → Calls Tryd.prog 21 #[l] W fun e w' => e = .returned (.tuple #[.string X, .int .i64 EX]) ∧ Below W.heap.size W w' := fun l W h => by rw [← hX]; exact putList_any F l W hflm h
  have hrl : ∀ (l : Value) W, StrSl W l F → Calls Tryd.prog 22 #[l] W fun e w' => e = .returned (.tuple #[.string X, .int .i64 EX]) ∧ Below W.heap.size W w' := fun l W h => by rw [← hX]; exact refPutList_any F l W hflm h
  obtain ⟨p, q, ET, hT⟩ := textOut_tuple A
  have hgt : ∀ W, Sent am af N W → Calls Tryd.prog 23 #[.string A] W fun e w' => e = .returned (.tuple #[.string p, .string q, .int .i64 ET]) ∧ Below W.heap.size W w' := fun W h => by rw [← hT]; exact getText_any A ham W h
  have hrt : ∀ W, Calls Tryd.prog 24 #[.string A] W fun e w' => e = .returned (.tuple #[.string p, .string q, .int .i64 ET]) ∧ Below W.heap.size W w' := fun W => by rw [← hT]; exact refGetText_any A ham W
  obtain ⟨L, r, EL, hL, hgl, hrgl⟩ := list_out A ham
  have HPL := Lib.hid hpl
  have HRL := Lib.hid hrl
  have HGT := Lib.hid hgt
  have HRT := Lib.hid hrt
  have HGL := Lib.hid (hgl am af N)
  have HRGL := Lib.hid hrgl
  have HL := Lib.hid hL
  have hpt : ∀ (t : ByteArray), ∃ (Y : ByteArray) (EY : Int), (∀ W, Calls Tryd.prog 19 #[.string t] W fun e w' => e = .returned (.tuple #[.string Y, .int .i64 EY]) ∧ Below W.heap.size W w') ∧
      (∀ W, Calls Tryd.prog 20 #[.string t] W fun e w' => e = .returned (.tuple #[.string Y, .int .i64 EY]) ∧ Below W.heap.size W w') := fun t => by
    obtain ⟨Y, EY, hY⟩ := putsV_tuple [] [t]
    exact ⟨Y, EY, fun W => by rw [← hY]; exact putText_any t W, fun W => by rw [← hY]; exact refPutText_any t W⟩
  have HPT := Lib.hid hpt
  clear hca hts hlen hz hF hfew hflm hs ham hX hpl hrl hT hgt hrt hgl hrgl hL hpt
  go_enter Tryd.func4, Tryd.ntmps4
  go_wp2_with fail
  refine (shown_any _ hS).mono ?_
  rintro e w1 ⟨rfl, hbw⟩
  go_wp2_with fail
  with_reducible refine (HFEW.out _ (HTS.out.below hbw)).mono ?_
  rintro e w2 ⟨⟨l, rfl, hl⟩, hb⟩
  replace hbw := hbw.trans (hb.mono hbw.size)
  have Hl := Lib.hid hl
  clear hb
  have hcase : (∃ a c, l = .slice a 0 c) ∨ ∃ g o c n t, l = .slice (some ⟨g, o, none⟩) n c ∧ 0 < n ∧ n ≤ 110 ∧ w2.cell? ⟨g, o, none⟩ = some (.string t) := by
    rcases hl with ⟨a, c, rfl, h0⟩ | ⟨g, o, c, rfl, hg, hcl⟩
    · exact .inl ⟨a, c, rfl⟩
    · by_cases h0 : F.length = 0
      · exact .inl ⟨_, c, by rw [h0]⟩
      · refine .inr ⟨g, o, c, F.length, _, rfl, by omega, hfl, hcl 0 (by omega)⟩
  clear hl hfl
  rcases hcase with ⟨a, c, rfl⟩ | ⟨g, o, c, n, t, rfl, h0, h110, hcell⟩
  · obtain ⟨Y, EY, hp1, hp2⟩ := HPT.out { data := #[] }
    have HP1 := Lib.hid hp1
    have HP2 := Lib.hid hp2
    clear hp1 hp2
    go_wp2_with fail
    with_reducible refine (HP1.out _).mono ?_
    rintro e w' ⟨rfl, hb⟩
    replace Hl := Lib.hid (Hl.out.below hb)
    replace hbw := hbw.trans (hb.mono hbw.size)
    clear hb
    go_wp2_with fail
    with_reducible refine (HP2.out _).mono ?_
    rintro e w' ⟨rfl, hb⟩
    replace Hl := Lib.hid (Hl.out.below hb)
    replace hbw := hbw.trans (hb.mono hbw.size)
    clear hb
    go_wp2_with fail
    with_reducible refine (HPL.out _ _ Hl.out).mono ?_
    rintro e w' ⟨rfl, hb⟩
    replace Hl := Lib.hid (Hl.out.below hb)
    replace hbw := hbw.trans (hb.mono hbw.size)
    clear hb
    go_wp2_with fail
    with_reducible refine (HRL.out _ _ Hl.out).mono ?_
    rintro e w' ⟨rfl, hb⟩
    replace Hl := Lib.hid (Hl.out.below hb)
    replace hbw := hbw.trans (hb.mono hbw.size)
    clear hb
    go_wp2_with fail
    clear Hl
    with_reducible refine (HCA.out _).mono ?_
    rintro e w' ⟨rfl, rfl⟩
    go_wp2_with fail
    with_reducible refine (HGT.out _ (hS.on hbw)).mono ?_
    rintro e w' ⟨rfl, hb⟩
    replace hbw := hbw.trans (hb.mono hbw.size)
    clear hb
    go_wp2_with fail
    with_reducible refine (HCA.out _).mono ?_
    rintro e w' ⟨rfl, rfl⟩
    go_wp2_with fail
    with_reducible refine (HRT.out _).mono ?_
    rintro e w' ⟨rfl, hb⟩
    replace hbw := hbw.trans (hb.mono hbw.size)
    clear hb
    go_wp2_with fail
    with_reducible refine (HCA.out _).mono ?_
    rintro e w' ⟨rfl, rfl⟩
    go_wp2_with fail
    with_reducible refine (HGL.out _ (hS.on hbw)).mono ?_
    rintro e w' ⟨⟨x, rfl, hx⟩, hb⟩
    replace hbw := hbw.trans (hb.mono hbw.size)
    have Hx := Lib.hid hx
    clear hb hx
    go_wp2_with fail
    with_reducible refine (HCA.out _).mono ?_
    rintro e w' ⟨rfl, rfl⟩
    go_wp2_with fail
    with_reducible refine (HRGL.out _).mono ?_
    rintro e w' ⟨⟨y, rfl, hy⟩, hb⟩
    replace Hx := Lib.hid (Hx.out.below hb)
    replace hbw := hbw.trans (hb.mono hbw.size)
    have Hy := Lib.hid hy
    clear hb hy
    go_wp2_with fail
    with_reducible refine (texts_same L x y _ HL.out Hx.out Hy.out).mono ?_
    rintro e w' ⟨rfl, hb⟩
    replace hbw := hbw.trans (hb.mono hbw.size)
    clear hb
    go_wp2_with fail
    go_ret
    exact ⟨rfl, hbw⟩
  · obtain ⟨Y, EY, hp1, hp2⟩ := HPT.out t
    have HP1 := Lib.hid hp1
    have HP2 := Lib.hid hp2
    clear hp1 hp2
    go_wp2_with fail
    with_reducible refine (HP1.out _).mono ?_
    rintro e w' ⟨rfl, hb⟩
    replace Hl := Lib.hid (Hl.out.below hb)
    replace hbw := hbw.trans (hb.mono hbw.size)
    clear hb
    go_wp2_with fail
    with_reducible refine (HP2.out _).mono ?_
    rintro e w' ⟨rfl, hb⟩
    replace Hl := Lib.hid (Hl.out.below hb)
    replace hbw := hbw.trans (hb.mono hbw.size)
    clear hb
    go_wp2_with fail
    with_reducible refine (HPL.out _ _ Hl.out).mono ?_
    rintro e w' ⟨rfl, hb⟩
    replace Hl := Lib.hid (Hl.out.below hb)
    replace hbw := hbw.trans (hb.mono hbw.size)
    clear hb
    go_wp2_with fail
    with_reducible refine (HRL.out _ _ Hl.out).mono ?_
    rintro e w' ⟨rfl, hb⟩
    replace Hl := Lib.hid (Hl.out.below hb)
    replace hbw := hbw.trans (hb.mono hbw.size)
    clear hb
    go_wp2_with fail
    clear Hl
    with_reducible refine (HCA.out _).mono ?_
    rintro e w' ⟨rfl, rfl⟩
    go_wp2_with fail
    with_reducible refine (HGT.out _ (hS.on hbw)).mono ?_
    rintro e w' ⟨rfl, hb⟩
    replace hbw := hbw.trans (hb.mono hbw.size)
    clear hb
    go_wp2_with fail
    with_reducible refine (HCA.out _).mono ?_
    rintro e w' ⟨rfl, rfl⟩
    go_wp2_with fail
    with_reducible refine (HRT.out _).mono ?_
    rintro e w' ⟨rfl, hb⟩
    replace hbw := hbw.trans (hb.mono hbw.size)
    clear hb
    go_wp2_with fail
    with_reducible refine (HCA.out _).mono ?_
    rintro e w' ⟨rfl, rfl⟩
    go_wp2_with fail
    with_reducible refine (HGL.out _ (hS.on hbw)).mono ?_
    rintro e w' ⟨⟨x, rfl, hx⟩, hb⟩
    replace hbw := hbw.trans (hb.mono hbw.size)
    have Hx := Lib.hid hx
    clear hb hx
    go_wp2_with fail
    with_reducible refine (HCA.out _).mono ?_
    rintro e w' ⟨rfl, rfl⟩
    go_wp2_with fail
    with_reducible refine (HRGL.out _).mono ?_
    rintro e w' ⟨⟨y, rfl, hy⟩, hb⟩
    replace Hx := Lib.hid (Hx.out.below hb)
    replace hbw := hbw.trans (hb.mono hbw.size)
    have Hy := Lib.hid hy
    clear hb hy
    go_wp2_with fail
    with_reducible refine (texts_same L x y _ HL.out Hx.out Hy.out).mono ?_
    rintro e w' ⟨rfl, hb⟩
    replace hbw := hbw.trans (hb.mono hbw.size)
    clear hb
    go_wp2_with fail
    go_ret
    exact ⟨rfl, hbw⟩
end Go.Proofs.YtbodkmeeceifoaaDoor
