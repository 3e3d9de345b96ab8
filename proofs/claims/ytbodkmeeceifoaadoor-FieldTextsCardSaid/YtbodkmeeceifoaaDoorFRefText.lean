/- The page's own answers for layer 2: PutText, PutList, GetText. -/
import Derived.Test.YtbodkmeeceifoaaDoorFLawsM
import Derived.Test.YtbodkmeeceifoaaDoorFRefGet
namespace Go.Proofs.YtbodkmeeceifoaaDoor
open Go.RowKit

theorem refPutText_ok (t : ByteArray) (h : t.size ≤ 400) (w : World) :
    Calls Tryd.prog 20 #[.string t] w fun e w' => e = .returned (.tuple #[.string (textB t), .int .i64 0]) ∧ Below w.heap.size w w' := by
  have hp9 := putL_len9 t.size
  rw [← putB_size] at hp9
  have hput : ∀ (x : Int) W, x = t.size → Calls Tryd.prog 15 #[.int .u64 x] W fun e w' => e = .returned (.string (putB t.size)) ∧ Below W.heap.size W w' := fun x W hx => refPut_int x t.size hx (by omega) W
  unfold textB
  obtain ⟨P, hP⟩ : ∃ P, putB t.size = P := ⟨_, rfl⟩
  rw [hP] at hp9 hput ⊢
  have HPUT := Lib.hid hput
  clear hP hput
  go_enter Tryd.func20, Tryd.ntmps20
  go_wp2_with fail
  with_reducible refine (HPUT.out _ _ rfl).mono ?_
  rintro e w1 ⟨rfl, hb⟩
  go_wp2_with fail
  go_ret2
  exact ⟨rfl, hb⟩
theorem refPutText_no (t : ByteArray) (h : 400 < t.size) (w : World) :
    Calls Tryd.prog 20 #[.string t] w fun e w' => e = .returned (.tuple #[.string { data := #[] }, .int .i64 21]) ∧ Below w.heap.size w w' := by
  go_enter Tryd.func20, Tryd.ntmps20
  go_wp2_with fail
  go_ret2
  exact ⟨rfl, Below.refl _ _⟩
theorem putsV_long (t : ByteArray) (h : 400 < t.size) : putsV [] [t] = .tuple #[.string { data := #[] }, .int .i64 21] := by
  have hf : fits [t] = false := by simp [fits]; omega
  unfold putsV
  rw [hf]
  rfl
theorem refPutText_any (t : ByteArray) (w : World) : Calls Tryd.prog 20 #[.string t] w fun e w' => e = .returned (putsV [] [t]) ∧ Below w.heap.size w w' := by
  by_cases h : t.size ≤ 400
  · rw [putsV_one t h]
    exact refPutText_ok t h w
  · rw [putsV_long t (by omega)]
    exact refPutText_no t (by omega) w

theorem textB_409 (t : ByteArray) (h : t.size ≤ 400) : (textB t).size ≤ 409 := by
  have hp9 := putL_len9 t.size
  rw [← putB_size] at hp9
  unfold textB
  rw [ByteArray.size_append]
  omega
theorem app_texts (S t : ByteArray) (l : List UInt8) (ts : List ByteArray) (h : S.data.toList = l ++ textsL ts) : (S ++ textB t).data.toList = l ++ textsL (ts ++ [t]) := by
  unfold textB
  rw [app_list, app_list, putB_list, h, textsL_snoc]
  simp
set_option maxHeartbeats 1000000 in
set_option maxRecDepth 100000 in
theorem refList_some (ts : List ByteArray) (g o c : Nat) (w : World) (hn : ts.length ≤ 100) (hg : g < w.heap.size)
    (hc : ∀ j, j < ts.length → w.cell? ⟨g, o + j, none⟩ = some (.string (ts.getD j { data := #[] }))) :
    Calls Tryd.prog 22 #[.slice (some ⟨g, o, none⟩) ts.length c] w fun e w' => e = .returned (putsV (putL ts.length) ts) ∧ Below w.heap.size w w' := by
  obtain ⟨n, hnn⟩ : ∃ n, n = ts.length := ⟨_, rfl⟩
  have HNN := Lib.hid hnn
  have HC := Lib.hid hc
  rw [← hnn] at hn ⊢
  have hp9 := putL_len9 n
  rw [← putB_size] at hp9
  have hput : ∀ (x : Int) W, x = n → Calls Tryd.prog 15 #[.int .u64 x] W fun e w' => e = .returned (.string (putB n)) ∧ Below W.heap.size W w' := fun x W hx => refPut_int x n hx (by omega) W
  have hpl := putB_list n
  obtain ⟨P, hP⟩ : ∃ P, putB n = P := ⟨_, rfl⟩
  rw [hP] at hp9 hput hpl
  have HPUT := Lib.hid hput
  have HPL := Lib.hid hpl
  clear hc hnn hP hput hpl
  go_enter Tryd.func22, Tryd.ntmps22
  go_wp2_with fail
  with_reducible refine (HPUT.out _ _ rfl).mono ?_
  rintro e w1 ⟨rfl, hb1⟩
  go_wp2_with fail
  go_loopw [4, 5] (fun v i wr => ∃ (k : Nat) (S : ByteArray), k ≤ n ∧ i = .int .i64 k ∧ v = .string S ∧ Hid (S.data.toList = putL n ++ textsL (ts.take k)) ∧ Hid (∀ t ∈ ts.take k, t.size ≤ 400) ∧ S.size ≤ 9 + 409 * k ∧ Below w.heap.size w wr)
    (fun _ i _ => n - (intOf i).toNat)
  case atStart => exact ⟨0, P, Nat.zero_le _, rfl, rfl, Lib.hid (by rw [HPL.out]; simp [textsL]), Lib.hid (by simp), by omega, hb1⟩
  case round =>
    obtain ⟨k, S, hk, rfl, rfl, HS, HALL, hsz, hbel⟩ := hrel
    clear hb1
    by_cases hlt : k < n
    · obtain ⟨t, ht⟩ : ∃ t, t = ts.getD k { data := #[] } := ⟨_, rfl⟩
      have hck : wr.cell? ⟨g, o + k, none⟩ = some (.string t) := by
        rw [ht]
        exact (hbel.cell (p := ⟨g, o + k, none⟩) hg).trans (HC.out k (by have := HNN.out; omega))
      have htk : ts.take (k + 1) = ts.take k ++ [t] := by
        have hkl : k < ts.length := by have := HNN.out; omega
        rw [List.take_succ_eq_append_getElem hkl, ht, List.getD_eq_getElem?_getD, List.getElem?_eq_getElem hkl]
        rfl
      have HTK := Lib.hid htk
      have HT := Lib.hid ht
      clear htk ht
      by_cases h4 : t.size ≤ 400
      · have hts := textB_409 t h4
        have hnx := app_texts S t _ _ HS.out
        have hpt : ∀ W, Calls Tryd.prog 20 #[.string t] W fun e w' => e = .returned (.tuple #[.string (textB t), .int .i64 0]) ∧ Below W.heap.size W w' := fun W => refPutText_ok t h4 W
        obtain ⟨B, hB⟩ : ∃ B, textB t = B := ⟨_, rfl⟩
        rw [hB] at hts hnx hpt
        have HPT := Lib.hid hpt
        have HNX := Lib.hid hnx
        clear hpt hnx hB
        go_wp2_with fail
        with_reducible refine (HPT.out _).mono ?_
        rintro e w2 ⟨rfl, hb2⟩
        have hb3 := hbel.trans (hb2.mono hbel.size)
        clear hb2
        go_wp2_with fail
        go_roundw
        case rel =>
          refine ⟨k + 1, S ++ B, by omega, by go_num, rfl, Lib.hid (by rw [HNX.out, HTK.out]), Lib.hid ?_, by rw [ByteArray.size_append]; omega, hb3⟩
          rw [HTK.out]
          intro u hu
          rcases List.mem_append.1 hu with hu | hu
          · exact HALL.out u hu
          · obtain rfl : u = t := by simpa using hu
            exact h4
        case measure => simp [intOf]; omega
      · have hfit : fits ts = false := by
          have hkl : k < ts.length := by have := HNN.out; omega
          have hm : t ∈ ts := by
            rw [HT.out, List.getD_eq_getElem?_getD, List.getElem?_eq_getElem hkl]
            exact List.getElem_mem hkl
          unfold fits
          rw [List.all_eq_false]
          exact ⟨t, hm, by simpa using h4⟩
        have HF := Lib.hid hfit
        clear hfit
        go_wp2_with fail
        with_reducible refine (refPutText_no t (by omega) _).mono ?_
        rintro e w2 ⟨rfl, hb2⟩
        have hb3 := hbel.trans (hb2.mono hbel.size)
        clear hb2
        go_wp2_with fail
        go_ret2
        refine ⟨?_, hb3⟩
        unfold putsV
        rw [HF.out]
        rfl
    · have hkl : ts.take k = ts := List.take_of_length_le (by have := HNN.out; omega)
      have hfit : fits ts = true := by
        unfold fits
        rw [List.all_eq_true]
        intro u hu
        have := HALL.out u (by rw [hkl]; exact hu)
        simpa using this
      have hS := HS.out
      rw [hkl] at hS
      have hv : putsV (putL n) ts = .tuple #[.string S, .int .i64 0] := by
        unfold putsV
        rw [if_pos hfit, ← hS]
      have HV := Lib.hid hv
      clear hv hS hfit hkl
      go_wp2_with fail
      go_ret2
      exact ⟨by rw [HV.out]; rfl, hbel⟩
theorem refList_none (a : Option Addr) (c : Nat) (w : World) : Calls Tryd.prog 22 #[.slice a 0 c] w fun e w' => e = .returned (putsV (putL 0) []) ∧ Below w.heap.size w w' := by
  have hv : putsV (putL 0) [] = .tuple #[.string (putB 0), .int .i64 0] := rfl
  have hput : ∀ W, Calls Tryd.prog 15 #[.int .u64 0] W fun e w' => e = .returned (.string (putB 0)) ∧ Below W.heap.size W w' := fun W => refPut_int 0 0 rfl (by omega) W
  rw [hv]
  obtain ⟨P, hP⟩ : ∃ P, putB 0 = P := ⟨_, rfl⟩
  rw [hP] at hput ⊢
  have HPUT := Lib.hid hput
  clear hP hput hv
  go_enter Tryd.func22, Tryd.ntmps22
  go_wp2_with fail
  with_reducible refine (HPUT.out _).mono ?_
  rintro e w1 ⟨rfl, hb1⟩
  go_wp2_with fail
  refine wp_loop_rounds 1 ?_
  rw [rounds_succ]
  go_wp2
  go_ret2
  exact ⟨rfl, hb1⟩
theorem refPutList_any (ts : List ByteArray) (v : Value) (w : World) (hn : ts.length ≤ maxLen) (h : StrSl w v ts) :
    Calls Tryd.prog 22 #[v] w fun e w' => e = .returned (listV ts) ∧ Below w.heap.size w w' := by
  unfold maxLen at hn
  by_cases h1 : 100 < ts.length
  · obtain ⟨a, c, rfl⟩ : ∃ a c, v = .slice a ts.length c := by
      rcases h with ⟨a, c, rfl, rfl⟩ | ⟨g, o, c, rfl, _⟩
      · exact ⟨a, c, rfl⟩
      · exact ⟨_, c, rfl⟩
    unfold listV
    rw [if_pos h1]
    obtain ⟨n, hnn⟩ : ∃ n, n = ts.length := ⟨_, rfl⟩
    rw [← hnn] at h1 hn ⊢
    clear h hnn
    go_enter Tryd.func22, Tryd.ntmps22
    go_wp2_with fail
    go_ret2
    exact ⟨rfl, Below.refl _ _⟩
  · unfold listV
    rw [if_neg h1]
    rcases h with ⟨a, c, rfl, rfl⟩ | ⟨g, o, c, rfl, h2, h3⟩
    · exact refList_none a c w
    · exact refList_some ts g o c w (by omega) h2 h3

set_option maxHeartbeats 400000 in
set_option maxRecDepth 100000 in
theorem refGetText_any (s : ByteArray) (hs : s.size ≤ maxLen) (w : World) :
    Calls Tryd.prog 24 #[.string s] w fun e w' => e = .returned (TextOut s) ∧ Below w.heap.size w w' := by
  have hget : ∀ W, Calls Tryd.prog 13 #[.string s] W fun e w' => e = .returned (GetOut s) ∧ Below W.heap.size W w' := fun W => refGet_any s hs W
  unfold maxLen at hs
  cases hg : getL s.data.toList with
  | more =>
    have h1 : GetOut s = .tuple #[.int .u64 0, .string s, .int .i64 20] := by unfold GetOut; rw [hg]
    have h2 : TextOut s = .tuple #[.string { data := #[] }, .string s, .int .i64 20] := by unfold TextOut textL cntL; rw [hg]
    rw [h1] at hget
    rw [h2]
    have HGET := Lib.hid hget
    clear hget h1 h2 hg
    go_enter Tryd.func24, Tryd.ntmps24
    go_wp2_with fail
    with_reducible refine (HGET.out _).mono ?_
    rintro e w1 ⟨rfl, hb⟩
    go_wp2_with fail
    go_ret3
    exact ⟨rfl, hb⟩
  | bad =>
    have h1 : GetOut s = .tuple #[.int .u64 0, .string s, .int .i64 21] := by unfold GetOut; rw [hg]
    have h2 : TextOut s = .tuple #[.string { data := #[] }, .string s, .int .i64 21] := by unfold TextOut textL cntL; rw [hg]
    rw [h1] at hget
    rw [h2]
    have HGET := Lib.hid hget
    clear hget h1 h2 hg
    go_enter Tryd.func24, Tryd.ntmps24
    go_wp2_with fail
    with_reducible refine (HGET.out _).mono ?_
    rintro e w1 ⟨rfl, hb⟩
    go_wp2_with fail
    go_ret3
    exact ⟨rfl, hb⟩
  | ok v k =>
    have h1 : GetOut s = .tuple #[.int .u64 (v : Int), .string (s.extract k s.size), .int .i64 0] := by unfold GetOut; rw [hg]
    have hkl : k ≤ s.size := by have := (put_get hg).2.2.1; simpa using this
    have hv9 := (put_of_get s v k hg).2
    have hrs : (s.extract k s.size).size = s.size - k := by simp
    rw [h1] at hget
    have e1 := ext_ext s k v
    have e2 := ext_rest s k v
    rw [← hrs] at e2
    have hsl : s.data.toList.length = s.size := by simp
    by_cases h4 : 400 < v
    · have h2 : TextOut s = .tuple #[.string { data := #[] }, .string s, .int .i64 21] := by
        unfold TextOut textL cntL
        rw [hg]
        dsimp only
        rw [if_pos h4]
      rw [h2]
      obtain ⟨R, hR⟩ : ∃ R, s.extract k s.size = R := ⟨_, rfl⟩
      rw [hR] at hget hrs
      have HGET := Lib.hid hget
      clear hget h1 h2 hg e1 e2 hR hsl
      go_enter Tryd.func24, Tryd.ntmps24
      go_wp2_with fail
      with_reducible refine (HGET.out _).mono ?_
      rintro e w1 ⟨rfl, hb⟩
      go_wp2_with fail
      go_ret3
      exact ⟨rfl, hb⟩
    · by_cases h5 : s.size < k + v
      · have h2 : TextOut s = .tuple #[.string { data := #[] }, .string s, .int .i64 20] := by
          unfold TextOut textL cntL
          rw [hg]
          dsimp only
          rw [if_neg h4]
          dsimp only
          rw [if_pos (by omega)]
        rw [h2]
        obtain ⟨R, hR⟩ : ∃ R, s.extract k s.size = R := ⟨_, rfl⟩
        rw [hR] at hget hrs
        have hrv : R.size < v := by omega
        have hrm : R.size ≤ s.size := by omega
        have HGET := Lib.hid hget
        clear hget h1 h2 hg e1 e2 hR hsl hrs h5 hkl
        go_enter Tryd.func24, Tryd.ntmps24
        go_wp2_with fail
        with_reducible refine (HGET.out _).mono ?_
        rintro e w1 ⟨rfl, hb⟩
        go_wp2_with fail
        go_ret3
        exact ⟨rfl, hb⟩
      · have h2 : TextOut s = .tuple #[.string (s.extract k (k + v)), .string (s.extract (k + v) s.size), .int .i64 0] := by
          unfold TextOut textL cntL
          rw [hg]
          dsimp only
          rw [if_neg h4]
          dsimp only
          rw [if_neg (by omega)]
        rw [h2, ← e1, ← e2]
        obtain ⟨R, hR⟩ : ∃ R, s.extract k s.size = R := ⟨_, rfl⟩
        rw [hR] at hget hrs ⊢
        have hrv : v ≤ R.size := by omega
        have hrm : R.size ≤ s.size := by omega
        have HGET := Lib.hid hget
        clear hget h1 h2 hg e1 e2 hR hsl hrs h5 hkl
        go_enter Tryd.func24, Tryd.ntmps24
        go_wp2_with fail
        with_reducible refine (HGET.out _).mono ?_
        rintro e w1 ⟨rfl, hb⟩
        go_wp2_with fail
        go_quiet (fail)
        go_wp2_with fail
        go_ret3
        exact ⟨rfl, bel_drewN hb _⟩
end Go.Proofs.YtbodkmeeceifoaaDoor
