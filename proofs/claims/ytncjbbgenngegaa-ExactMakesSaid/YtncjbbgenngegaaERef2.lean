
/- The page's own answers for layer 6: Count, put, Of, Add, Merge. -/
import Derived.Test.YtncjbbgenngegaaERef
import Derived.Laws.ResultCell
import Derived.Laws.Rows
import Derived.RangeFuncBox
namespace Go.Proofs.Ytncjbbgenngegaa
open Go.RowKit

set_option maxHeartbeats 2000000 in
set_option maxRecDepth 100000 in
theorem eCount_any (L : List Nat) (v : Value) (w : World) (h : NumSl w v L) (hn : L.length ≤ 1000) :
    Calls Try.prog 21 #[.agg #[v]] w fun e w' => e = .returned (nV (countN L)) ∧ Below w.heap.size w w' := by
  have R1 := Lib.hid (fun W a h => eRight_any L a W h hn)
  have HV0 := Lib.hid h
  obtain ⟨ao, c, rfl, hc⟩ := h.shape
  obtain ⟨n, hnn⟩ : ∃ n, n = L.length := ⟨_, rfl⟩
  rw [← hnn] at hn HV0 ⊢
  clear hc h
  obtain ⟨w1, hw1, hb1, hbox⟩ := box_new w (.slice ao n c) 24
  have hv1 := HV0.out.below hb1
  cases hr : rightN L with
  | false =>
    have hv : countN L = 0 := by unfold countN; rw [hr]; rfl
    rw [hr] at R1
    rw [hv]
    clear hv hr hnn
    have c0 := hbox w1 (Below.refl _ _)
    go_enter Try.func21, Try.ntmps21
    go_wp2_with fail
    with_reducible refine (R1.out _ _ hv1).mono ?_
    rintro e w2 ⟨rfl, hb⟩
    have hb2 := hb1.trans (hb.mono hb1.size)
    go_wp2_with fail
    go_ret
    exact ⟨rfl, hb2⟩
  | true =>
    have hv : countN L = n := by unfold countN; rw [hr, hnn]; rfl
    rw [hr] at R1
    rw [hv]
    clear hv hr hnn
    have c0 := hbox w1 (Below.refl _ _)
    go_enter Try.func21, Try.ntmps21
    go_wp2_with fail
    with_reducible refine (R1.out _ _ hv1).mono ?_
    rintro e w2 ⟨rfl, hb⟩
    have hb2 := hb1.trans (hb.mono hb1.size)
    have c1 := hbox w2 hb
    go_wp2_with fail
    go_ret
    exact ⟨rfl, hb2⟩
theorem owns_below {B n : Nat} {w w' : World} {v : Value} {xs : List Value} (h : w.ownsRow B 25 1 v n xs) (hb : Below w.heap.size w w') : w'.ownsRow B 25 1 v n xs :=
  h.kept (w' := w') (row := none) ⟨hb.os, hb.tape, hb.output, hb.size, fun i hi _ => hb.block i hi⟩ (Classical.em _)
theorem owns_mono {B B' n : Nat} {w : World} {v : Value} {xs : List Value} (h : w.ownsRow B 25 1 v n xs) (hB : B' ≤ B) : w.ownsRow B' 25 1 v n xs := by
  obtain ⟨h1, h2 | ⟨g, cap, cur, e1, e2, e3⟩⟩ := h
  · exact ⟨h1, .inl h2⟩
  · exact ⟨h1, .inr ⟨g, cap, cur, e1, Nat.le_trans hB e2, e3⟩⟩
theorem srcN_one (w : World) (x : Nat) : SrcN (w.alloc (Obj.cells #[nV x] 25)) (.slice (some ⟨w.heap.size, 0, none⟩) 1 1) 1 (numL [x]) :=
  .inr ⟨_, _, rfl, rfl, World.news_of_block (cs := #[nV x]) (t := 25) (fr := (0, 0)) (heap_alloc_new w _), numL_one _⟩
theorem put_drop (x : Nat) {L : List Nat} {k : Nat} (hk : k < L.length) : putN x (L.drop k) = if L[k] < x then L[k] :: putN x (L.drop (k + 1)) else if L[k] = x then L.drop k else x :: L.drop k := by
  rw [List.drop_eq_getElem_cons hk]
  rfl
theorem put_owns {w : World} {B : Nat} {v : Value} {x k n : Nat} {L : List Nat} (hg : putN x L = L.take k ++ x :: L.drop k) (hk : k ≤ n) (hn : n = L.length)
    (h : w.ownsRow B 25 1 v (0 + k + 1 + (n - k)) ([] ++ numL (L.take k) ++ numL [x] ++ numL (L.drop k))) : w.ownsRow B 25 1 v (putN x L).length (numL (putN x L)) := by
  rw [hg]
  have e1 : (L.take k ++ x :: L.drop k).length = 0 + k + 1 + (n - k) := by
    rw [List.length_append, List.length_cons, List.length_take, List.length_drop]; omega
  have e2 : numL (L.take k ++ x :: L.drop k) = [] ++ numL (L.take k) ++ numL [x] ++ numL (L.drop k) := by
    rw [numL_app, show x :: L.drop k = [x] ++ L.drop k from rfl, numL_app]; simp
  rw [e1, e2]
  exact h
set_option maxHeartbeats 2000000 in
set_option maxRecDepth 100000 in
theorem ePut_any (B : Nat) (L : List Nat) (x : Nat) (v : Value) (w : World) (hown : w.ownsRow B 25 1 v L.length (numL L)) (hB : B ≤ w.heap.size) (hn : L.length ≤ 1000) :
    Calls Try.prog 29 #[v, nV x] w fun e w' => (∃ v', e = .returned v' ∧ w'.ownsRow B 25 1 v' (putN x L).length (numL (putN x L))) ∧ Below w.heap.size w w' := by
  have hsl := numSl_of_owns hown
  have HT := Lib.hid (fun k hk => num_take hsl k hk)
  have HD := Lib.hid (fun k hk => num_drop hsl k hk)
  obtain ⟨ao, c, rfl, hc⟩ := hsl.shape
  obtain ⟨n, hnn⟩ : ∃ n, n = L.length := ⟨_, rfl⟩
  have HO := Lib.hid hown
  have HC := Lib.hid hc
  have HN := Lib.hid hnn
  have h0 : Hid (putN x L = L.take 0 ++ putN x (L.drop 0)) := by show putN x L = L.take 0 ++ putN x (L.drop 0); rw [List.take_zero, List.drop_zero, List.nil_append]
  rw [← hnn] at hn HO HT HD ⊢
  clear hc hnn hsl hown
  go_enter Try.func29, Try.ntmps29
  go_wp2_with fail
  go_loopw [5] (fun i wr => ∃ k : Nat, k ≤ n ∧ i = .int .i64 k ∧ Hid (putN x L = L.take k ++ putN x (L.drop k)) ∧ Below w.heap.size w wr) (fun i _ => n - (intOf i).toNat)
  case atStart => exact ⟨0, Nat.zero_le _, rfl, h0, Below.refl _ _⟩
  case round =>
    obtain ⟨k, hk, rfl, hs, hbel⟩ := hrel
    by_cases hlt : k < n
    · have hkl : k < L.length := by have := HN.out; omega
      obtain ⟨g, o, rfl, hc0⟩ := HC.out k hkl
      have c0 := hc0 wr hbel
      have hst := put_drop x hkl
      have htk : L.take (k + 1) = L.take k ++ [L[k]] := List.take_succ_eq_append_getElem hkl
      obtain ⟨y, hy⟩ : ∃ y, L[k] = y := ⟨_, rfl⟩
      rw [hy] at c0 hst htk
      have HS := Lib.hid hst
      have HTK := Lib.hid htk
      clear hst hy hc0 htk
      by_cases hxy : y < x
      · have hs2 : Hid (putN x L = L.take (k + 1) ++ putN x (L.drop (k + 1))) := by
          show putN x L = L.take (k + 1) ++ putN x (L.drop (k + 1))
          rw [hs.out, HS.out, if_pos hxy, HTK.out]
          simp
        go_wp2_with fail
        go_roundw
        case rel => exact ⟨k + 1, by omega, by go_num, hs2, hbel⟩
        case measure => simp [intOf]; omega
      · by_cases hxe : y = x
        · have hv : putN x L = L := by rw [hs.out, HS.out, if_neg hxy, if_pos hxe, List.take_append_drop]
          have hr : wr.ownsRow B 25 1 (.slice (some ⟨g, o, none⟩) n c) (putN x L).length (numL (putN x L)) := by
            rw [hv, ← HN.out]
            exact owns_below HO.out hbel
          have HR := Lib.hid hr
          subst hxe
          clear hv hr
          go_wp2_with fail
          go_ret
          exact ⟨⟨_, rfl, HR.out⟩, hbel⟩
        · have hg2 : Hid (putN x L = L.take k ++ x :: L.drop k) := by
            show putN x L = L.take k ++ x :: L.drop k
            rw [hs.out, HS.out, if_neg hxy, if_neg hxe]
          have hne : ¬ (y : Int) = (x : Int) := by omega
          have hbe : ((y : Int) == (x : Int)) = false := by simpa using hne
          obtain ⟨src1, hr1, hv1⟩ := HT.out k hk
          obtain ⟨src2, hr2, hv2⟩ := HD.out k hk
          have hs1 : SrcN wr src1 k (numL (L.take k)) := by
            have h := SrcN.of_num (hv1.below hbel)
            rwa [List.length_take, Nat.min_eq_left (by have := HN.out; omega)] at h
          have V1 := Lib.hid hs1
          have V2 := Lib.hid hv2
          have hnd : n - k = (L.drop k).length := by rw [List.length_drop, ← HN.out]
          have HND := Lib.hid hnd
          have hbs := hbel.size
          clear hv1 hv2 hs1 hnd
          go_wp2_with (at_builtin; first | (refine wpList_appN _ rfl (.tmp 34) (.tmp 37) rfl w.heap.size (.slice none 0 0) 0 [] rfl (World.ownsRow_nil _ _ _ _) src1 k (numL (L.take k)) rfl V1.out (by omega) (by omega) ?_; intro v1 w1 hown1 hgrow1; have hz1 := hgrow1.size; have HB1 : Below w.heap.size w w1 := hbel.grown hgrow1 (by omega) (fun k hk => by simp [Value.ownBlock] at hk); have HO1 := Lib.hid hown1; clear hown1 hgrow1) | (refine wpList_appN _ rfl (.tmp 38) (.tmp 40) rfl w.heap.size v1 (0 + k) ([] ++ numL (L.take k)) rfl (HO1.out.alloc _) (.slice (some ⟨w1.heap.size, 0, none⟩) 1 1) 1 (numL [x]) rfl (srcN_one w1 x) (by omega) (by simp; omega) ?_; intro v2 w2 hown2 hgrow2; have hz2 := hgrow2.size; have HB2 : Below w.heap.size w w2 := (HB1.alloc (by omega) _).grown hgrow2 (by simp; omega) (fun k hk => (HO1.out.lt _ hk).1); have HO2 := Lib.hid hown2; have hbs2 := HB2.size; clear hown2 hgrow2) | go_loud (refine wpList_appN _ rfl (.tmp 42) (.tmp 45) rfl w.heap.size v2 (0 + k + 1) ([] ++ numL (L.take k) ++ numL [x]) rfl HO2.out src2 (n - k) (numL (L.drop k)) rfl (by rw [HND.out]; exact SrcN.of_num (V2.out.below HB2)) (by omega) (by omega) ?_; intro v3 w4 hown3 hgrow3))
          go_ret
          exact ⟨⟨_, rfl, owns_mono (put_owns hg2.out hk HN.out hown3) hB⟩, HB2.grown hgrow3 (by omega) (fun k hk => (HO2.out.lt _ hk).1)⟩
    · have hg2 : Hid (putN x L = L.take k ++ x :: L.drop k) := by
        show putN x L = L.take k ++ x :: L.drop k
        have hd : L.drop k = [] := List.drop_eq_nil_of_le (by have := HN.out; omega)
        rw [hs.out, hd]
        rfl
      obtain ⟨src1, hr1, hv1⟩ := HT.out k hk
      obtain ⟨src2, hr2, hv2⟩ := HD.out k hk
      have hs1 : SrcN wr src1 k (numL (L.take k)) := by
        have h := SrcN.of_num (hv1.below hbel)
        rwa [List.length_take, Nat.min_eq_left (by have := HN.out; omega)] at h
      have V1 := Lib.hid hs1
      have V2 := Lib.hid hv2
      have hnd : n - k = (L.drop k).length := by rw [List.length_drop, ← HN.out]
      have HND := Lib.hid hnd
      have hbs := hbel.size
      clear hv1 hv2 hs1 hnd
      go_wp2_with (at_builtin; first | (refine wpList_appN _ rfl (.tmp 34) (.tmp 37) rfl w.heap.size (.slice none 0 0) 0 [] rfl (World.ownsRow_nil _ _ _ _) src1 k (numL (L.take k)) rfl V1.out (by omega) (by omega) ?_; intro v1 w1 hown1 hgrow1; have hz1 := hgrow1.size; have HB1 : Below w.heap.size w w1 := hbel.grown hgrow1 (by omega) (fun k hk => by simp [Value.ownBlock] at hk); have HO1 := Lib.hid hown1; clear hown1 hgrow1) | (refine wpList_appN _ rfl (.tmp 38) (.tmp 40) rfl w.heap.size v1 (0 + k) ([] ++ numL (L.take k)) rfl (HO1.out.alloc _) (.slice (some ⟨w1.heap.size, 0, none⟩) 1 1) 1 (numL [x]) rfl (srcN_one w1 x) (by omega) (by simp; omega) ?_; intro v2 w2 hown2 hgrow2; have hz2 := hgrow2.size; have HB2 : Below w.heap.size w w2 := (HB1.alloc (by omega) _).grown hgrow2 (by simp; omega) (fun k hk => (HO1.out.lt _ hk).1); have HO2 := Lib.hid hown2; have hbs2 := HB2.size; clear hown2 hgrow2) | go_loud (refine wpList_appN _ rfl (.tmp 42) (.tmp 45) rfl w.heap.size v2 (0 + k + 1) ([] ++ numL (L.take k) ++ numL [x]) rfl HO2.out src2 (n - k) (numL (L.drop k)) rfl (by rw [HND.out]; exact SrcN.of_num (V2.out.below HB2)) (by omega) (by omega) ?_; intro v3 w4 hown3 hgrow3))
      go_ret
      exact ⟨⟨_, rfl, owns_mono (put_owns hg2.out hk HN.out hown3) hB⟩, HB2.grown hgrow3 (by omega) (fun k hk => (HO2.out.lt _ hk).1)⟩
/-- A sketch in a cell, and a number: what is returned. -/
theorem results_exact {fn : Func} {p u : Tmp} (h : fn.results = #[.cell p 24, .tmp u]) (tmps : Array Value) (w : World) (g : Nat) (v : Value)
    (hp : tmps.getD p undef = .pointer (some ⟨g, 0, none⟩)) (hg : HasC w g 24 #[v]) : (results fn tmps).run Try.prog w = .ok (.tuple #[.agg #[v], tmps.getD u undef]) w := by
  rw [results_cell_tmp h, hp]
  simp only [asAddr, Sem.run_pure, Result.andThen_ok]
  rw [run_loadVar_row w g 24 24 #[v] (0, 0) _ hg Try.underlying24 rfl (by kernel_rfl)]
  rfl
/-- What Of answers, with a list that is its own. -/
def OfOut (B : Nat) (P : List Nat × Nat) (e : Ending) (W : World) : Prop :=
  ∃ v, e = .returned (.tuple #[.agg #[v], .int .i64 (P.2 : Int)]) ∧ W.ownsRow B 25 1 v P.1.length (numL P.1)
set_option maxHeartbeats 2000000 in
set_option maxRecDepth 100000 in
theorem eOf_any (L : List Nat) (v : Value) (w : World) (h : NumSl w v L) (hn : L.length ≤ 900) :
    Calls Try.prog 14 #[v] w fun e w' => OfOut w.heap.size (ofP L) e w' ∧ Below w.heap.size w w' := by
  obtain ⟨ao, c, rfl, hc⟩ := h.shape
  obtain ⟨n, hnn⟩ : ∃ n, n = L.length := ⟨_, rfl⟩
  have HC := Lib.hid hc
  have HN := Lib.hid hnn
  rw [← hnn] at hn ⊢
  have hcell := HasC.new w 24 #[.slice none 0 0]
  have hb1 := (Below.refl w.heap.size w).alloc (Nat.le_refl _) (Obj.cells #[.slice none 0 0] 24)
  obtain ⟨w1, hw1⟩ : ∃ w1, w.alloc (Obj.cells #[.slice none 0 0] 24) = w1 := ⟨_, rfl⟩
  have hz1 : w1.heap.size = w.heap.size + 1 := by rw [← hw1]; simp
  rw [hw1] at hcell hb1
  clear hc hnn h
  go_enter Try.func14, Try.ntmps14
  go_wp2_with fail
  go_loopw [4, 5] (fun vo i wr => ∃ k : Nat, k ≤ n ∧ i = .int .i64 k ∧ wr.ownsRow w1.heap.size 25 1 vo (ofN (L.take k)).length (numL (ofN (L.take k))) ∧ Below w1.heap.size w1 wr) (fun _ i _ => n - (intOf i).toNat)
  case atStart => exact ⟨0, Nat.zero_le _, rfl, World.ownsRow_nil _ _ _ _, Below.refl _ _⟩
  case round =>
    obtain ⟨k, hk, rfl, hown, hbel⟩ := hrel
    have hbw : Below w.heap.size w wr := hb1.trans (hbel.mono (by omega))
    by_cases hlt : k < n
    · have hkl : k < L.length := by have := HN.out; omega
      obtain ⟨g, o, rfl, hc0⟩ := HC.out k hkl
      have c0 := hc0 wr hbw
      have htk : L.take (k + 1) = L.take k ++ [L[k]] := List.take_succ_eq_append_getElem hkl
      obtain ⟨y, hy⟩ : ∃ y, L[k] = y := ⟨_, rfl⟩
      rw [hy] at c0 htk
      have hlen : (ofN (L.take k)).length ≤ 1000 := by have := of_len (L.take k); rw [List.length_take] at this; omega
      have hput : ofN (L.take (k + 1)) = putN y (ofN (L.take k)) := by rw [htk, of_snoc]
      have HPT := Lib.hid hput
      have HP := Lib.hid (ePut_any w1.heap.size (ofN (L.take k)) y _ wr hown hbel.size hlen)
      clear htk hy hc0 hlen hput hown
      go_wp2_with fail
      with_reducible refine HP.out.mono ?_
      rintro e w2 ⟨⟨v2, rfl, hown2⟩, hb⟩
      have hb2 := hbel.trans (hb.mono hbel.size)
      rw [← HPT.out] at hown2
      have HO2 := Lib.hid hown2
      clear hown2 hb hbel hbw HP HPT c0
      go_wp2_with fail
      go_roundw
      case rel => exact ⟨k + 1, by omega, by go_num, HO2.out, hb2⟩
      case measure => simp [intOf]; omega
    · have hkk : L.take k = L := List.take_of_length_le (by have := HN.out; omega)
      rw [hkk] at hown
      have hcl : HasC wr w.heap.size 24 #[.slice none 0 0] := hcell.below hbel (by omega)
      obtain ⟨M, hM⟩ : ∃ M, ofN L = M := ⟨_, rfl⟩
      have hof : ofP L = if M.length ≤ 64 then (M, 0) else ([], 60) := by rw [← hM]; rfl
      rw [hM] at hown
      have hsl := numSl_of_owns hown
      obtain ⟨ao2, c2, rfl, _⟩ := hsl.shape
      have ag : (Value.slice ao2 M.length c2).ownBlock ≠ some w.heap.size := fun e => by have := (hown.lt _ e).1; omega
      obtain ⟨m, hm⟩ : ∃ m, m = M.length := ⟨_, rfl⟩
      rw [← hm] at hof ag ⊢
      have HM := Lib.hid hm
      have HO := Lib.hid hown
      have HOF := Lib.hid hof
      have cc : wr.cell? ⟨w.heap.size, 0, none⟩ = some (.slice none 0 0) := hcl.cell 0
      have cf : wr.frozen? ⟨w.heap.size, 0, none⟩ = false := hcl.frozen 0
      clear hkk hM hof hown hsl hm
      by_cases h64 : m ≤ 64
      · have hv : ofP L = (M, 0) := by rw [HOF.out, if_pos h64]
        have HV := Lib.hid hv
        clear hv
        go_wp2_with fail
        have hown2 := HO.out.kept (grownBy_setCell' wr w.heap.size (.slice ao2 m c2)) (.inr (by rw [← HM.out]; exact ag))
        have hcl2 : HasC (wr.setCell ⟨w.heap.size, 0, none⟩ (.slice ao2 m c2)) w.heap.size 24 #[.slice ao2 m c2] := HasC.eq (hcl.set 0 _) rfl
        refine ⟨rfl, _, results_exact rfl _ _ w.heap.size _ rfl hcl2, ⟨_, by rw [HV.out]; rfl, ?_⟩, hbw.setCell (p := ⟨w.heap.size, 0, none⟩) (Nat.le_refl _) _⟩
        rw [HV.out]
        show World.ownsRow _ w.heap.size 25 1 _ M.length (numL M)
        rw [← HM.out] at hown2 ⊢
        exact owns_mono hown2 (by omega)
      · have hv : ofP L = ([], 60) := by rw [HOF.out, if_neg h64]
        have HV := Lib.hid hv
        clear hv
        go_wp2_with fail
        have hcl2 : HasC (wr.setCell ⟨w.heap.size, 0, none⟩ (.slice none 0 0)) w.heap.size 24 #[.slice none 0 0] := HasC.eq (hcl.set 0 _) rfl
        refine ⟨rfl, _, results_exact rfl _ _ w.heap.size _ rfl hcl2, ⟨_, by rw [HV.out]; rfl, ?_⟩, hbw.setCell (p := ⟨w.heap.size, 0, none⟩) (Nat.le_refl _) _⟩
        rw [HV.out]
        exact World.ownsRow_nil _ _ _ _
end Go.Proofs.Ytncjbbgenngegaa
