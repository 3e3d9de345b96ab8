/- Package exact: Of, Add, Merge: all its contracts. -/
import Derived.Test.YtncjbbgenngegaaECGath
namespace Go.Proofs.Ytncjbbgenngegaa
open Go.RowKit Go.Shelf

theorem NumF.keep {B : Nat} {w w' : World} {v : Value} {L : List Nat} (h : NumF B w v L) (hz : w.heap.size ≤ w'.heap.size) (hb : ∀ b, B ≤ b → b < w.heap.size → w'.heap[b]? = w.heap[b]?) : NumF B w' v L := by
  rcases h with h | ⟨g, o, c, h1, h2, h3, h4, h6⟩
  · exact .inl h
  · refine .inr ⟨g, o, c, h1, h2, h3, by omega, fun j hj => ?_⟩
    have hh := hb g h3 h4
    exact ⟨(World.cell?_of_block (a := ⟨g, o + j, none⟩) hh).trans (h6 j hj).1, (World.frozen?_of_block (a := ⟨g, o + j, none⟩) hh).trans (h6 j hj).2⟩
theorem NumF.mono {B B' : Nat} {w : World} {v : Value} {L : List Nat} (h : NumF B w v L) (hB : B' ≤ B) : NumF B' w v L := by
  rcases h with h | ⟨g, o, c, h1, h2, h3, h4, h6⟩
  · exact .inl h
  · exact .inr ⟨g, o, c, h1, h2, by omega, h4, h6⟩
theorem NumF.nil (B : Nat) (w : World) : NumF B w (.slice none 0 0) [] := .inl ⟨none, 0, rfl, fun _ => rfl, rfl⟩
set_option maxHeartbeats 2000000 in
set_option maxRecDepth 100000 in
theorem xOf_any (L : List Nat) (v : Value) (w : World) (h : NumSl w v L) (hn : L.length ≤ 400) :
    Calls Try.prog 12 #[v] w fun e w' => OfX w.heap.size (ofP L) e w' ∧ Below w.heap.size w w' := by
  have hb0 := (Below.refl w.heap.size w).alloc (Nat.le_refl _) (Obj.cells #[.slice none 0 0] 24)
  have hx0 := HasC.new w 24 #[.slice none 0 0]
  have G1 := Lib.hid (gather_any [] L (.slice none 0 0) v _ (.inl ⟨none, 0, rfl, fun _ => rfl, rfl⟩) (h.below hb0) (by simp) (by omega))
  have HB := Lib.hid hb0
  have HX := Lib.hid hx0
  obtain ⟨ao, c, rfl, _⟩ := h.shape
  obtain ⟨n, hnn⟩ : ∃ n, n = L.length := ⟨_, rfl⟩
  rw [← hnn] at G1 ⊢
  clear hb0 hx0 h hnn hn
  go_enter Try.func12, Try.ntmps12
  go_wp2_with fail
  with_reducible refine (G1.out).mono ?_
  rintro e w1 ⟨⟨x, y, rfl, hg⟩, hb⟩
  have hb1 := HB.out.trans (hb.mono HB.out.size)
  have hx1 := HX.out.below hb (by simp)
  have hlt := hx1.lt
  unfold GatV at hg
  rw [List.nil_append] at hg
  rcases hg with ⟨_, h64, hf, rfl⟩ | ⟨hbad, ⟨a, n', c', rfl⟩, s, rfl⟩
  · obtain ⟨a, n', c', rfl⟩ := hf.slice
    have hP : ofP L = (ofN L, 0) := by unfold ofP; rw [if_pos h64]
    have T1 := Lib.hid (told_ok (.slice a n' c') w1 ⟨_, _, _, rfl⟩)
    have HF := Lib.hid hf
    have HP := Lib.hid hP
    clear hf hP h64 hb
    go_wp2_with fail
    with_reducible refine (T1.out).mono ?_
    rintro e w2 ⟨rfl, hb⟩
    have hb2 := hb1.trans (hb.mono hb1.size)
    have hx2 := hx1.below hb hx1.lt
    have c2 := hx2.cell 0
    have z2 := hx2.frozen 0
    go_wp2_with fail
    refine bodyPost_ret (results_exact rfl _ _ w.heap.size _ rfl ((hx2.set 0 _).eq rfl)) rfl ?_
    rw [HP.out]
    refine ⟨⟨_, rfl, ?_⟩, hb2.setCell (p := ⟨w.heap.size, 0, none⟩) (Nat.le_refl _) _⟩
    refine (HF.out.keep (by simpa using hb.size) fun b h1 h2 => ?_).mono (by simp)
    exact (Below.heap_setCell w2 _ _ b (by intro e; simp at e h1; omega)).trans (hb.block b h2)
  · have h65 : 64 < (ofN L).length := by
      rcases hbad with h | h
      · cases h
      · exact h
    have hP : ofP L = ([], 60) := by unfold ofP; rw [if_neg (by omega)]
    have T1 := Lib.hid (told_bad (.slice a n' c') s w1)
    have HP := Lib.hid hP
    clear hbad hP h65 hb
    go_wp2_with fail
    with_reducible refine (T1.out).mono ?_
    rintro e w2 ⟨rfl, hb⟩
    have hb2 := hb1.trans (hb.mono hb1.size)
    have hx2 := hx1.below hb hx1.lt
    have c2 := hx2.cell 0
    have z2 := hx2.frozen 0
    go_wp2_with fail
    refine bodyPost_ret (results_exact rfl _ _ w.heap.size _ rfl ((hx2.set 0 _).eq rfl)) rfl ?_
    rw [HP.out]
    exact ⟨⟨_, rfl, NumF.nil _ _⟩, hb2.setCell (p := ⟨w.heap.size, 0, none⟩) (Nat.le_refl _) _⟩
theorem gat_add {L : List Nat} {x B : Nat} {W : World} {v e : Value} (h : GatV L [x] B W v e) :
    (addP L x = (ofN (L ++ [x]), 0) ∧ NumF B W v (ofN (L ++ [x])) ∧ e = .nilIface) ∨ (addP L x = ([], 60) ∧ (∃ a n c, v = .slice a n c) ∧ ∃ s, e = .iface 60 (.string s)) := by
  unfold addP ofP
  rcases h with ⟨h1, h2, h3, h4⟩ | ⟨h1, h2, h3⟩
  · rw [if_pos h1, if_pos h2]; exact .inl ⟨rfl, h3, h4⟩
  · refine .inr ⟨?_, h2, h3⟩
    rcases h1 with h | h
    · rw [h]; rfl
    · rw [if_neg (show ¬ (ofN (L ++ [x])).length ≤ 64 by omega)]; split <;> rfl
theorem gat_merge {A L : List Nat} {B : Nat} {W : World} {v e : Value} (hL : rightN L = true) (h : GatV A L B W v e) :
    (mergeP A L = (ofN (A ++ L), 0) ∧ NumF B W v (ofN (A ++ L)) ∧ e = .nilIface) ∨ (mergeP A L = ([], 60) ∧ (∃ a n c, v = .slice a n c) ∧ ∃ s, e = .iface 60 (.string s)) := by
  unfold mergeP ofP
  rw [hL, Bool.and_true]
  rcases h with ⟨h1, h2, h3, h4⟩ | ⟨h1, h2, h3⟩
  · rw [if_pos h1, if_pos h2]; exact .inl ⟨rfl, h3, h4⟩
  · refine .inr ⟨?_, h2, h3⟩
    rcases h1 with h | h
    · rw [h]; rfl
    · rw [if_neg (show ¬ (ofN (A ++ L)).length ≤ 64 by omega)]; split <;> rfl
set_option maxHeartbeats 2000000 in
set_option maxRecDepth 100000 in
theorem xAdd_any (L : List Nat) (x : Nat) (v : Value) (w : World) (h : NumSl w v L) (hn : L.length ≤ 400) :
    Calls Try.prog 23 #[.agg #[v], nV x] w fun e w' => OfX w.heap.size (addP L x) e w' ∧ Below w.heap.size w w' := by
  have hb0 := (((Below.refl w.heap.size w).alloc (Nat.le_refl _) (Obj.cells #[v] 24)).alloc (by simp) (Obj.cells #[.slice none 0 0] 24)).alloc (by simp; omega) (Obj.cells #[nV x] 25)
  have hx0 : HasC (((w.alloc (Obj.cells #[v] 24)).alloc (Obj.cells #[.slice none 0 0] 24)).alloc (Obj.cells #[nV x] 25)) (w.heap.size + 1) 24 #[.slice none 0 0] := (HasC.at_ _ _ _ (by simp)).alloc _
  have hs1 : NumSl (((w.alloc (Obj.cells #[v] 24)).alloc (Obj.cells #[.slice none 0 0] 24)).alloc (Obj.cells #[nV x] 25)) (.slice (some ⟨w.heap.size + 2, 0, none⟩) 1 1) [x] := by
    have := num_built ((w.alloc (Obj.cells #[v] 24)).alloc (Obj.cells #[.slice none 0 0] 24)) [x] #[nV x] rfl 1 rfl
    simpa using this
  have G1 := Lib.hid (gather_any L [x] v _ _ (h.below hb0) hs1 (by omega) (by simp))
  have HB := Lib.hid hb0
  have HX := Lib.hid hx0
  obtain ⟨ao, c, rfl, _⟩ := h.shape
  obtain ⟨n, hnn⟩ : ∃ n, n = L.length := ⟨_, rfl⟩
  rw [← hnn] at G1 HB HX ⊢
  clear hb0 hx0 h hnn hn hs1
  go_enter Try.func23, Try.ntmps23
  go_wp2_with fail
  with_reducible refine (G1.out).mono ?_
  rintro e w1 ⟨⟨x, y, rfl, hg⟩, hb⟩
  have hb1 := HB.out.trans (hb.mono HB.out.size)
  have hx1 := HX.out.below hb (by simp)
  have hlt := hx1.lt
  rcases gat_add hg with ⟨hP, hf, rfl⟩ | ⟨hP, ⟨a, n', c', rfl⟩, s, rfl⟩
  · obtain ⟨a, n', c', rfl⟩ := hf.slice
    have T1 := Lib.hid (told_ok (.slice a n' c') w1 ⟨_, _, _, rfl⟩)
    have HF := Lib.hid hf
    have HP := Lib.hid hP
    clear hf hP hb
    go_wp2_with fail
    with_reducible refine (T1.out).mono ?_
    rintro e w2 ⟨rfl, hb⟩
    have hb2 := hb1.trans (hb.mono hb1.size)
    have hx2 := hx1.below hb hx1.lt
    have c2 := hx2.cell 0
    have z2 := hx2.frozen 0
    go_wp2_with fail
    refine bodyPost_ret (results_exact rfl _ _ (w.heap.size + 1) _ rfl ((hx2.set 0 _).eq rfl)) rfl ?_
    rw [HP.out]
    refine ⟨⟨_, rfl, ?_⟩, hb2.setCell (p := ⟨w.heap.size + 1, 0, none⟩) (by simp) _⟩
    refine (HF.out.keep (by simpa using hb.size) fun b h1 h2 => ?_).mono (by simp; omega)
    exact (Below.heap_setCell w2 _ _ b (by intro e; simp at e h1; omega)).trans (hb.block b h2)
  · have T1 := Lib.hid (told_bad (.slice a n' c') s w1)
    have HP := Lib.hid hP
    clear hP hb
    go_wp2_with fail
    with_reducible refine (T1.out).mono ?_
    rintro e w2 ⟨rfl, hb⟩
    have hb2 := hb1.trans (hb.mono hb1.size)
    have hx2 := hx1.below hb hx1.lt
    have c2 := hx2.cell 0
    have z2 := hx2.frozen 0
    go_wp2_with fail
    refine bodyPost_ret (results_exact rfl _ _ (w.heap.size + 1) _ rfl ((hx2.set 0 _).eq rfl)) rfl ?_
    rw [HP.out]
    exact ⟨⟨_, rfl, NumF.nil _ _⟩, hb2.setCell (p := ⟨w.heap.size + 1, 0, none⟩) (by simp) _⟩
set_option maxHeartbeats 2000000 in
set_option maxRecDepth 100000 in
theorem xMerge_any (A B : List Nat) (va vb : Value) (w : World) (hA : NumSl w va A) (hB : NumSl w vb B) (hna : A.length ≤ 400) (hnb : B.length ≤ 400) :
    Calls Try.prog 25 #[.agg #[va], .agg #[vb]] w fun e w' => OfX w.heap.size (mergeP A B) e w' ∧ Below w.heap.size w w' := by
  obtain ⟨w0, hw0⟩ : ∃ w0, w0 = ((w.alloc (Obj.cells #[va] 24)).alloc (Obj.cells #[vb] 24)).alloc (Obj.cells #[.slice none 0 0] 24) := ⟨_, rfl⟩
  have hb0 : Below w.heap.size w w0 := by rw [hw0]; exact (((Below.refl w.heap.size w).alloc (Nat.le_refl _) (Obj.cells #[va] 24)).alloc (by simp) _).alloc (by simp; omega) _
  have hz0 : w0.heap.size = w.heap.size + 3 := by rw [hw0]; simp
  have hx0 : HasC w0 (w.heap.size + 2) 24 #[.slice none 0 0] := by rw [hw0]; exact HasC.at_ _ _ _ (by simp)
  have ha0 : HasC w0 w.heap.size 24 #[va] := by rw [hw0]; exact ((HasC.new w _ _).alloc _).alloc _
  have hy0 : HasC w0 (w.heap.size + 1) 24 #[vb] := by rw [hw0]; exact (HasC.at_ _ _ _ (by simp)).alloc _
  have C1 := Lib.hid (check_any B vb w0 (hB.below hb0) (by omega))
  have G1 := Lib.hid (fun W hA hB => gather_any A B va vb W hA hB (by omega) (by omega))
  have HB := Lib.hid hb0
  have HX := Lib.hid hx0
  have HA0 := Lib.hid ha0
  have HY0 := Lib.hid hy0
  have HZ := Lib.hid hz0
  have HSA := Lib.hid (hA.below hb0)
  have HSB := Lib.hid (hB.below hb0)
  obtain ⟨ao, ca, rfl, _⟩ := hA.shape
  obtain ⟨bo, cb, rfl, _⟩ := hB.shape
  obtain ⟨n, hnn⟩ : ∃ n, n = A.length := ⟨_, rfl⟩
  obtain ⟨m, hmm⟩ : ∃ m, m = B.length := ⟨_, rfl⟩
  rw [← hnn, ← hmm] at G1 hw0
  rw [← hmm] at C1 HY0 HSB
  rw [← hnn] at HA0 HSA
  rw [← hnn, ← hmm]
  clear hb0 hx0 ha0 hy0 hz0 hA hB hnn hmm hna hnb
  cases hr : rightN B with
  | true =>
    rw [hr] at C1
    have HR := Lib.hid hr
    clear hr
    go_enter Try.func25, Try.ntmps25
    go_wp2_with fail
    rw [← hw0]
    clear hw0
    with_reducible refine (C1.out).mono ?_
    rintro e w1 ⟨⟨y, rfl, hy⟩, hb⟩
    have hb1 := HB.out.trans (hb.mono HB.out.size)
    have hx1 := HX.out.below hb (by have := HZ.out; omega)
    have ha1 := HA0.out.below hb (by have := HZ.out; omega)
    have hy1 := HY0.out.below hb (by have := HZ.out; omega)
    have hlt1 := hx1.lt
    have hsa := HSA.out.below hb
    have hsb := HSB.out.below hb
    have c1 := ha1.cell 0
    have c2 := hy1.cell 0
    clear hb
    rcases hy with ⟨_, rfl⟩ | ⟨hy, _⟩
    · go_wp2_with fail
      with_reducible refine (G1.out _ hsa hsb).mono ?_
      rintro e w5 ⟨⟨x, y, rfl, hg⟩, hb⟩
      have hb1 := hb1.trans (hb.mono hb1.size)
      have hx1 := hx1.below hb hx1.lt
      have hlt := hx1.lt
      have hsz := hb.size
      clear c1 c2 hsa hsb ha1 hy1
      rcases gat_merge HR.out hg with ⟨hP, hf, rfl⟩ | ⟨hP, ⟨a, n', c', rfl⟩, s, rfl⟩
      · obtain ⟨a, n', c', rfl⟩ := hf.slice
        have T1 := Lib.hid (told_ok (.slice a n' c') w5 ⟨_, _, _, rfl⟩)
        have HF := Lib.hid hf
        have HP := Lib.hid hP
        clear hf hP hb
        go_wp2_with fail
        with_reducible refine (T1.out).mono ?_
        rintro e w2 ⟨rfl, hb⟩
        have hb2 := hb1.trans (hb.mono hb1.size)
        have hx2 := hx1.below hb hx1.lt
        have c2 := hx2.cell 0
        have z2 := hx2.frozen 0
        go_wp2_with fail
        refine bodyPost_ret (results_exact rfl _ _ (w.heap.size + 2) _ rfl ((hx2.set 0 _).eq rfl)) rfl ?_
        rw [HP.out]
        refine ⟨⟨_, rfl, ?_⟩, hb2.setCell (p := ⟨w.heap.size + 2, 0, none⟩) (by simp) _⟩
        refine (HF.out.keep (by simpa using hb.size) fun b h1 h2 => ?_).mono (by omega)
        exact (Below.heap_setCell w2 _ _ b (by intro e; simp at e h1; omega)).trans (hb.block b h2)
      · have T1 := Lib.hid (told_bad (.slice a n' c') s w5)
        have HP := Lib.hid hP
        clear hP hb
        go_wp2_with fail
        with_reducible refine (T1.out).mono ?_
        rintro e w2 ⟨rfl, hb⟩
        have hb2 := hb1.trans (hb.mono hb1.size)
        have hx2 := hx1.below hb hx1.lt
        have c2 := hx2.cell 0
        have z2 := hx2.frozen 0
        go_wp2_with fail
        refine bodyPost_ret (results_exact rfl _ _ (w.heap.size + 2) _ rfl ((hx2.set 0 _).eq rfl)) rfl ?_
        rw [HP.out]
        exact ⟨⟨_, rfl, NumF.nil _ _⟩, hb2.setCell (p := ⟨w.heap.size + 2, 0, none⟩) (by simp) _⟩
    · cases hy
  | false =>
    rw [hr] at C1
    have hP : mergeP A B = ([], 60) := by unfold mergeP; rw [hr, Bool.and_false]; rfl
    have HP := Lib.hid hP
    clear hr hP
    go_enter Try.func25, Try.ntmps25
    go_wp2_with fail
    rw [← hw0]
    clear hw0
    with_reducible refine (C1.out).mono ?_
    rintro e w1 ⟨⟨y, rfl, hy⟩, hb⟩
    have hb1 := HB.out.trans (hb.mono HB.out.size)
    have hx1 := HX.out.below hb (by have := HZ.out; omega)
    clear hb
    rcases hy with ⟨hy, _⟩ | ⟨_, s, rfl⟩
    · cases hy
    · have T1 := Lib.hid (told_bad (.slice none 0 0) s w1)
      go_wp2_with fail
      with_reducible refine (T1.out).mono ?_
      rintro e w2 ⟨rfl, hb⟩
      have hb2 := hb1.trans (hb.mono hb1.size)
      have hx2 := hx1.below hb hx1.lt
      have c2 := hx2.cell 0
      have z2 := hx2.frozen 0
      go_wp2_with fail
      refine bodyPost_ret (results_exact rfl _ _ (w.heap.size + 2) _ rfl ((hx2.set 0 _).eq rfl)) rfl ?_
      rw [HP.out]
      exact ⟨⟨_, rfl, NumF.nil _ _⟩, hb2.setCell (p := ⟨w.heap.size + 2, 0, none⟩) (by simp) _⟩
end Go.Proofs.Ytncjbbgenngegaa
