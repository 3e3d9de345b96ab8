
/- The page's own answers for layer 4: put (labels, and one more, by its name). -/
import Derived.Test.YtbcgjgefkkibbaaLApp
namespace Go.Proofs.Ytbcgjgefkkibbaa
open Go.RowKit

/-- Labels, and one more, ahead of the first that is not less. -/
def insL : List Lab → Lab → List Lab
  | [], x => [x]
  | a :: L, x => if Lib.compareBytes a.1.data.toList x.1.data.toList < 0 then a :: insL L x else x :: a :: L
theorem insL_len (L : List Lab) (x : Lab) : (insL L x).length = L.length + 1 := by
  induction L with
  | nil => rfl
  | cons a L ih =>
    unfold insL
    split
    · rw [List.length_cons, ih, List.length_cons]
    · rfl
theorem insL_drop (L : List Lab) (x : Lab) (k : Nat) (hk : k < L.length) : insL (L.drop k) x = if Lib.compareBytes L[k].1.data.toList x.1.data.toList < 0 then L[k] :: insL (L.drop (k + 1)) x else x :: L.drop k := by
  rw [List.drop_eq_getElem_cons hk]
  rfl

/-- A world in which the label to be put lies in its block. -/
def PutD (w : World) (x y : ByteArray) (V : World) : Prop := HasC V w.heap.size 41 #[.string x, .string y] ∧ Below w.heap.size w V
theorem PutD.on {w V V' : World} {x y : ByteArray} (h : PutD w x y V) (hb : Below V.heap.size V V') : PutD w x y V' := ⟨h.1.below hb h.1.lt, h.2.trans (hb.mono h.2.size)⟩

theorem put_owns {R L : List Lab} {x : Lab} {k n b : Nat} {v : Value} {W : World} (h : R = L.take k ++ x :: L.drop k) (hk : k ≤ n) (hn : n = L.length) (ho : W.ownsRow (b + 1) 41 2 v (0 + k + 1 + (n - k)) ([] ++ cellsL (L.take k) ++ cellsL [x] ++ cellsL (L.drop k))) :
    W.ownsRow b 41 2 v R.length (cellsL R) := by
  have e1 : cellsL R = [] ++ cellsL (L.take k) ++ cellsL [x] ++ cellsL (L.drop k) := by
    rw [h, show x :: L.drop k = [x] ++ L.drop k from rfl, cellsL_app, cellsL_app]
    simp
  have e2 : R.length = 0 + k + 1 + (n - k) := by
    rw [h, List.length_append, List.length_cons, List.length_take, List.length_drop]
    omega
  rw [e1, e2]
  exact ho.mono (by omega)

set_option maxHeartbeats 2000000 in
set_option maxRecDepth 100000 in
theorem refPut_any (L : List Lab) (v : Value) (x y : ByteArray) (B : Nat) (w : World) (h : w.ownsRow B 41 2 v L.length (cellsL L)) (hn : L.length ≤ 1000) (sa : smallLb L) (hx : x.size ≤ 3000) :
    Calls Try.prog 33 #[v, .agg #[.string x, .string y]] w fun e w' => (∃ v', e = .returned v' ∧ w'.ownsRow w.heap.size 41 2 v' (insL L (x, y)).length (cellsL (insL L (x, y)))) ∧ Below w.heap.size w w' := by
  have hcut : ∀ k, k ≤ L.length → _ := fun k hk => cut_head h k hk
  have hcut2 : ∀ k, k ≤ L.length → _ := fun k hk => cut_tail h k hk
  obtain ⟨ao, c, rfl, hc⟩ := (lblSl_of_owns h).shape
  obtain ⟨n, hnn⟩ : ∃ n, n = L.length := ⟨_, rfl⟩
  have HC := Lib.hid hc
  have HN := Lib.hid hnn
  have SA := Lib.hid sa
  rw [← hnn] at hn hcut hcut2 ⊢
  have HCUT := Lib.hid hcut
  have HCUT2 := Lib.hid hcut2
  clear hc hnn h sa hcut hcut2
  obtain ⟨R, hR⟩ : ∃ R, insL L (x, y) = R := ⟨_, rfl⟩
  rw [hR]
  have HR := Lib.hid hR
  clear hR
  go_enter Try.func33, Try.ntmps33
  go_wp2_with fail
  go_loopw [5] (fun i wr => ∃ k : Nat, k ≤ n ∧ i = .int .i64 k ∧ Hid (R = L.take k ++ insL (L.drop k) (x, y)) ∧ HasC wr w.heap.size 41 #[.string x, .string y] ∧ Below w.heap.size w wr) (fun i _ => n - (intOf i).toNat)
  case atStart => exact ⟨0, Nat.zero_le _, rfl, HR.out.symm, HasC.new _ _ _, (Below.refl _ _).alloc (Nat.le_refl _) _⟩
  case round =>
    obtain ⟨k, hk, rfl, HG, hcx, hbel⟩ := hrel
    by_cases hlt : k < n
    · have hk1 : k < L.length := by have := HN.out; omega
      obtain ⟨g, o, rfl, hcc⟩ := HC.out k hk1
      have hstep := insL_drop L (x, y) k hk1
      obtain ⟨s1, s2⟩ := SA.out _ (List.getElem_mem hk1)
      obtain ⟨p, q, hpq⟩ : ∃ p q, L[k] = (p, q) := ⟨_, _, rfl⟩
      have htk : L.take (k + 1) = L.take k ++ [(p, q)] := by rw [List.take_succ_eq_append_getElem hk1, hpq]
      rw [hpq] at hcc hstep s1 s2
      dsimp only at hcc hstep s1 s2
      have H1 := Lib.hid (fun W => leastL_any p x s1 hx W)
      obtain ⟨r, hr⟩ : ∃ r, Lib.compareBytes p.data.toList x.data.toList = r := ⟨_, rfl⟩
      rw [hr] at H1 hstep
      have HST := Lib.hid hstep
      have HTK := Lib.hid htk
      clear hpq hr hstep htk s1 s2
      have e0 : ∀ i : InC (PutD w x y), i.w.cell? ⟨g, o + k * 2, none⟩ = some (.string p) := fun i => (hcc i.w i.h.2).1
      have e1 : ∀ i : InC (PutD w x y), i.w.cell? ⟨w.heap.size, 0, none⟩ = some (.string x) := fun i => i.h.1.cell 0
      clear hcc
      by_cases hr0 : r < 0
      · have hg2 : Hid (R = L.take (k + 1) ++ insL (L.drop (k + 1)) (x, y)) := by
          show R = _
          rw [HG.out, HST.out, if_pos hr0, HTK.out, List.append_assoc]
          rfl
        go_wp2_with fail
        refine region_class (PutD w x y) (by kernel_rfl) (by kernel_rfl) ⟨hcx.drew, hbel.drew⟩ ?_
        intro hne
        repeat (go_big_quiet_step ((go_at_call 43; refine (H1.out _).mono ?_; rintro e w' ⟨rfl, hb⟩; exact ⟨rfl, ⟨_, PutD.on (InC.h _) hb⟩, rfl⟩)))
        refine wpQuiet_nil ?_
        clear e0 e1 hne
        rintro ⟨w3, hb3⟩
        dsimp only
        go_wp2_with fail
        go_roundw
        case rel => exact ⟨k + 1, by omega, by go_num, hg2, hb3.1, hb3.2⟩
        case measure => simp [intOf]; omega
      · have hg2 : Hid (R = L.take k ++ (x, y) :: L.drop k) := by
          show R = _
          rw [HG.out, HST.out, if_neg hr0]
        go_wp2_with fail
        refine region_class (PutD w x y) (by kernel_rfl) (by kernel_rfl) ⟨hcx.drew, hbel.drew⟩ ?_
        intro hne
        repeat (go_big_quiet_step ((go_at_call 43; refine (H1.out _).mono ?_; rintro e w' ⟨rfl, hb⟩; exact ⟨rfl, ⟨_, PutD.on (InC.h _) hb⟩, rfl⟩)))
        refine wpQuiet_nil ?_
        clear e0 e1 hne
        rintro ⟨w3, HH⟩
        dsimp only
        have hs1 := (HCUT.out k hk)
        obtain ⟨src1, hr1, hv1⟩ := hs1
        obtain ⟨src2, hr2, hv2⟩ := (HCUT2.out k hk)
        have V1 := Lib.hid hv1
        have V2 := Lib.hid hv2
        clear hv1 hv2
        go_wp2_with fail
        have c0 : w3.cell? ⟨w.heap.size, 0, none⟩ = some (.string x) := HH.1.cell 0
        have c1 : w3.cell? ⟨w.heap.size, 1, none⟩ = some (.string y) := HH.1.cell 1
        have hlt0 := HH.1.lt
        have hb0 := HH.2.size
        go_region_held_law (fun w' => w'.cell? ⟨w.heap.size, 0, none⟩ = some (.string x) ∧ w'.cell? ⟨w.heap.size, 1, none⟩ = some (.string y))
          (first
            | go_keep
            | exact ⟨HX2.cell 0, HX2.cell 1⟩
            | exact ⟨HX1.cell 0, HX1.cell 1⟩)
          ((first
            | (refine step_app _ (by rfl) (.tmp 24) (.tmp 27) (by rfl) (w.heap.size + 1) (.slice none 0 0) 0 [] (by rfl) (World.ownsRow_nil _ _ _ _) src1 k (cellsL (L.take k)) (by rfl) (V1.out _ HH.2.drew) (by omega) (by simp; omega) ?_; intro v1 w1 hown1 hgrow1; have hz1 := hgrow1.size; have HB1 : Below w.heap.size w w1 := (HH.2.drew).grown hgrow1 (by simp; omega) (fun k hk => by simp [Value.ownBlock] at hk); have ag1 : v1.ownBlock ≠ some w.heap.size := fun e => by { have := (hown1.lt _ e).1; omega }; have HX1 : HasC w1 w.heap.size 41 #[.string x, .string y] := (hgrow1.block _ (by simp; omega) (by simp [Value.ownBlock])).trans HH.1.drew)
            | (refine step_app _ (by rfl) (.tmp 24) (.tmp 27) (by rfl) (w.heap.size + 1) (.slice none 0 0) 0 [] (by rfl) (World.ownsRow_nil _ _ _ _) src1 k (cellsL (L.take k)) (by rfl) (V1.out _ ((HH.2.drew).alloc (by simp; omega) _)) (by omega) (by simp; omega) ?_; intro v1 w1 hown1 hgrow1; have hz1 := hgrow1.size; have HB1 : Below w.heap.size w w1 := ((HH.2.drew).alloc (by simp; omega) _).grown hgrow1 (by simp; omega) (fun k hk => by simp [Value.ownBlock] at hk); have ag1 : v1.ownBlock ≠ some w.heap.size := fun e => by { have := (hown1.lt _ e).1; omega }; have HX1 : HasC w1 w.heap.size 41 #[.string x, .string y] := (hgrow1.block _ (by simp; omega) (by simp [Value.ownBlock])).trans (HH.1.drew.alloc _))
            | (refine step_app _ (by rfl) (.tmp 28) (.tmp 30) (by rfl) (w.heap.size + 1) v1 (0 + k) ([] ++ cellsL (L.take k)) (by rfl) (hown1.alloc _) (.slice (some ⟨w1.heap.size, 0, none⟩) 1 1) 1 (cellsL [(x, y)]) (by rfl) (.inr ⟨_, _, rfl, rfl, World.news_of_block (cs := #[.string x, .string y]) (t := 41) (fr := (0, 0)) (heap_alloc_new w1 _), cellsL_one _⟩) (by omega) (by simp at hz1 ⊢; omega) ?_; intro v2 w2 hown2 hgrow2; have HB2 : Below w.heap.size w w2 := (HB1.alloc (by simp at hz1 ⊢; omega) _).grown hgrow2 (by simp at hz1 ⊢; omega) (fun k hk => by { have := (hown1.lt _ hk).1; omega }); have HX2 : HasC w2 w.heap.size 41 #[.string x, .string y] := (hgrow2.block _ (by simp at hz1 ⊢; omega) (Ne.symm ag1)).trans (HX1.alloc _))
            | (refine step_app _ (by rfl) (.tmp 28) (.tmp 30) (by rfl) (w.heap.size + 1) v1 (0 + k) ([] ++ cellsL (L.take k)) (by rfl) hown1 (.slice (some ⟨w3.heap.size, 0, none⟩) 1 1) 1 (cellsL [(x, y)]) (by rfl) (.inr ⟨_, _, rfl, rfl, World.news_of_block (cs := #[.string x, .string y]) (t := 41) (fr := (0, 0)) ((hgrow1.block w3.heap.size (by simp) (by simp [Value.ownBlock])).trans (heap_alloc_new w3.drew _)), cellsL_one _⟩) (by omega) (by simp at hz1 ⊢; omega) ?_; intro v2 w2 hown2 hgrow2; have HB2 : Below w.heap.size w w2 := HB1.grown hgrow2 (by simp at hz1 ⊢; omega) (fun k hk => by { have := (hown1.lt _ hk).1; omega }); have HX2 : HasC w2 w.heap.size 41 #[.string x, .string y] := (hgrow2.block _ (by simp at hz1 ⊢; omega) (Ne.symm ag1)).trans HX1)))
        all_goals
          clear c0 c1
          have HO2 := Lib.hid hown2
          have hlt2 := HX2.lt
          clear hown1 hown2 hgrow1 hgrow2 HX1 HX2 ag1
          go_wp2_with (at_builtin; go_loud (refine wpList_app _ rfl (.tmp 32) (.tmp 35) rfl (w.heap.size + 1) v2 (0 + k + 1) ([] ++ cellsL (L.take k) ++ cellsL [(x, y)]) rfl HO2.out src2 (n - k) (cellsL (L.drop k)) rfl (V2.out _ HB2) (by omega) (by omega) ?_; intro v3 w4 hown3 hgrow3))
          go_ret
          exact ⟨⟨_, rfl, put_owns hg2.out hk HN.out hown3⟩, HB2.grown hgrow3 (by omega) (fun k hk => by have := (HO2.out.lt _ hk).1; omega)⟩
    · have hg2 : Hid (R = L.take k ++ (x, y) :: L.drop k) := by
        have hd : L.drop k = [] := List.drop_eq_nil_of_le (by have := HN.out; omega)
        show R = _
        rw [HG.out, hd]
        rfl
      go_wp2_with fail
      refine region_class (PutD w x y) (by kernel_rfl) (by kernel_rfl) ⟨hcx.drew, hbel.drew⟩ ?_
      intro hne
      repeat (go_big_quiet_step (fail))
      refine wpQuiet_nil ?_
      clear hne
      rintro ⟨w3, HH⟩
      dsimp only
      have hs1 := (HCUT.out k hk)
      obtain ⟨src1, hr1, hv1⟩ := hs1
      obtain ⟨src2, hr2, hv2⟩ := (HCUT2.out k hk)
      have V1 := Lib.hid hv1
      have V2 := Lib.hid hv2
      clear hv1 hv2
      go_wp2_with fail
      have c0 : w3.cell? ⟨w.heap.size, 0, none⟩ = some (.string x) := HH.1.cell 0
      have c1 : w3.cell? ⟨w.heap.size, 1, none⟩ = some (.string y) := HH.1.cell 1
      have hlt0 := HH.1.lt
      have hb0 := HH.2.size
      go_region_held_law (fun w' => w'.cell? ⟨w.heap.size, 0, none⟩ = some (.string x) ∧ w'.cell? ⟨w.heap.size, 1, none⟩ = some (.string y))
        (first
          | go_keep
          | exact ⟨HX2.cell 0, HX2.cell 1⟩
          | exact ⟨HX1.cell 0, HX1.cell 1⟩)
        ((first
          | (refine step_app _ (by rfl) (.tmp 24) (.tmp 27) (by rfl) (w.heap.size + 1) (.slice none 0 0) 0 [] (by rfl) (World.ownsRow_nil _ _ _ _) src1 k (cellsL (L.take k)) (by rfl) (V1.out _ HH.2.drew) (by omega) (by simp; omega) ?_; intro v1 w1 hown1 hgrow1; have hz1 := hgrow1.size; have HB1 : Below w.heap.size w w1 := (HH.2.drew).grown hgrow1 (by simp; omega) (fun k hk => by simp [Value.ownBlock] at hk); have ag1 : v1.ownBlock ≠ some w.heap.size := fun e => by { have := (hown1.lt _ e).1; omega }; have HX1 : HasC w1 w.heap.size 41 #[.string x, .string y] := (hgrow1.block _ (by simp; omega) (by simp [Value.ownBlock])).trans HH.1.drew)
          | (refine step_app _ (by rfl) (.tmp 24) (.tmp 27) (by rfl) (w.heap.size + 1) (.slice none 0 0) 0 [] (by rfl) (World.ownsRow_nil _ _ _ _) src1 k (cellsL (L.take k)) (by rfl) (V1.out _ ((HH.2.drew).alloc (by simp; omega) _)) (by omega) (by simp; omega) ?_; intro v1 w1 hown1 hgrow1; have hz1 := hgrow1.size; have HB1 : Below w.heap.size w w1 := ((HH.2.drew).alloc (by simp; omega) _).grown hgrow1 (by simp; omega) (fun k hk => by simp [Value.ownBlock] at hk); have ag1 : v1.ownBlock ≠ some w.heap.size := fun e => by { have := (hown1.lt _ e).1; omega }; have HX1 : HasC w1 w.heap.size 41 #[.string x, .string y] := (hgrow1.block _ (by simp; omega) (by simp [Value.ownBlock])).trans (HH.1.drew.alloc _))
          | (refine step_app _ (by rfl) (.tmp 28) (.tmp 30) (by rfl) (w.heap.size + 1) v1 (0 + k) ([] ++ cellsL (L.take k)) (by rfl) (hown1.alloc _) (.slice (some ⟨w1.heap.size, 0, none⟩) 1 1) 1 (cellsL [(x, y)]) (by rfl) (.inr ⟨_, _, rfl, rfl, World.news_of_block (cs := #[.string x, .string y]) (t := 41) (fr := (0, 0)) (heap_alloc_new w1 _), cellsL_one _⟩) (by omega) (by simp at hz1 ⊢; omega) ?_; intro v2 w2 hown2 hgrow2; have HB2 : Below w.heap.size w w2 := (HB1.alloc (by simp at hz1 ⊢; omega) _).grown hgrow2 (by simp at hz1 ⊢; omega) (fun k hk => by { have := (hown1.lt _ hk).1; omega }); have HX2 : HasC w2 w.heap.size 41 #[.string x, .string y] := (hgrow2.block _ (by simp at hz1 ⊢; omega) (Ne.symm ag1)).trans (HX1.alloc _))
          | (refine step_app _ (by rfl) (.tmp 28) (.tmp 30) (by rfl) (w.heap.size + 1) v1 (0 + k) ([] ++ cellsL (L.take k)) (by rfl) hown1 (.slice (some ⟨w3.heap.size, 0, none⟩) 1 1) 1 (cellsL [(x, y)]) (by rfl) (.inr ⟨_, _, rfl, rfl, World.news_of_block (cs := #[.string x, .string y]) (t := 41) (fr := (0, 0)) ((hgrow1.block w3.heap.size (by simp) (by simp [Value.ownBlock])).trans (heap_alloc_new w3.drew _)), cellsL_one _⟩) (by omega) (by simp at hz1 ⊢; omega) ?_; intro v2 w2 hown2 hgrow2; have HB2 : Below w.heap.size w w2 := HB1.grown hgrow2 (by simp at hz1 ⊢; omega) (fun k hk => by { have := (hown1.lt _ hk).1; omega }); have HX2 : HasC w2 w.heap.size 41 #[.string x, .string y] := (hgrow2.block _ (by simp at hz1 ⊢; omega) (Ne.symm ag1)).trans HX1)))
      all_goals
        clear c0 c1
        have HO2 := Lib.hid hown2
        have hlt2 := HX2.lt
        clear hown1 hown2 hgrow1 hgrow2 HX1 HX2 ag1
        go_wp2_with (at_builtin; go_loud (refine wpList_app _ rfl (.tmp 32) (.tmp 35) rfl (w.heap.size + 1) v2 (0 + k + 1) ([] ++ cellsL (L.take k) ++ cellsL [(x, y)]) rfl HO2.out src2 (n - k) (cellsL (L.drop k)) rfl (V2.out _ HB2) (by omega) (by omega) ?_; intro v3 w4 hown3 hgrow3))
        go_ret
        exact ⟨⟨_, rfl, put_owns hg2.out hk HN.out hown3⟩, HB2.grown hgrow3 (by omega) (fun k hk => by have := (HO2.out.lt _ hk).1; omega)⟩
end Go.Proofs.Ytbcgjgefkkibbaa
