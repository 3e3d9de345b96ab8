/- Package label: Text. -/
import Derived.Test.YtbcgjgefkkibbaaLCheck
import Derived.Test.YtbcgjgefkkibbaaLQuot
import Derived.Test.YtbcgjgefkkibbaaLTell
namespace Go.Proofs.Ytbcgjgefkkibbaa
open Go.RowKit Go.Shelf
attribute [local go_sem] Oper.semAt_some

theorem HasC.others {W W' : World} {b b' : Nat} {T : TypeId} {cs : Array Value} (h : HasC W b T cs) (hk : Lib.OthersKept 5 (some b') W W') (hne : b ≠ b') (hT : T ≠ 5) : HasC W' b T cs :=
  hk b _ h (fun e => hne (Option.some.inj e)) (fun _ _ e => hT (by cases e; rfl))
theorem Lp.others {D : Nat} {o : Loop} {W W' : World} {b : Nat} (h : Lp D (.loop o) W) (hk : Lib.OthersKept 5 (some b) W W') (h1 : D ≠ b) (h2 : D + 1 ≠ b) : Lp D (.loop o) W' :=
  ⟨hk D _ h.1 (fun e => h1 (Option.some.inj e)) (fun _ _ e => by cases e), hk (D + 1) _ h.2 (fun e => h2 (Option.some.inj e)) (fun _ _ e => by cases e)⟩
theorem bld_put {B b l : Nat} {bs : List Value} {W : World} {lo : Loop} (h : Lib.IsBuilderF 60 5 B b bs W) (hl : W.heap[l]? = some (.loop lo)) (hb : b ≠ l) (o' : Obj) : Lib.IsBuilderF 60 5 B b bs (W.putObj l o') := by
  have key : ∀ p, Lib.BuilderAtF 60 5 B b p bs W → Lib.BuilderAtF 60 5 B b p bs (W.putObj l o') := by
    rintro p ⟨hB, v, hbk, hown, hne⟩
    refine ⟨hB, v, (World.putObj_heap_other hb).trans hbk, ⟨hown.1, ?_⟩, hne⟩
    rcases hown.2 with h | ⟨g, cap, cur, fz, h1, h2, h3, h4⟩
    · exact .inl h
    · refine .inr ⟨g, cap, cur, fz, h1, h2, (World.putObj_heap_other fun e => ?_).trans h3, h4⟩
      rw [e, hl] at h3
      cases h3
  exact h.imp (key _) (key _)
theorem bld_below {B b : Nat} {bs : List Value} {W W' : World} (h : Lib.IsBuilderF 60 5 B b bs W) (hb : Below W.heap.size W W') : Lib.IsBuilderF 60 5 B b bs W' := by
  have key : ∀ p, Lib.BuilderAtF 60 5 B b p bs W → Lib.BuilderAtF 60 5 B b p bs W' := by
    rintro p ⟨hB, v, hbk, hown, hne⟩
    exact ⟨hB, v, (hb.block b (Array.getElem?_eq_some_iff.1 hbk).1).trans hbk, hown.kept (row := none) ⟨hb.os, hb.tape, hb.output, hb.size, fun i hi _ => hb.block i hi⟩ (Classical.em _), hne⟩
  exact h.imp (key _) (key _)
theorem comma_cells : Lib.runeCells 44 = Lib.byteCells [44] := by rw [← Lib.byteCells_encodeRune]; rfl
theorem equals_cells : Lib.runeCells 61 = Lib.byteCells [61] := by rw [← Lib.byteCells_encodeRune]; rfl

/-- The world in a round: the builder's bytes, the label, the loop's blocks. -/
structure TxS (w : World) (b X : Nat) (sv : Value) (x y : ByteArray) (bz : Loop) (W : World) (bs : List UInt8) : Prop where
  slice : HasC W (b + 1) 23 #[sv]
  lab : HasC W X 41 #[.string x, .string y]
  lp : Lp (b + 2) (.loop bz) W
  below : Below w.heap.size w W
  bld : Lib.IsBuilderF 60 5 b b (Lib.byteCells bs) W
theorem TxS.step {w W W' : World} {b X : Nat} {sv : Value} {x y : ByteArray} {bz : Loop} {bs bs' : List UInt8} (h : TxS w b X sv x y bz W bs) (hX : X ≠ b) (hw : w.heap.size ≤ b)
    (h1 : Lib.IsBuilderF 60 5 b b (Lib.byteCells bs') W') (h2 : Below b W W') (h3 : Lib.OthersKept 5 (some b) W W') : TxS w b X sv x y bz W' bs' :=
  ⟨h.slice.others h3 (by omega) (by decide), h.lab.others h3 hX (by decide), h.lp.others h3 (by omega) (by omega), h.below.trans (h2.mono hw), h1⟩
theorem TxS.on {w W W' : World} {b X : Nat} {sv : Value} {x y : ByteArray} {bz : Loop} {bs : List UInt8} (h : TxS w b X sv x y bz W bs) (hb : Below W.heap.size W W') : TxS w b X sv x y bz W' bs :=
  ⟨h.slice.below hb h.slice.lt, h.lab.below hb h.lab.lt, h.lp.below hb h.lp.lt, h.below.trans (hb.mono h.below.size), bld_below h.bld hb⟩
theorem str_cells (s : ByteArray) : Lib.strCells s = Lib.byteCells s.data.toList := by simp [Lib.strCells, Lib.byteCells]
theorem join_take (L : List Lab) (k : Nat) (hk : k < L.length) : joinL (L.take (k + 1)) = (if k = 0 then [] else joinL (L.take k) ++ [44]) ++ L[k].1.data.toList ++ [61] ++ escL L[k].2.data.toList := by
  rw [List.take_succ_eq_append_getElem hk]
  by_cases h0 : k = 0
  · subst h0
    rw [if_pos rfl]
    show labL L[0] = _
    unfold labL
    simp
  · rw [if_neg h0, join_snoc _ _ (fun e => h0 (by have := congrArg List.length e; rw [List.length_take, Nat.min_eq_left (by omega)] at this; exact this))]
    unfold labL
    simp
theorem right_cnt {L : List Lab} (h : rightB L = true) (k : Nat) (hk : k < L.length) : ∃ n, cntL L[k].2.data.toList = some n := by
  have hg := (right_good h).1 _ (List.getElem_mem hk)
  unfold goodB at hg
  simp only [Bool.and_eq_true] at hg
  have h2 := hg.2
  unfold valueB fewB at h2
  simp only [Bool.and_eq_true] at h2
  cases hc : cntL L[k].2.data.toList with
  | none => rw [hc] at h2; simp at h2
  | some n => exact ⟨n, rfl⟩

set_option maxHeartbeats 4000000 in
set_option maxRecDepth 100000 in
theorem text_in (n : Nat) (h3 : 3 ≤ n) (L : List Lab) (v : Value) (w : World) (hv : LblSl w v L) (hn : L.length ≤ 1000) (hs : smallLb L) :
    CallsIn Fence.wide n Try.prog 18 #[v] w fun e w' => e = .returned (TextV L) ∧ Below w.heap.size w w' := by
  have C1 := Lib.hid (fun W h => check_any L v W h hn hs)
  obtain ⟨ao, c, rfl, hc⟩ := hv.at_
  have HVV := Lib.hid hv
  obtain ⟨m, hm⟩ : ∃ m, m = L.length := ⟨_, rfl⟩
  have HM := Lib.hid hm
  rw [← hm] at hn C1 HVV
  rw [← hm]
  have HC := Lib.hid hc
  have HS := Lib.hid hs
  clear hm hc hs hv
  refine callsIn_of_wp_marks Try.func18 rfl trivial ?_ rfl
  simp only [Try.ntmps18, List.size_toArray, List.length_cons, List.length_nil, Nat.reduceAdd, Nat.reduceSub, Array.replicate_succ, Array.replicate_zero, List.push_toArray, List.append_toArray, List.nil_append, List.cons_append]
  gi_wp2_with fail
  refine ⟨trivial, fun _ => by omega, ?_⟩
  refine (callsIn_wide.2 (C1.out _ HVV.out)).mono ?_
  rintro e w1 ⟨⟨u, rfl, hu⟩, hb1⟩
  clear C1
  rcases hu with ⟨hr, rfl⟩ | ⟨hr, s, rfl⟩
  · have E1 := Lib.hid errno_ok
    have HR := Lib.hid hr
    clear hr
    gi_wp2_with fail
    refine ⟨trivial, fun _ => by omega, ?_⟩
    refine (callsIn_wide.2 (E1.out _)).mono ?_
    rintro e w2 ⟨rfl, rfl⟩
    gi_wp2_with fail
    refine ⟨trivial, fun _ => by omega, ?_⟩
    refine (callsIn_wide.2 (each_any _ _ _ _)).mono ?_
    rintro e w2 ⟨rfl, rfl⟩
    gi_wp2_with fail
    have hw1 := hb1.size
    obtain ⟨b, hb⟩ : ∃ b, b = w1.heap.size := ⟨_, rfl⟩
    obtain ⟨W0, hW0⟩ : ∃ W0, W0 = (w1.alloc (.cells #[.pointer none, .slice none 0 0] 60)).alloc (.cells #[.slice ao m c] 23) := ⟨_, rfl⟩
    have hz0 : W0.heap.size = b + 2 := by rw [hW0, hb]; simp
    have hb0 : Below w.heap.size w W0 := by
      rw [hW0]
      exact (hb1.alloc hw1 _).alloc (by simp; omega) _
    have hf0 : Lib.IsBuilderF 60 5 b b (Lib.byteCells []) W0 := by rw [hW0, hb]; exact (fresh_bld w1).alloc _
    have hs0 : HasC W0 (b + 1) 23 #[.slice ao m c] := by rw [hW0, hb]; exact HasC.at_ _ _ _ (by simp)
    rw [← hW0]
    rw [← hb] at hw1 ⊢
    have hlen := right_len HR.out
    clear hW0 hb
    refine range_eachL (Bn := b + 1) (c := c) (ao := ao) (L := L) (by omega) rfl rfl (by have := HM.out; omega) w.heap.size
      (fun k W => HasC W (b + 1) 23 #[.slice ao m c] ∧ Below w.heap.size w W ∧ Lib.IsBuilderF 60 5 b b (Lib.byteCells (joinL (L.take k))) W)
      (fun _ _ => False)
      (fun k W h => ⟨by rw [← HM.out]; exact h.1.cell 0, HC.out.below h.2.1⟩) ?_ ?_ ?_ ?_ ?_ ?_
    · rintro k W lo o ⟨hS, hbw, hB⟩ hL
      exact ⟨hS.put (by omega) _, below_put hbw _ _ (by omega), bld_put hB hL.2 (by omega) _⟩
    · rintro j W lo o h _
      exact h
    · intro o
      refine ⟨(hs0.alloc _).alloc _, (hb0.alloc (by omega) _).alloc (by simp; omega) _, ?_⟩
      exact (hf0.alloc _).alloc _
    · rintro k hk W ⟨hS, hbw, hB⟩ rd bz hL
      have hjt := join_take L k hk
      have hcn := right_cnt HR.out k hk
      have sm := HS.out _ (List.getElem_mem hk)
      have hjl := join_len (L.take k) (fun z hz => HS.out z (List.mem_of_mem_take hz))
      have hjk : (L.take k).length ≤ 6 := by rw [List.length_take]; omega
      obtain ⟨x, y, hxy⟩ : ∃ x y, L[k] = (x, y) := ⟨_, _, rfl⟩
      rw [hxy] at hjt hcn sm
      rw [hxy]
      unfold encE
      dsimp only at hjt hcn sm
      have hel := esc_len y.data.toList
      rw [lenL] at hel
      have hLt := hL.lt
      have HJT := Lib.hid hjt
      have HCN := Lib.hid hcn
      clear hxy hjt hcn
      gi_wp2_with fail
      refine ⟨hL.alloc _, ?_⟩
      have hT : TxS w b W.heap.size (.slice ao m c) x y bz ((W.alloc (.cells #[.string x, .string y] 41)).putObj (b + 2 + 1) (.loop bz)) (joinL (L.take k)) := by
        have hL1 := hL.alloc (.cells #[.string x, .string y] 41)
        rw [hz0] at hL1 hLt
        exact ⟨(hS.alloc _).put (by omega) _, (HasC.new W 41 _).put (by omega) _, hL1.put _, below_put (hbw.alloc (by have := hbw.size; omega) _) _ _ (by omega), bld_put (hB.alloc _) hL1.2 (by omega) _⟩
      rw [hz0] at hLt ⊢
      generalize (W.alloc (.cells #[.string x, .string y] 41)).putObj (b + 2 + 1) (.loop bz) = V at hT
      clear hS hbw hB hL
      obtain ⟨J, hJ⟩ : ∃ J, J = joinL (L.take k) := ⟨_, rfl⟩
      have hJ0 : k = 0 → J = [] := fun h => by rw [hJ, h, List.take_zero]; rfl
      have HJ0 := Lib.hid hJ0
      rw [← hJ] at hT HJT hjl
      clear hJ hJ0
      have hjl2 : J.length ≤ 60000 := by omega
      clear hjl
      have hk1 : k = 0 ∨ 0 < k := by omega
      obtain ⟨G, hG⟩ : ∃ G, G = (if k = 0 then [] else J ++ [44]) := ⟨_, rfl⟩
      have hGl : G.length ≤ 60001 := by
        rw [hG]
        split
        · simp
        · simp; omega
      obtain ⟨Y, hY⟩ : ∃ Y : ByteArray, Y = ⟨(escL y.data.toList).toArray⟩ := ⟨_, rfl⟩
      have hYs : Y.size ≤ 6000 := by
        have : Y.size = (escL y.data.toList).length := by rw [hY]; simp [ByteArray.size]
        omega
      have hYl : Y.data.toList = escL y.data.toList := by rw [hY]
      rw [← hG, ← hYl] at HJT
      have Wc := Lib.hid (fun W h hB => runeF_any b b (Lib.byteCells J) 44 (by decide) (by decide) W h (by rw [Lib.byteCells_length]; omega) hB)
      rw [comma_cells, ← Lib.byteCells_append] at Wc
      have W1 := Lib.hid (fun W h hB => writeF_any b b (Lib.byteCells G) x W h (by rw [Lib.byteCells_length]; omega) hB)
      have W2 := Lib.hid (fun W h hB => runeF_any b b (Lib.byteCells (G ++ x.data.toList)) 61 (by decide) (by decide) W h (by rw [Lib.byteCells_length, List.length_append, lenL]; omega) hB)
      have W3 := Lib.hid (fun W h hB => writeF_any b b (Lib.byteCells (G ++ x.data.toList ++ [61])) Y W h (by rw [Lib.byteCells_length, List.length_append, List.length_append, lenL]; simp only [List.length_cons, List.length_nil]; omega) hB)
      rw [str_cells, ← Lib.byteCells_append] at W1 W3
      rw [equals_cells, ← Lib.byteCells_append] at W2
      rw [← HJT.out] at W3
      have Q1 := Lib.hid (fun W => quoted_any y sm.2 HCN.out W)
      rw [← hY] at Q1
      have HG := Lib.hid hG
      clear hY hYl hG hel
      rcases hk1 with hk0 | hk0
      · subst hk0
        have hTG : TxS w b W.heap.size (.slice ao m c) x y bz V G := by
          have : G = J := by rw [HG.out, if_pos rfl, HJ0.out rfl]
          rw [this]
          exact hT
        clear hT
        have cx := hTG.lab.cell 0
        gi_wp2_with fail
        refine ⟨trivial, fun _ => by omega, ?_⟩
        refine (CallsIn.inRound _ (callsIn_wide.2 (W1.out _ hTG.bld (by have := hTG.slice.lt; omega)))).mono ?_
        rintro e V2 ⟨rfl, i1, i2, i3⟩
        have hT2 := hTG.step (by omega) hw1 i1 i2 i3
        clear hTG i1 i2 i3 W1 cx
        gi_wp2_with fail
        refine ⟨trivial, fun _ => by omega, ?_⟩
        refine (CallsIn.inRound _ (callsIn_wide.2 (W2.out _ hT2.bld (by have := hT2.slice.lt; omega)))).mono ?_
        rintro e V3 ⟨rfl, i1, i2, i3⟩
        have hT3 := hT2.step (by omega) hw1 i1 i2 i3
        clear hT2 i1 i2 i3 W2
        have cy := hT3.lab.cell 1
        gi_wp2_with fail
        refine ⟨trivial, fun _ => by omega, ?_⟩
        refine (CallsIn.inRound _ (callsIn_wide.2 (Q1.out _))).mono ?_
        rintro e V4 ⟨rfl, hb4⟩
        have hT4 := hT3.on hb4
        clear hT3 hb4 Q1 cy
        gi_wp2_with fail
        refine ⟨trivial, fun _ => by omega, ?_⟩
        refine (CallsIn.inRound _ (callsIn_wide.2 (W3.out _ hT4.bld (by have := hT4.slice.lt; omega)))).mono ?_
        rintro e V5 ⟨rfl, i1, i2, i3⟩
        have hT5 := hT4.step (by omega) hw1 i1 i2 i3
        clear hT4 i1 i2 i3 W3
        gi_wp2_with fail
        exact ⟨hT5.lp, hT5.slice, hT5.below, hT5.bld⟩
      · have hk2 : (0 : Int) < k := by omega
        gi_wp2_with fail
        refine ⟨trivial, fun _ => by omega, ?_⟩
        refine (CallsIn.inRound _ (callsIn_wide.2 (Wc.out _ hT.bld (by have := hT.slice.lt; omega)))).mono ?_
        rintro e V1 ⟨rfl, i1, i2, i3⟩
        have hTG := hT.step (by omega) hw1 i1 i2 i3
        clear hT i1 i2 i3 Wc
        rw [show J ++ [44] = G by rw [HG.out, if_neg (by omega)]] at hTG
        have cx := hTG.lab.cell 0
        gi_wp2_with fail
        refine ⟨trivial, fun _ => by omega, ?_⟩
        refine (CallsIn.inRound _ (callsIn_wide.2 (W1.out _ hTG.bld (by have := hTG.slice.lt; omega)))).mono ?_
        rintro e V2 ⟨rfl, i1, i2, i3⟩
        have hT2 := hTG.step (by omega) hw1 i1 i2 i3
        clear hTG i1 i2 i3 W1 cx
        gi_wp2_with fail
        refine ⟨trivial, fun _ => by omega, ?_⟩
        refine (CallsIn.inRound _ (callsIn_wide.2 (W2.out _ hT2.bld (by have := hT2.slice.lt; omega)))).mono ?_
        rintro e V3 ⟨rfl, i1, i2, i3⟩
        have hT3 := hT2.step (by omega) hw1 i1 i2 i3
        clear hT2 i1 i2 i3 W2
        have cy := hT3.lab.cell 1
        gi_wp2_with fail
        refine ⟨trivial, fun _ => by omega, ?_⟩
        refine (CallsIn.inRound _ (callsIn_wide.2 (Q1.out _))).mono ?_
        rintro e V4 ⟨rfl, hb4⟩
        have hT4 := hT3.on hb4
        clear hT3 hb4 Q1 cy
        gi_wp2_with fail
        refine ⟨trivial, fun _ => by omega, ?_⟩
        refine (CallsIn.inRound _ (callsIn_wide.2 (W3.out _ hT4.bld (by have := hT4.slice.lt; omega)))).mono ?_
        rintro e V5 ⟨rfl, i1, i2, i3⟩
        have hT5 := hT4.step (by omega) hw1 i1 i2 i3
        clear hT4 i1 i2 i3 W3
        gi_wp2_with fail
        exact ⟨hT5.lp, hT5.slice, hT5.below, hT5.bld⟩
    · rintro W ⟨hS, hbw, hB⟩ hD
      rw [List.take_length] at hB
      rw [hz0] at hD
      have S1 := Lib.hid (fun W h hB => stringK_any b b (joinL L) W h hB)
      have hv : TextV L = .tuple #[.string ⟨(joinL L).toArray⟩, .int .i64 0] := by unfold TextV; rw [if_pos HR.out]; rfl
      have HV := Lib.hid hv
      clear hv
      gi_wp2_with fail
      refine ⟨trivial, fun _ => by omega, ?_⟩
      refine (callsIn_wide.2 (S1.out _ hB (by have := hS.lt; omega))).mono ?_
      rintro e W5 ⟨rfl, hb5, hk5⟩
      clear S1
      gi_wp2_with fail
      refine ⟨by simp, .inl ⟨_, _, rfl, run_takeDeferred (b := b + 2) (hk5 _ _ hD (fun e => by have := Option.some.inj e; omega) (fun _ _ e => by cases e)), ?_⟩⟩
      exact ⟨_, results_tmp2 rfl _ _ _, by rw [HV.out]; rfl, below_put (hbw.trans (hb5.mono hw1)) _ _ (by omega)⟩
    · rintro j W h hD
      exact h.elim
  · have E1 := Lib.hid (errno_bad s)
    have hv : TextV L = .tuple #[.string { data := #[] }, .int .i64 40] := by unfold TextV; rw [if_neg (by rw [hr]; decide)]
    have HV := Lib.hid hv
    clear hr hv
    gi_wp2_with fail
    refine ⟨trivial, fun _ => by omega, ?_⟩
    refine (callsIn_wide.2 (E1.out _)).mono ?_
    rintro e w2 ⟨rfl, rfl⟩
    gi_wp2_with fail
    exact ⟨_, results_tmp2 rfl _ _ _, by rw [HV.out]; rfl, hb1⟩
theorem lText_any (L : List Lab) (v : Value) (w : World) (hv : LblSl w v L) (hn : L.length ≤ 1000) (hs : smallLb L) :
    Calls Try.prog 18 #[v] w fun e w' => e = .returned (TextV L) ∧ Below w.heap.size w w' :=
  callsIn_wide.1 (text_in 5 (by decide) L v w hv hn hs)
end Go.Proofs.Ytbcgjgefkkibbaa
