/- Package scope: a scope's terms, read. -/
import Derived.Test.YtekmdgjkadglmaaSReadM
import Derived.Test.YtekmdgjkadglmaaSFits
import Derived.Maps.OwnIn
namespace Go.Proofs.Ytekmdgjkadglmaa
open Go.RowKit Go.Shelf
attribute [local go_sem] Oper.semAt_some

theorem cutf_any (s : ByteArray) (w : World) :
    Calls Try.prog 23 #[.string s] w fun e w' => e = .returned (.func (.func 29) #[] #[.pointer (some ⟨w.heap.size, 0, none⟩)]) ∧ w' = w.alloc (.cells #[.string s] 9) := by
  go_enter Try.func23, Try.ntmps23
  go_wp2
  go_ret
  exact ⟨rfl, rfl⟩
/-- A label more. -/
theorem wpListIn_lab {F : Fence} {nF : Nat} (W : World) {ops : Array Oper} {rest : List Oper} {o : Oper} {a : Act} {Q : Exit → Act → World → Prop} (hgd : o.guard = none) (s x : Operand)
    (ho : o.op = .call { callee := .builtin .append, args := #[s, x], argTypes := #[29, 29] })
    (base : Nat) (v : Value) (L : List Lab) (y : Lab) (hs : a.eval s = v) (hown : W.ownsRow base 37 2 v L.length (cellsL L))
    (b : Nat) (hx : a.eval x = .slice (some ⟨b, 0, none⟩) 1 1) (hb : HasC W b 37 #[.string y.1, .string y.2]) (hL : L.length ≤ 5000) (hbase : base ≤ W.heap.size)
    (h : ∀ v' w', w'.ownsRow base 37 2 v' (L ++ [y]).length (cellsL (L ++ [y])) → W.grownBy w' v.ownBlock → wpListIn F nF Try.prog ops Q rest (a.put o.dst v') w') : wpListIn F nF Try.prog ops Q (o :: rest) a W := by
  obtain ⟨i0, hi, hz0, hz1, hz2⟩ := partsL infoLb
  refine wpListIn_append_own_at W hgd s x 29 ho base 37 i0 (.agg #[.string { data := #[] }, .string { data := #[] }]) 2 32 Try.underlying29 hi hz0 hz1 hz2 rfl (by decide) v L.length (cellsL L) hs hown ⟨b, 0, none⟩ 1 1 (cellsL [y]) hx rfl
    (fun j u hj => ?_) (cellsL_one [y]) (by unfold maxLen; omega) (by omega) hbase (fun v' w' h1 h2 _ _ => h v' w' ?_ h2)
  · have e : cellsL [y] = [.string y.1, .string y.2] := rfl
    rw [e] at hj
    rw [add_block b j]
    match j, hj with
    | 0, hj =>
      simp only [List.getElem?_cons_zero, Option.some.injEq] at hj
      subst hj
      exact hb.cell 0
    | 1, hj =>
      simp only [List.getElem?_cons_succ, List.getElem?_cons_zero, Option.some.injEq] at hj
      subst hj
      exact hb.cell 1
  · rw [List.length_append, cellsL_app]
    exact h1
/-- What holds when so many parts have been read. -/
structure RdI (w : World) (s : ByteArray) (k : Nat) (W : World) : Prop where
  row : ∃ lv, HasC W w.heap.size 29 #[lv] ∧ W.ownsRow (w.heap.size + 5) 37 2 lv (((segsL s).take k).map termV).length (cellsL (((segsL s).take k).map termV))
  right : HasC W (w.heap.size + 1) 4 #[.bool true]
  box : HasC W (w.heap.size + 2) 9 #[.string s]
  bel : Below w.heap.size w W
  ok : ∀ t ∈ (segsL s).take k, okT t = true
  few : k ≤ 4
def RdX (w : World) (s : ByteArray) (W : World) : Prop := (∃ lv, HasC W w.heap.size 29 #[lv]) ∧ HasC W (w.heap.size + 1) 4 #[.bool false] ∧ Below w.heap.size w W ∧ scopeB s = false
theorem grown_of_below {W W' : World} (hb : Below W.heap.size W W') : W.grownBy W' none := ⟨hb.os, hb.tape, hb.output, hb.size, fun k hk _ => hb.block k hk⟩
theorem RdI.on {w W W' : World} {s : ByteArray} {k : Nat} (h : RdI w s k W) (hb : Below W.heap.size W W') : RdI w s k W' := by
  obtain ⟨⟨lv, h1, h2⟩, h3, h4, h5, h6, h7⟩ := h
  exact ⟨⟨lv, h1.below hb h1.lt, h2.kept (grown_of_below hb) (by cases lv.ownBlock <;> simp)⟩, h3.below hb h3.lt, h4.below hb h4.lt, h5.trans (hb.mono h5.size), h6, h7⟩
theorem RdI.put {w W : World} {s : ByteArray} {k : Nat} (h : RdI w s k W) (l : Nat) (hl : w.heap.size + 3 ≤ l) (hl2 : l ≤ w.heap.size + 4) (o : Obj) : RdI w s k (W.putObj l o) := by
  obtain ⟨⟨lv, h1, h2⟩, h3, h4, h5, h6, h7⟩ := h
  exact ⟨⟨lv, h1.put (by omega) o, h2.kept (grownBy_putObj' W l o) (.inr fun e => by have := (h2.lt _ e).1; omega)⟩, h3.put (by omega) o, h4.put (by omega) o, below_put h5 l o (by omega), h6, h7⟩
theorem RdX.put {w W : World} {s : ByteArray} (h : RdX w s W) (l : Nat) (hl : w.heap.size + 3 ≤ l) (o : Obj) : RdX w s (W.putObj l o) := by
  obtain ⟨⟨lv, h1⟩, h3, h5, h6⟩ := h
  exact ⟨⟨lv, h1.put (by omega) o⟩, h3.put (by omega) o, below_put h5 l o (by omega), h6⟩

/-- Behind the deferred calls' block all is as it was. -/
theorem rd_put {W W' : World} {v : Value} {L : List Lab} {l : Nat} (h : LblSl W v L) (hg : W.grownBy W' (some l)) (hne : W.heap[l]? = some (.deferred (some []))) : LblSl W' v L := by
  rcases h with h | ⟨g, o, c, hv, hgl, hc⟩
  · exact .inl h
  · by_cases hL : L.length = 0
    · have : L = [] := List.length_eq_zero_iff.1 hL
      subst this
      exact .inl ⟨_, _, hv, rfl⟩
    · have hgne : g ≠ l := fun e => by
        have := (hc 0 (by omega)).1
        simp [World.cell?, e, hne] at this
      have hcell : ∀ (i : Nat) (u : Value), W.cell? ⟨g, i, none⟩ = some u → W'.cell? ⟨g, i, none⟩ = some u := fun i u hu => by
        rw [World.cell?_of_block (hg.block g hgl (by intro e; exact hgne (Option.some.inj e)))]
        exact hu
      exact .inr ⟨g, o, c, hv, Nat.lt_of_lt_of_le hgl hg.size, fun j hj => ⟨hcell _ _ (hc j hj).1, hcell _ _ (hc j hj).2⟩⟩
theorem grown_set5 (W : World) (b i : Nat) (v : Value) : W.grownBy (W.setCell ⟨b, i, none⟩ v) (some b) :=
  ⟨rfl, rfl, rfl, by simp [World.setCell], fun k _ hk => Below.heap_setCell W ⟨b, i, none⟩ v k (fun e => hk (by rw [e]))⟩
theorem RdI.bad {w W : World} {s t : ByteArray} {k : Nat} (h : RdI w s k W) (hm : t ∈ segsL s) (hb : okT t = false) : RdX w s (W.setCell ⟨w.heap.size + 1, 0, none⟩ (.bool false)) := by
  obtain ⟨⟨lv, h1, _⟩, h3, _, h5, _, _⟩ := h
  exact ⟨⟨lv, h1.far _ _ (by simp)⟩, (h3.set 0 _).eq rfl, h5.setCell (p := ⟨w.heap.size + 1, 0, none⟩) (by simp) _, scope_bad hm hb⟩
theorem RdI.long {w W : World} {s : ByteArray} (h : RdI w s 4 W) (hk : 4 < (segsL s).length) : RdX w s (W.setCell ⟨w.heap.size + 1, 0, none⟩ (.bool false)) := by
  obtain ⟨⟨lv, h1, _⟩, h3, _, h5, _, _⟩ := h
  exact ⟨⟨lv, h1.far _ _ (by simp)⟩, (h3.set 0 _).eq rfl, h5.setCell (p := ⟨w.heap.size + 1, 0, none⟩) (by simp) _, scope_long hk⟩
/-- Its cells. -/
theorem RdI.cells {w W : World} {s : ByteArray} {k : Nat} (h : RdI w s k W) (hk : k ≤ (segsL s).length) : ∃ ao cp, HasC W w.heap.size 29 #[.slice ao k cp] ∧ W.ownsRow (w.heap.size + 5) 37 2 (.slice ao k cp) (((segsL s).take k).map termV).length (cellsL (((segsL s).take k).map termV)) := by
  obtain ⟨⟨lv, h1, h2⟩, _⟩ := h
  have hlk : (((segsL s).take k).map termV).length = k := by rw [List.length_map, List.length_take]; omega
  rcases h2.2 with ⟨hv, h0⟩ | ⟨g, cap, cur, hv, _⟩
  · refine ⟨none, 0, ?_, ?_⟩
    · rw [hv] at h1; rw [hlk] at h0; rw [h0]; exact h1
    · rw [hv] at h2; rw [hlk] at h0; rw [h0] at h2 ⊢; exact h2
  · rw [hlk] at hv
    exact ⟨_, cap, by rw [← hv]; exact h1, by rw [← hv]; exact h2⟩
/-- A term more. -/
theorem RdI.more {w V W : World} {s t : ByteArray} {k : Nat} {v v' : Value} (h : RdI w s k V) (hV : w.heap.size + 5 ≤ V.heap.size) (hk : k < (segsL s).length) (ht : (segsL s)[k] = t) (hok : okT t = true) (h4 : k ≠ 4) {o : Obj}
    (hg : (V.alloc o).grownBy W v.ownBlock) (hv : ∀ g, v.ownBlock = some g → w.heap.size + 5 ≤ g) (hown : W.ownsRow (w.heap.size + 5) 37 2 v' ((((segsL s).take k).map termV) ++ [termV t]).length (cellsL ((((segsL s).take k).map termV) ++ [termV t]))) :
    RdI w s (k + 1) (W.setCell ⟨w.heap.size, 0, none⟩ v') := by
  obtain ⟨⟨lv, h1, _⟩, h3, h4', h5, h6, h7⟩ := h
  have htk : (segsL s).take (k + 1) = (segsL s).take k ++ [t] := by rw [List.take_succ_eq_append_getElem hk, ht]
  have hkeep : ∀ {b : Nat} {T : TypeId} {cs : Array Value}, HasC V b T cs → b < w.heap.size + 5 → HasC W b T cs := fun {b T cs} hc hlt =>
    (hg.block b (Nat.lt_of_lt_of_le hc.lt (by simp)) (fun e => by have := hv b e.symm; omega)).trans (hc.alloc o)
  have hlW : w.heap.size < W.heap.size := (hkeep h1 (by omega)).lt
  have hgs : W.grownBy (W.setCell ⟨w.heap.size, 0, none⟩ v') (some w.heap.size) := grown_set5 W w.heap.size 0 v'
  refine ⟨⟨v', ((hkeep h1 (by omega)).set 0 v').eq rfl, ?_⟩, (hkeep h3 (by omega)).far _ _ (by simp), (hkeep h4' (by omega)).far _ _ (by simp), ?_, ?_, by omega⟩
  · rw [htk, List.map_append]
    exact hown.kept hgs (.inr fun e => by have := (hown.lt _ e).1; omega)
  · exact ((h5.alloc h5.size o).grown hg (by have := h5.size; simp; omega) (fun g e => by have := hv g e; omega)).setCell (p := ⟨w.heap.size, 0, none⟩) (Nat.le_refl _) v'
  · intro x hx
    rw [htk] at hx
    rcases List.mem_append.1 hx with hx | hx
    · exact h6 x hx
    · obtain rfl := List.mem_singleton.1 hx
      exact hok

set_option maxHeartbeats 2000000 in
set_option maxRecDepth 100000 in
theorem read_in (n : Nat) (h3 : 3 ≤ n) (s : ByteArray) (hs : s.size ≤ 3000) (w : World) :
    CallsIn Fence.wide n Try.prog 16 #[.string s] w fun e w' => (∃ v, e = .returned (.tuple #[v, .bool (scopeB s)]) ∧ (scopeB s = true → LblSl w' v ((segsL s).map termV))) ∧ Below w.heap.size w w' := by
  refine callsIn_of_wp_marks Try.func16 rfl trivial ?_ rfl
  simp only [Try.ntmps16, List.size_toArray, List.length_cons, List.length_nil, Nat.reduceAdd, Nat.reduceSub, Array.replicate_succ, Array.replicate_zero, List.push_toArray, List.append_toArray, List.nil_append, List.cons_append]
  gi_wp2
  refine wpIn_scope' ?_
  gi_wp2_with fail
  refine wpIn_label ?_
  gi_wp2_with fail
  refine ⟨trivial, fun _ => by omega, ?_⟩
  refine (callsIn_wide.2 (cutf_any _ _)).mono ?_
  rintro e w2 ⟨rfl, rfl⟩
  gi_wp2_with fail
  obtain ⟨W0, hW0⟩ : ∃ W0, W0 = ((w.alloc (.cells #[.slice none 0 0] 29)).alloc (.cells #[.bool true] 4)).alloc (.cells #[.string s] 9) := ⟨_, rfl⟩
  have hz0 : W0.heap.size = w.heap.size + 3 := by rw [hW0]; simp
  have hb0 : Below w.heap.size w W0 := by
    rw [hW0]
    exact (((Below.refl _ w).alloc (Nat.le_refl _) _).alloc (by simp) _).alloc (by simp; omega) _
  have ht0 : HasC W0 w.heap.size 29 #[.slice none 0 0] := by rw [hW0]; exact ((HasC.new w _ _).alloc _).alloc _
  have hr0 : HasC W0 (w.heap.size + 1) 4 #[.bool true] := by rw [hW0]; exact (HasC.at_ _ _ _ (by simp)).alloc _
  have hs0 : HasC W0 (w.heap.size + 2) 9 #[.string s] := by rw [hW0]; exact HasC.at_ _ _ _ (by simp)
  rw [← hW0]
  clear hW0
  obtain ⟨T, hT⟩ : ∃ T, T = segsL s := ⟨_, rfl⟩
  refine range_parts (Bn := w.heap.size + 2) (s := s) (by omega) rfl rfl hs (RdI w s) (fun j W => j = .exit 0 ∧ RdX w s W) (fun k W W' h _ hb => h.on hb) (fun W h => h.box.cell 0) ?_ ?_ ?_ ?_ ?_ ?_
  · intro k W lo o h _
    exact h.put _ (by omega) (by omega) _
  · rintro j W lo o ⟨hj, h⟩ _
    exact ⟨hj, h.put _ (by omega) _⟩
  · intro o
    refine ⟨⟨_, (ht0.alloc _).alloc _, ?_⟩, (hr0.alloc _).alloc _, (hs0.alloc _).alloc _, (hb0.alloc (by omega) _).alloc (by simp; omega) _, by simp, by omega⟩
    rw [List.take_zero]
    exact World.ownsRow_nil _ _ _ _
  · rintro k hk W hI rd bz hL
    have hLt := hL.lt
    obtain ⟨t, ht⟩ : ∃ t, (segsL s)[k] = t := ⟨_, rfl⟩
    rw [ht]
    have hmem : t ∈ segsL s := by rw [← ht]; exact List.getElem_mem hk
    have hsz : t.size ≤ 3000 := by have := segs_size s t hmem; omega
    have hsz2 := cutV_size 61 t
    unfold encC
    obtain ⟨c1, hc1⟩ : ∃ c1, c1 = (cutV 61 t).1 := ⟨_, rfl⟩
    obtain ⟨c2, hc2⟩ : ∃ c2, c2 = (cutV 61 t).2.1 := ⟨_, rfl⟩
    obtain ⟨c3, hc3⟩ : ∃ c3, c3 = (cutV 61 t).2.2 := ⟨_, rfl⟩
    have hok : okT t = (c3 && isPatB c2) := by rw [hc3, hc2]; rfl
    have htv : termV t = (c1, c2) := by rw [hc1, hc2]; rfl
    rw [← hc1, ← hc2] at hsz2
    rw [← hc1, ← hc2, ← hc3]
    have HOK := Lib.hid hok
    have HTV := Lib.hid htv
    have HT := Lib.hid ht
    have HMEM := Lib.hid hmem
    have P1 := Lib.hid (fun W => sPat_any c2 (by omega) W)
    clear hc1 hc2 hc3 hok htv ht hsz hmem
    gi_wp2_with fail
    refine ⟨hL.alloc _, ?_⟩
    have hX := (HasC.new W 37 #[.string c1, .string c2]).put (L := W0.heap.size + 1) (by omega) (.loop bz)
    have hI1 := (hI.on ((Below.refl _ _).alloc (Nat.le_refl _) (.cells #[.string c1, .string c2] 37))).put (W0.heap.size + 1) (by omega) (by omega) (.loop bz)
    have hL1 := (hL.alloc (.cells #[.string c1, .string c2] 37)).put (.loop bz)
    generalize (W.alloc (.cells #[.string c1, .string c2] 37)).putObj (W0.heap.size + 1) (.loop bz) = V at hX hI1 hL1
    clear hI hL
    obtain ⟨ao, cp, hrow, hown⟩ := hI1.cells (Nat.le_of_lt hk)
    have HI := Lib.hid hI1
    have HROW := Lib.hid hrow
    have hVs : w.heap.size + 5 ≤ V.heap.size := by have := hL1.lt; omega
    have cr : V.cell? ⟨w.heap.size, 0, none⟩ = some (.slice ao k cp) := hrow.cell 0
    have zr := hI1.right.frozen 0
    have cq := hI1.right.cell 0
    clear hrow hown hI1
    cases c3 with
    | false =>
      gi_wp2_with fail
      exact ⟨hL1.set _ _ (by simp; omega) (by simp; omega), rfl, HI.out.bad HMEM.out (by rw [HOK.out]; rfl)⟩
    | true =>
      by_cases h4 : k = 4
      · subst h4
        gi_wp2_with fail
        exact ⟨hL1.set _ _ (by simp; omega) (by simp; omega), rfl, HI.out.long hk⟩
      · have h4i : ((k : Int) == 4) = false := by simp; omega
        have cx : V.cell? ⟨W.heap.size, 1, none⟩ = some (.string c2) := hX.cell 1
        gi_wp2_with fail
        refine ⟨trivial, fun _ => by omega, ?_⟩
        refine (CallsIn.inRound _ (callsIn_wide.2 (P1.out _))).mono ?_
        rintro e V2 ⟨rfl, hb2⟩
        have hI2 := HI.out.on hb2
        have hX2 := hX.below hb2 hX.lt
        have hL2 := hL1.below hb2 hL1.lt
        have hVs2 : w.heap.size + 5 ≤ V2.heap.size := Nat.le_trans hVs hb2.size
        clear cx hX hL1 hb2 P1 HI HROW cr zr cq h4i
        obtain ⟨ao2, cp2, hrow, hown⟩ := hI2.cells (Nat.le_of_lt hk)
        have HI := Lib.hid hI2
        have HOWN := Lib.hid hown
        have cr : V2.cell? ⟨w.heap.size, 0, none⟩ = some (.slice ao2 k cp2) := hrow.cell 0
        have zr := hI2.right.frozen 0
        have cq := hI2.right.cell 0
        have HX := Lib.hid hX2
        have cx0 : V2.cell? ⟨W.heap.size, 0, none⟩ = some (.string c1) := hX2.cell 0
        have cx1 : V2.cell? ⟨W.heap.size, 1, none⟩ = some (.string c2) := hX2.cell 1
        have HROW := Lib.hid hrow
        clear hI2 hown hX2 hrow
        obtain ⟨ip, hip⟩ : ∃ ip, ip = isPatB c2 := ⟨_, rfl⟩
        rw [← hip] at HOK ⊢
        clear hip
        cases ip with
        | false =>
          gi_wp2_with fail
          exact ⟨hL2.set _ _ (by simp; omega) (by simp; omega), rfl, HI.out.bad HMEM.out HOK.out⟩
        | true =>
          have hyy : HasC (V2.alloc (.cells #[.string c1, .string c2] 37)) V2.heap.size 37 #[.string (termV t).1, .string (termV t).2] := by rw [HTV.out]; exact HasC.new _ _ _
          have HYY := Lib.hid hyy
          have hlk : (((segsL s).take k).map termV).length ≤ 5000 := by have := HI.out.few; rw [List.length_map, List.length_take]; omega
          have HLK := Lib.hid hlk
          clear hyy hlk cq zr
          gi_wp2_with (gi_at_builtin; refine wpListIn_lab _ (by rfl) (.tmp 22) (.tmp 24) (by rfl) (w.heap.size + 5) (.slice ao2 k cp2) (((segsL s).take k).map termV) (termV t) (by rfl) (HOWN.out.alloc _) _ (by rfl) HYY.out HLK.out (by simp; omega) ?_; intro v' w1 hown' hgrow; obtain ⟨g3, cap3, rfl, _, _⟩ := hown'.form (by rw [List.length_append]; simp); have hm1 := hgrow.block w.heap.size (by simp; omega) (fun e => by have := (HOWN.out.lt _ e.symm).1; omega); have hrow1 : HasC w1 w.heap.size 29 #[.slice ao2 k cp2] := hm1.trans (HROW.out.alloc _); have zq := hrow1.frozen 0; have czq := hrow1.cell 0)
          have hN := HI.out.more hVs2 hk HT.out HOK.out h4 hgrow (fun g e => (HOWN.out.lt _ e).1) hown'
          have hL3 : Lp W0.heap.size (.loop bz) w1 := ⟨by rw [hgrow.block _ (by simp; omega) (fun e => by have := (HOWN.out.lt _ e.symm).1; omega)]; exact (hL2.alloc _).1, by rw [hgrow.block _ (by simp; omega) (fun e => by have := (HOWN.out.lt _ e.symm).1; omega)]; exact (hL2.alloc _).2⟩
          have hle : ((((segsL s).take k).map termV) ++ [termV t]).length = min k (segsL s).length + 1 := by simp
          rw [hle] at hN
          exact ⟨hL3.set _ _ (by simp; omega) (by simp; omega), hN⟩
  · rintro W hI hK
    obtain ⟨ao, cp, hrow, hown⟩ := hI.cells (Nat.le_refl _)
    rw [List.take_length] at hown
    have hsl := lblSl_of_owns hown
    have hfew := hI.few
    have hokA : ∀ t ∈ segsL s, okT t = true := fun t ht => hI.ok t (by rw [List.take_length]; exact ht)
    have hsm : smallLb ((segsL s).map termV) := fun x hx => by
      obtain ⟨t, ht, rfl⟩ := List.mem_map.1 hx
      have h1 := segs_size s t ht
      have h2 := cutV_size 61 t
      exact ⟨Nat.le_trans h2.1 (by omega), Nat.le_trans h2.2 (by omega)⟩
    have hgood := fun hne => scope_good hokA hfew hne
    have hnone := fun h => scope_none (s := s) h
    obtain ⟨m, hm⟩ : ∃ m, m = (segsL s).length := ⟨_, rfl⟩
    have R1 := Lib.hid (fun V v h => lRight_any ((segsL s).map termV) v V h (by rw [List.length_map]; omega) hsm)
    rw [← hm] at hrow hgood hnone hown hfew hsl
    rw [hz0] at hK
    have HSL := Lib.hid hsl
    have HG := Lib.hid hgood
    have HN := Lib.hid hnone
    have HB := Lib.hid hI.bel
    have HK := Lib.hid hK
    have cr := hI.right.cell 0
    have c0 : W.cell? ⟨w.heap.size, 0, none⟩ = some (.slice ao m cp) := hrow.cell 0
    clear hrow hown hsl hgood hnone hsm hokA hI hm
    by_cases h0 : m = 0
    · subst h0
      have hv := HN.out rfl
      have HV := Lib.hid hv
      clear hv
      gi_wp2_with fail
      refine ⟨trivial, ?_⟩
      gi_wp2_with fail
      rw [Exit.noGoto_ret]
      refine ⟨by simp, .inl ⟨_, _, rfl, run_takeDeferred (b := w.heap.size + 3) HK.out, ?_⟩⟩
      have hg := grownBy_putObj' W (w.heap.size + 3) (.deferred none)
      refine ⟨_, results_tmp2 rfl _ _ _, ⟨.slice ao 0 cp, ?_, fun _ => rd_put HSL.out hg HK.out⟩, HB.out.grown hg HB.out.size (fun k e => by cases e; omega)⟩
      rw [HV.out]
      rfl
    · have h0i : (0 : Int) < (m : Int) := by omega
      gi_wp2_with fail
      refine ⟨trivial, fun _ => by omega, ?_⟩
      refine (callsIn_wide.2 (R1.out _ _ HSL.out)).mono ?_
      rintro e W2 ⟨rfl, hb2⟩
      have hs2 := HSL.out.below hb2
      have HS2 := Lib.hid hs2
      have HB2 := Lib.hid (HB.out.trans (hb2.mono HB.out.size))
      have HK2 : Hid (W2.heap[w.heap.size + 3]? = some (.deferred (some []))) := (hb2.block _ (Array.getElem?_eq_some_iff.1 HK.out).1).trans HK.out
      have HG2 := Lib.hid (HG.out h0)
      have hb3 := hb2
      have c0' : W2.cell? ⟨w.heap.size, 0, none⟩ = some (.slice ao m cp) := (hb2.cell (p := ⟨w.heap.size, 0, none⟩) (World.block_lt_of_cell? _ _ c0)).trans c0
      clear hs2 hb2 hb3 c0 cr R1 HSL HG
      obtain ⟨rb, hrb⟩ : ∃ rb, rb = rightB ((segsL s).map termV) := ⟨_, rfl⟩
      rw [← hrb] at HG2 ⊢
      clear hrb
      have hg := grownBy_putObj' W2 (w.heap.size + 3) (.deferred none)
      have HGR := Lib.hid hg
      clear hg
      cases rb with
      | true =>
        gi_wp2_with fail
        rw [Exit.noGoto_ret]
        refine ⟨by simp, .inl ⟨_, _, rfl, run_takeDeferred (b := w.heap.size + 3) HK2.out, ?_⟩⟩
        refine ⟨_, results_tmp2 rfl _ _ _, ⟨.slice ao m cp, ?_, fun _ => rd_put HS2.out HGR.out HK2.out⟩, HB2.out.grown HGR.out HB2.out.size (fun k e => by cases e; omega)⟩
        rw [HG2.out]
        rfl
      | false =>
        gi_wp2_with fail
        rw [Exit.noGoto_ret]
        refine ⟨by simp, .inl ⟨_, _, rfl, run_takeDeferred (b := w.heap.size + 3) HK2.out, ?_⟩⟩
        refine ⟨_, results_tmp2 rfl _ _ _, ⟨.slice none 0 0, ?_, fun h => by rw [HG2.out] at h; cases h⟩, HB2.out.grown HGR.out HB2.out.size (fun k e => by cases e; omega)⟩
        rw [HG2.out]
        rfl
  · rintro j W ⟨rfl, ⟨lv, hrow⟩, hright, hbel, hv⟩ hK
    have cr := hright.cell 0
    have HV := Lib.hid hv
    have HB := Lib.hid hbel
    rw [hz0] at hK
    have HK := Lib.hid hK
    clear hrow hright hv hbel hK
    have hq : ∀ b : Bool, ¬ (some undef = some (Value.bool b)) := fun b h => by simp [undef] at h
    have HQ := Lib.hid hq
    clear hq
    gi_wp2_with fail
    any_goals (exact (HQ.out _ (by assumption)).elim)
    refine ⟨trivial, ?_⟩
    gi_wp2_with fail
    rw [Exit.noGoto_ret]
    refine ⟨by simp, .inl ⟨_, _, rfl, run_takeDeferred (b := w.heap.size + 3) HK.out, ?_⟩⟩
    have hg := grownBy_putObj' W (w.heap.size + 3) (.deferred none)
    refine ⟨_, results_tmp2 rfl _ _ _, ⟨.slice none 0 0, ?_, fun h => by rw [HV.out] at h; cases h⟩, HB.out.grown hg HB.out.size (fun k e => by cases e; omega)⟩
    rw [HV.out]
    rfl
theorem read_any (s : ByteArray) (hs : s.size ≤ 3000) (w : World) :
    Calls Try.prog 16 #[.string s] w fun e w' => (∃ v, e = .returned (.tuple #[v, .bool (scopeB s)]) ∧ (scopeB s = true → LblSl w' v ((segsL s).map termV))) ∧ Below w.heap.size w w' :=
  callsIn_wide.1 (read_in 5 (by decide) s hs w)
end Go.Proofs.Ytekmdgjkadglmaa
