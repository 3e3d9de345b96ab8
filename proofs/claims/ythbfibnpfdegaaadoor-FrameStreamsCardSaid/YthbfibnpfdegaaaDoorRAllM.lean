/- Package frame: All's walk. -/
import Derived.Test.YthbfibnpfdegaaaDoorRAllC
import Derived.Deep.AppendLies
namespace Go.Proofs.YthbfibnpfdegaaaDoor
open Go.RowKit Go.Shelf
attribute [local go_sem] Oper.semAt_some

theorem errV_ferr (e : Int) : (errV e = .nilIface ∧ e = 0) ∨ errV e = faultV e := by
  unfold errV
  by_cases h : e = 0
  · exact .inl ⟨if_pos h, h⟩
  · exact .inr (if_neg h)
theorem nx_size (s : ByteArray) : (nxF s).2.1.size ≤ s.size ∧ ((nxF s).2.2 = 0 → (nxF s).2.1.size < s.size) := by
  obtain ⟨ts, r, E, h⟩ := all_total s.size s (Nat.le_refl _)
  have hl := (all_len h).2
  rcases nx_all h with ⟨h1, h2, h3, _⟩ | ⟨_, _, _, _, h2⟩
  · exact ⟨by rw [h3]; exact hl, fun h0 => absurd (h1.symm.trans h0) h2⟩
  · exact ⟨by omega, fun _ => h2⟩
/-- What holds when the loop has been left. -/
def AllX (w : World) (o : Loop) (r : ByteArray) (E : Int) (ts : List ByteArray) (W : World) : Prop := ∃ v, AllW w { o with state := .done, pending := some (.exit 0) } v ts r E W
section
variable {P : Program} {n : Nat}
/-- A range over a function, its record a name: the one call, the jump that a round has left. -/
theorem range_loop {g : Operand} {ps : Array Tmp} {assign body : Code} {Q : Exit → Act → World → Prop} {a : Act} {w : World} (h1 : 1 ≤ n) {gf : Nat} {lb : Array Value}
    (hg : a.eval g = .func (.func gf) #[] lb) (eg : ∀ args w, (callFunc gf args).run P w = .ok (.enter gf args) w)
    (h : ∀ o : Loop, o.state = .ready → o.pending = none → o.tmps = a.tmps → o.params = ps → o.assign = assign → o.body = body →
      CallsIn Fence.wide (n - 1) P gf (#[.func (.yield (w.heap.size + 1)) #[] #[]] ++ lb) ((w.alloc (.deferred (some []))).alloc (.loop o)) fun e W => (∃ v, e = .returned v) ∧
        ∃ (o' : Loop) (c : Code), W.heap[w.heap.size + 1]? = some (.loop o') ∧ o'.state = .done ∧ o'.pending = some c ∧
          c.wpIn Fence.wide n P Q { a with defers := { target := .collected w.heap.size, args := #[] } :: a.defers } (W.putObj (w.heap.size + 1) (.loop { o' with state := .exhausted }))) :
    (Code.rangeFunc g ps assign body).wpIn Fence.wide n P Q a w := by
  refine wpIn_rangeFunc fun fn _ => ?_
  have he := run_enterLoop_outer (P := P) (w := w) fn a.tmps ps assign body
  have hc := h { state := .ready, pending := none, fn, tmps := a.tmps, params := ps, assign, body, defers := w.heap.size } rfl rfl rfl rfl rfl rfl
  generalize (w.alloc (.deferred (some []))).alloc (.loop { state := .ready, pending := none, fn, tmps := a.tmps, params := ps, assign, body, defers := w.heap.size }) = W1 at he hc
  refine ⟨_, _, W1, { target := .fn (.func gf) lb, args := #[.func (.yield (w.heap.size + 1)) #[] #[]] }, W1, gf, _, W1, he, ?_, fun _ _ => trivial, ?_, fun _ => h1, hc.mono ?_⟩
  · simp only [resolve, hg]
    simp [go_sem]
  · simp [invoke, go_sem, eg]
  · rintro e W ⟨⟨v, rfl⟩, o', c, hl, hs, hp, hc⟩
    exact ⟨some c, _, by rw [run_endLoop hl (by rw [hs]; simp), hp], hc⟩
/-- A call of yield: the round. -/
theorem yield_round {l : Nat} {o : Loop} {W : World} {args : Array Value} {R : Ending → World → Prop} (hl : W.heap[l]? = some (.loop o)) (hsz : args.size = o.params.size)
    (h : o.assign.wpIn (Fence.wide.inRound l) n P (Exit.then (fun a₁ w₁ => ∃ w₂, (Instr.beginRound l).run P w₁ = .ok () w₂ ∧ o.body.wpIn (Fence.wide.inRound l) n P (roundPost P l R) a₁ w₂) (fun _ _ _ => False))
      { tmps := (o.params.zip args).foldl (fun tmps (t, a) => tmps.setIfInBounds t a) o.tmps, defers := [] } W) : YieldAt Fence.wide n P l args W R :=
  ⟨_, _, _, _, run_yield hl hsz, roundIn_of_wpIn trivial h⟩
end

set_option maxHeartbeats 1000000 in
set_option maxRecDepth 100000 in
theorem all_in {am af : Addr} {N : Nat} (n : Nat) (h3 : 3 ≤ n) {s r : ByteArray} {ts : List ByteArray} {E : Int} (hs : s.size ≤ 1000000) (h : AllR s ts r E) (w : World) (hS : SentR am af N w) :
    CallsIn Fence.wide n Tryd.prog 18 #[.string s] w fun e w' => (∃ v, e = .returned (.tuple #[v, .string r, .int .i64 E]) ∧ StrSl w' v ts) ∧ Below w.heap.size w w' := by
  have hlen := all_len h
  have HH := Lib.hid h
  clear h
  refine callsIn_of_wp_marks Tryd.func18 rfl trivial ?_ rfl
  simp only [Tryd.ntmps18, List.size_toArray, List.length_cons, List.length_nil, Nat.reduceAdd, Nat.reduceSub, Array.replicate_succ, Array.replicate_zero, List.push_toArray, List.append_toArray, List.nil_append, List.cons_append]
  gi_wp2
  refine wpIn_scope' ?_
  gi_wp2_with fail
  refine wpIn_label ?_
  gi_wp2_with fail
  refine ⟨trivial, fun _ => by omega, ?_⟩
  refine (callsIn_wide.2 (frames_any s _)).mono ?_
  rintro e w2 ⟨rfl, rfl⟩
  gi_wp2_with fail
  refine wpIn_mono (Q := fun e a' W => e = .exit 0 ∧ (∃ o v, AllW w o v ts r E W) ∧
    a' = { tmps := #[.string s, undef, .slice none 0 0, .string { data := #[] }, .int .i64 0, .pointer (some ⟨w.heap.size, 0, none⟩), .pointer (some ⟨w.heap.size + 1, 0, none⟩), .pointer (some ⟨w.heap.size + 1 + 1, 0, none⟩), undef, undef, .string s,
      .func (.func 41) #[] #[.pointer (some ⟨w.heap.size + 1 + 1 + 1, 0, none⟩)], undef, undef, undef, undef, undef, undef, undef, undef, undef, undef, undef, undef, undef, undef, undef, undef, undef], defers := [{ target := .collected (w.heap.size + 1 + 1 + 1 + 1), args := #[] }] }) ?_ ?_
  · refine range_loop (by omega) rfl (enters_of Tryd.func41 (by kernel_rfl) rfl) ?_
    intro o hst hpe hto hpo hao hbo
    simp only [World.size_alloc]
    have hA0 : AllW w o (.slice none 0 0) [] { data := #[] } 0 ((((((w.alloc (.cells #[.slice none 0 0] 32)).alloc (.cells #[.string { data := #[] }] 9)).alloc (.cells #[.int .i64 0] 23)).alloc (.cells #[.string s] 9)).alloc (.deferred (some []))).alloc (.loop o)) :=
      ⟨((((HasC.new w _ _).alloc _).alloc _).alloc _).alloc _ |>.alloc _, (((HasC.at_ _ _ _ (by simp)).alloc _).alloc _).alloc _ |>.alloc _, ((HasC.at_ _ _ _ (by simp)).alloc _).alloc _ |>.alloc _, World.ownsRow_nil _ _ _ _,
        (Below.heap_alloc _ _ _ (by simp)).trans (by simpa using World.alloc_heap_new ((((w.alloc (.cells #[.slice none 0 0] 32)).alloc (.cells #[.string { data := #[] }] 9)).alloc (.cells #[.int .i64 0] 23)).alloc (.cells #[.string s] 9)) (.deferred (some []))),
        by simpa using World.alloc_heap_new (((((w.alloc (.cells #[.slice none 0 0] 32)).alloc (.cells #[.string { data := #[] }] 9)).alloc (.cells #[.int .i64 0] 23)).alloc (.cells #[.string s] 9)).alloc (.deferred (some []))) (.loop o),
        ((((((Below.refl _ _).alloc (Nat.le_refl _) _).alloc (by simp) _).alloc (by simp; omega) _).alloc (by simp; omega) _).alloc (by simp; omega) _).alloc (by simp; omega) _⟩
    have hB0 : HasC ((((((w.alloc (.cells #[.slice none 0 0] 32)).alloc (.cells #[.string { data := #[] }] 9)).alloc (.cells #[.int .i64 0] 23)).alloc (.cells #[.string s] 9)).alloc (.deferred (some []))).alloc (.loop o)) (w.heap.size + 1 + 1 + 1) 9 #[.string s] :=
      ((HasC.at_ _ _ _ (by simp)).alloc _).alloc _
    refine (frames_in (am := am) (af := af) (N := N) (n - 1) (by omega) (w.heap.size + 1 + 1 + 1 + 1 + 1) (w.heap.size + 1 + 1 + 1) s (AllJ w o r E ts) (AllX w o r E ts) ?_ ?_ ?_ _ hB0 ⟨_, [], ts, 0, hA0, HH.out, rfl, hs⟩).mono ?_
    · rintro ri W W' ⟨v, pre, rest, eC, hA, hR, hp, hz⟩ hb
      exact ⟨v, pre, rest, eC, hA.on hb, hR, hp, hz⟩
    · rintro ri W ⟨v, pre, rest, eC, hA, hR, hp, hz⟩
      exact ⟨by unfold maxLen; omega, hS.on hA.below⟩
    · rintro ri W ⟨v, pre, rest, eC, hA, hR, hp, hz⟩
      have hlt : w.heap.size + 1 + 1 + 1 + 1 + 1 < W.heap.size := (Array.getElem?_eq_some_iff.1 hA.loop).1
      refine yield_round hA.loop (by rw [hpo]; rfl) ?_
      rw [hpo, hto, hao, hbo]
      unfold encF
      have hA1 := hA.on ((Below.refl W.heap.size W).alloc (Nat.le_refl _) (.cells #[.string (nxF ri).1, .string (nxF ri).2.1] 47))
      have hA2 := hA1.turn { o with state := .busy }
      have hF2 := (HasC.new W 47 #[.string (nxF ri).1, .string (nxF ri).2.1]).put (L := w.heap.size + 1 + 1 + 1 + 1 + 1) (by omega) (.loop { o with state := .busy })
      have k2 : KpF W _ := KpF.trans (kp_below ((Below.refl W.heap.size W).alloc (Nat.le_refl _) (.cells #[.string (nxF ri).1, .string (nxF ri).2.1] 47))) (kp_turn (o' := { o with state := .busy }) hA1.loop)
      have hbr := run_beginRound (P := Tryd.prog) hA1.loop hst
      generalize ((W.alloc (.cells #[.string (nxF ri).1, .string (nxF ri).2.1] 47)).putObj (w.heap.size + 1 + 1 + 1 + 1 + 1) (.loop { o with state := .busy })) = V at hA2 hF2 k2 hbr
      clear hA1
      rcases nx_all hR with ⟨he, hE0, hr, hrest⟩ | ⟨he, ts', hts, hR', hless⟩
      · rw [hr] at hF2 hbr
        rw [he, hr]
        clear he hr hR
        gi_wp2_with fail
        refine ⟨trivial, fun _ => by omega, ?_⟩
        refine (CallsIn.inRound _ (callsIn_wide.2 (ferr_any _ E (errV_ferr E) V (hS.on hA2.below)))).mono ?_
        rintro e3 V3 ⟨rfl, hb3⟩
        have hA3 := hA2.on hb3
        have hF3 := hF2.below hb3 hF2.lt
        have k3 := k2.trans (kp_below hb3)
        clear hA2 hF2 k2 hb3
        have c2 : V3.cell? ⟨w.heap.size + 1 + 1, 0, none⟩ = some (.int .i64 eC) := hA3.err.cell 0
        have z2 := hA3.err.frozen 0
        have hA4 := hA3.setErr E
        have k4 := k3.trans (kp_set hA3.err (by decide) (.int .i64 E))
        have hF4 := hF3.far ⟨w.heap.size + 1 + 1, 0, none⟩ (.int .i64 E) (by simp; omega)
        have f1 : (V3.setCell ⟨w.heap.size + 1 + 1, 0, none⟩ (.int .i64 E)).cell? ⟨W.heap.size, 1, none⟩ = some (.string r) := hF4.cell 1
        have c1 : (V3.setCell ⟨w.heap.size + 1 + 1, 0, none⟩ (.int .i64 E)).cell? ⟨w.heap.size + 1, 0, none⟩ = some (.string { data := #[] }) := hA4.rest.cell 0
        have z1 : (V3.setCell ⟨w.heap.size + 1 + 1, 0, none⟩ (.int .i64 E)).frozen? ⟨w.heap.size + 1, 0, none⟩ = false := hA4.rest.frozen 0
        have hE1 : decide (E = 0) = false := by simpa using hE0
        have hA5 := hA4.setRest r
        clear hA3 hF3 hF4 k3 k4 hA4
        gi_wp2_with fail
        refine ⟨_, _, run_endRound (some (.exit 0)) hA5.loop, ?_⟩
        have hpt : pre = ts := by rw [← hp, hrest, List.append_nil]
        subst hpt
        exact ⟨rfl, _, hA5.turn _⟩
      · rw [he]
        obtain ⟨i0, hi, hz0, hz1, hz2⟩ := info_parts info9
        have hx : pre.length + 1 ≤ 1000001 := by
          have := congrArg List.length hp
          rw [hts] at this
          simp at this
          omega
        gi_wp2_with fail
        refine ⟨trivial, fun _ => by omega, ?_⟩
        refine (CallsIn.inRound _ (callsIn_wide.2 (ferr_any _ 0 (errV_ferr 0) V (hS.on hA2.below)))).mono ?_
        rintro e3 V3 ⟨rfl, hb3⟩
        have hA3 := hA2.on hb3
        have hF3 := hF2.below hb3 hF2.lt
        have k3 := k2.trans (kp_below hb3)
        clear hA2 hF2 k2 hb3 hbr
        have c2 : V3.cell? ⟨w.heap.size + 1 + 1, 0, none⟩ = some (.int .i64 eC) := hA3.err.cell 0
        have z2 := hA3.err.frozen 0
        have hA4 := hA3.setErr 0
        have k4 := k3.trans (kp_set hA3.err (by decide) (.int .i64 0))
        have hF4 := hF3.far ⟨w.heap.size + 1 + 1, 0, none⟩ (.int .i64 0) (by simp; omega)
        obtain ⟨V4, hV4⟩ : ∃ V4, V4 = V3.setCell ⟨w.heap.size + 1 + 1, 0, none⟩ (.int .i64 0) := ⟨_, rfl⟩
        have HV4 := Lib.hid hV4
        rw [← hV4] at hA4 k4 hF4
        have f0 : (V3.setCell ⟨w.heap.size + 1 + 1, 0, none⟩ (.int .i64 0)).cell? ⟨W.heap.size, 0, none⟩ = some (.string (nxF ri).1) := by rw [← hV4]; exact hF4.cell 0
        have c0 : (V3.setCell ⟨w.heap.size + 1 + 1, 0, none⟩ (.int .i64 0)).cell? ⟨w.heap.size, 0, none⟩ = some v := by rw [← hV4]; exact hA4.list.cell 0
        have hs4 := hA4.below.size
        have hs4' : V4.heap.size = V3.heap.size := by rw [hV4]; simp [World.setCell]
        have hsz : w.heap.size + 6 ≤ V4.heap.size := by
          have := (Array.getElem?_eq_some_iff.1 hA4.loop).1
          omega
        have hown : (V3.setCell ⟨w.heap.size + 1 + 1, 0, none⟩ (.int .i64 0)).ownsRow (w.heap.size + 6) 9 1 v pre.length (pre.map .string) := by rw [← hV4]; exact hA4.own
        clear hA3 hF3 k3 hV4
        gi_wp2_with (refine wpListIn_append_own _ rfl _ _ 32 rfl (w.heap.size + 6) 9 i0 (.string { data := #[] }) 1 16 Tryd.underlying32 hi hz0 hz1 hz2 rfl (by decide) _ _ _ rfl (hown.alloc _) ⟨V3.heap.size, 0, none⟩ 1 1 [.string (nxF ri).1] rfl rfl ?c1 ?c2 ?c3 ?c4 ?c5 ?_)
        case c1 =>
          intro j u hj
          match j, hj with
          | 0, hj =>
            simp at hj
            subst hj
            exact World.cell?_alloc_at _ _ _ _ (by simp [World.setCell])
        case c2 => intro u hu; simp at hu; subst hu; rfl
        case c3 => unfold maxLen; omega
        case c4 => omega
        case c5 => simp; omega
        intro v' w6 hown6 hg6 _
        obtain ⟨g, cap, rfl, _, _⟩ := hown6.form (by omega)
        rw [← HV4.out] at hg6 hown
        have hb5 := (Below.refl V4.heap.size V4).alloc (Nat.le_refl _) (.cells #[.string (nxF ri).1] 9)
        have hA5 := hA4.on hb5
        have hl6 : HasC w6 w.heap.size 32 #[v] := (hg6.block _ hA5.list.lt (fun e => by have := (hA5.own.lt _ e.symm).1; omega)).trans hA5.list
        have hA6 := hA5.grown (pre' := pre ++ [(nxF ri).1]) hg6 (by rw [List.map_append, List.length_append]; exact hown6)
        have k6 : KpF W (w6.setCell ⟨w.heap.size, 0, none⟩ (.slice (some ⟨g, 0, none⟩) (pre.length + 1) cap)) := ((k4.trans (kp_below hb5)).trans (kp_grown hg6 (owns_other hA5.own (by decide)))).trans (kp_set hl6 (by decide) _)
        have d0 := hl6.cell 0
        have y0 := hl6.frozen 0
        have HP : Hid (pre ++ [(nxF ri).1] ++ ts' = ts) := by
          have := hp
          rw [hts] at this
          show pre ++ [(nxF ri).1] ++ ts' = ts
          simpa using this
        have HR' := Lib.hid hR'
        clear hown6 hg6 hA5 hA4 hown k4 hF4 hl6 hts hp hR' c2 z2 f0 c0
        have ho : ({ { o with state := .busy } with state := .ready, pending := none } : Loop) = o := by
          cases o
          dsimp only at hst hpe
          subst hst
          subst hpe
          rfl
        have hAe : AllW w o (.slice (some ⟨g, 0, none⟩) (pre.length + 1) cap) (pre ++ [(nxF ri).1]) { data := #[] } 0 ((w6.setCell ⟨w.heap.size, 0, none⟩ (.slice (some ⟨g, 0, none⟩) (pre.length + 1) cap)).putObj (w.heap.size + 1 + 1 + 1 + 1 + 1) (.loop { { o with state := .busy } with state := .ready, pending := none })) := by
          rw [ho]
          exact hA6.turn o
        clear ho
        gi_wp2_with fail
        exact ⟨_, _, run_endRound none hA6.loop, .inl ⟨rfl, (nx_size _).1, (nx_size _).2, ⟨_, _, ts', 0, hAe, HR'.out, HP.out, by omega⟩, k6.trans (kp_turn hA6.loop)⟩⟩
    · rintro e W ⟨hv, v, hA⟩
      refine ⟨hv, _, _, hA.loop, rfl, rfl, ?_⟩
      gi_wp2
      exact ⟨_, _, hA.turn _⟩
  · rintro e a2 W ⟨rfl, ⟨o, v, hA⟩, rfl⟩
    rename_i K0 hcont
    change K0 _ W
    refine hcont _ _ (wpIn_wide.2 ?_)
    clear hcont
    generalize hQf : Exit.noGoto (bodyPostM Fence.wide n Tryd.prog Tryd.f18 _) = Qf
    have HQF := Lib.hid hQf
    clear hQf
    have d0 : W.cell? ⟨w.heap.size, 0, none⟩ = some v := hA.list.cell 0
    have d1 : W.cell? ⟨w.heap.size + 1, 0, none⟩ = some (.string r) := hA.rest.cell 0
    have d2 : W.cell? ⟨w.heap.size + 1 + 1, 0, none⟩ = some (.int .i64 E) := hA.err.cell 0
    go_wp2
    go_quiet (fail)
    go_wp2
    rw [← HQF.out, Exit.noGoto_ret]
    refine ⟨by simp, .inl ⟨_, _, rfl, run_takeDeferred (b := w.heap.size + 1 + 1 + 1 + 1) hA.late, ?_⟩⟩
    have hg := grownBy_putObj' (W.drewN nq) (w.heap.size + 1 + 1 + 1 + 1) (.deferred none)
    have hown : (W.drewN nq).ownsRow (w.heap.size + 6) 9 1 v ts.length (ts.map .string) := hA.own
    exact ⟨_, results_tmp3 rfl _ _ _, ⟨_, rfl, strSl_of_owns (owns_far hown hg (.inl (by omega)))⟩, (bel_drewN hA.below nq).grown hg hA.below.size (fun k e => by cases e; omega)⟩
theorem all_any {am af : Addr} {N : Nat} {s r : ByteArray} {ts : List ByteArray} {E : Int} (hs : s.size ≤ 1000000) (h : AllR s ts r E) (w : World) (hS : SentR am af N w) :
    Calls Tryd.prog 18 #[.string s] w fun e w' => (∃ v, e = .returned (.tuple #[v, .string r, .int .i64 E]) ∧ StrSl w' v ts) ∧ Below w.heap.size w w' :=
  callsIn_wide.1 (all_in 5 (by decide) hs h w hS)
end Go.Proofs.YthbfibnpfdegaaaDoor
