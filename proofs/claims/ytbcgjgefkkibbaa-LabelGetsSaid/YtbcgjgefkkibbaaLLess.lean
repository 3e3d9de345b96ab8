/- Package label: Less. -/
import Derived.Test.YtbcgjgefkkibbaaLEach
import Derived.Test.YtbcgjgefkkibbaaShelf
import Derived.Test.YtbcgjgefkkibbaaQuietIn
namespace Go.Proofs.Ytbcgjgefkkibbaa
open Go.RowKit Go.Shelf
attribute [local go_sem] Oper.semAt_some

/-- The first of two numbers that is not 0. -/
def orI (p q : Int) : Int := if p = 0 then q else p
set_option maxRecDepth 100000 in
theorem or_any (g : Nat) (p q : Int) (w : World) (h0 : w.cell? ⟨g, 0, none⟩ = some (.int .i64 p)) (h1 : w.cell? ⟨g, 1, none⟩ = some (.int .i64 q)) :
    Calls Try.prog 44 #[.slice (some ⟨g, 0, none⟩) 2 2] w fun e w' => e = .returned (.int .i64 (orI p q)) ∧ w = w' := by
  obtain ⟨r, hr⟩ : ∃ r, r = orI p q := ⟨_, rfl⟩
  have HR := Lib.hid hr
  rw [← hr]
  clear hr
  by_cases hp : p = 0
  · subst hp
    by_cases hq : q = 0
    · subst hq
      go_enter Try.func44, Try.ntmps44
      go_wp2
      refine wp_loop_rounds 3 ?_
      rw [rounds_succ]
      go_wp2
      rw [rounds_succ]
      go_wp2
      rw [rounds_succ]
      go_wp2
      go_ret
      exact ⟨by rw [HR.out]; rfl, rfl⟩
    · have hq' : (q == 0) = false := by simpa using hq
      go_enter Try.func44, Try.ntmps44
      go_wp2
      refine wp_loop_rounds 3 ?_
      rw [rounds_succ]
      go_wp2
      rw [rounds_succ]
      go_wp2
      go_ret
      exact ⟨by rw [HR.out]; rfl, rfl⟩
  · have hp' : (p == 0) = false := by simpa using hp
    go_enter Try.func44, Try.ntmps44
    go_wp2
    refine wp_loop_rounds 3 ?_
    rw [rounds_succ]
    go_wp2
    go_ret
    exact ⟨by rw [HR.out]; unfold orI; rw [if_neg hp]; rfl, rfl⟩

/-- A world that has the same blocks. -/
def SameW (w V : World) : Prop := Below w.heap.size w V ∧ V.heap.size = w.heap.size
theorem orI_cmp (x y x' y' : ByteArray) : orI (Lib.compareBytes x.data.toList x'.data.toList) (Lib.compareBytes y.data.toList y'.data.toList) = cmpLab (x, y) (x', y') := rfl
theorem cmpLab_none (x y x' y' : ByteArray) : cmpLab (x, y) (x', y') = 0 ↔ x = x' ∧ y = y' := by
  unfold cmpLab
  dsimp only
  constructor
  · intro h
    split at h
    · rename_i h1
      rcases cmp_cases x.data.toList x'.data.toList with e | ⟨_, e⟩ | e
      · omega
      · rcases cmp_cases y.data.toList y'.data.toList with e2 | ⟨_, e2⟩ | e2
        · omega
        · exact ⟨baL e, baL e2⟩
        · omega
      · omega
    · rename_i h1
      exact absurd h h1
  · rintro ⟨rfl, rfl⟩
    rw [cmp_self, cmp_self]
    rfl

set_option maxHeartbeats 2000000 in
set_option maxRecDepth 100000 in
theorem less_in (n : Nat) (h3 : 3 ≤ n) (A B : List Lab) (va vb : Value) (w : World) (hA : LblSl w va A) (hB : LblSl w vb B) (hna : A.length ≤ 1000) (hnb : B.length ≤ 1000) :
    CallsIn Fence.wide n Try.prog 24 #[va, vb] w fun e w' => e = .returned (.bool (lessLb A B)) ∧ Below w.heap.size w w' := by
  obtain ⟨ao, c, rfl, hc⟩ := hA.at_
  obtain ⟨bo, d, rfl, hd⟩ := hB.at_
  obtain ⟨m, hm⟩ : ∃ m, m = A.length := ⟨_, rfl⟩
  obtain ⟨l, hl⟩ : ∃ l, l = B.length := ⟨_, rfl⟩
  have HM := Lib.hid hm
  have HL := Lib.hid hl
  rw [← hm] at hna
  rw [← hl] at hnb
  rw [← hm, ← hl]
  have HC := Lib.hid hc
  have HD := Lib.hid hd
  clear hm hl hc hd hA hB
  refine callsIn_of_wp_marks Try.func24 rfl trivial ?_ rfl
  simp only [Try.ntmps24, List.size_toArray, List.length_cons, List.length_nil, Nat.reduceAdd, Nat.reduceSub, Array.replicate_succ, Array.replicate_zero, List.push_toArray, List.append_toArray, List.nil_append, List.cons_append]
  gi_wp2
  refine ⟨trivial, fun _ => by omega, ?_⟩
  refine (callsIn_wide.2 (each_any _ _ _ _)).mono ?_
  rintro e w2 ⟨rfl, rfl⟩
  gi_wp2_with fail
  obtain ⟨W0, hW0⟩ : ∃ W0, W0 = ((w.alloc (.cells #[.slice bo l d] 23)).alloc (.cells #[.bool false] 4)).alloc (.cells #[.slice ao m c] 23) := ⟨_, rfl⟩
  have hz0 : W0.heap.size = w.heap.size + 3 := by rw [hW0]; simp
  have hb0 : Below w.heap.size w W0 := by
    rw [hW0]
    exact (((Below.refl _ w).alloc (Nat.le_refl _) _).alloc (by simp) _).alloc (by simp; omega) _
  have hn0 : HasC W0 w.heap.size 23 #[.slice bo l d] := by rw [hW0]; exact ((HasC.new w _ _).alloc _).alloc _
  have hr0 : HasC W0 (w.heap.size + 1) 4 #[.bool false] := by rw [hW0]; exact (HasC.at_ _ _ _ (by simp)).alloc _
  have hs0 : HasC W0 (w.heap.size + 2) 23 #[.slice ao m c] := by rw [hW0]; exact HasC.at_ _ _ _ (by simp)
  rw [← hW0]
  clear hW0
  refine range_each (Bn := w.heap.size + 2) (c := c) (ao := ao) (L := A) (by omega) rfl rfl (by have := HM.out; omega) w.heap.size
    (fun k W => HasC W (w.heap.size + 2) 23 #[.slice ao m c] ∧ Below w.heap.size w W ∧ HasC W w.heap.size 23 #[.slice bo l d] ∧ HasC W (w.heap.size + 1) 4 #[.bool false] ∧ k ≤ l ∧ lessLb A B = lessLb (A.drop k) (B.drop k))
    (fun j W => j = .ret ∧ Below w.heap.size w W ∧ HasC W (w.heap.size + 1) 4 #[.bool (lessLb A B)])
    (fun k W h => ⟨by rw [← HM.out]; exact h.1.cell 0, HC.out.below h.2.1⟩) ?_ ?_ ?_ ?_ ?_ ?_
  · rintro k W o ⟨hS, hbw, hN, hK, hkl, hR⟩
    exact ⟨hS.put (by omega) o, below_put hbw _ o (by omega), hN.put (by omega) o, hK.put (by omega) o, hkl, hR⟩
  · rintro j W o ⟨hj, hbw, hK⟩
    exact ⟨hj, below_put hbw _ o (by omega), hK.put (by omega) o⟩
  · intro o
    exact ⟨(hs0.alloc _).alloc _, (hb0.alloc (by omega) _).alloc (by simp; omega) _, (hn0.alloc _).alloc _, (hr0.alloc _).alloc _, Nat.zero_le _, by rw [List.drop_zero, List.drop_zero]⟩
  · rintro k hk W ⟨hS, hbw, hN, hK, hkl, hR⟩ rd bz hL
    obtain ⟨x, y, hxy⟩ : ∃ x y, A[k] = (x, y) := ⟨_, _, rfl⟩
    have HXY := Lib.hid hxy
    rw [hxy]
    unfold encE
    have hLt := hL.lt
    have HRR := Lib.hid hR
    clear hxy hR
    gi_wp2_with fail
    refine ⟨hL.alloc _, ?_⟩
    have hX := (HasC.new W 41 #[.string x, .string y]).put (L := W0.heap.size + 1) (by omega) bz
    have hN1 := (hN.alloc (.cells #[.string x, .string y] 41)).put (L := W0.heap.size + 1) (by omega) bz
    have hK1 := (hK.alloc (.cells #[.string x, .string y] 41)).put (L := W0.heap.size + 1) (by omega) bz
    have hS1 := (hS.alloc (.cells #[.string x, .string y] 41)).put (L := W0.heap.size + 1) (by omega) bz
    have hL1 := (hL.alloc (.cells #[.string x, .string y] 41)).put bz
    have hbw1 := below_put (hbw.alloc (by omega) (.cells #[.string x, .string y] 41)) (W0.heap.size + 1) bz (by omega)
    generalize (W.alloc (.cells #[.string x, .string y] 41)).putObj (W0.heap.size + 1) bz = V at hX hN1 hK1 hS1 hL1 hbw1
    clear hbw hN hK hS hL
    have cx := hX.cell 0
    have cy := hX.cell 1
    have cn := hN1.cell 0
    have zk := hK1.frozen 0
    have ck := hK1.cell 0
    have hXl := hX.lt
    by_cases hkb : k = l
    · have hv : lessLb A B = false := by
        rw [HRR.out, lessLb_end A B k (by omega) (by have := HL.out; omega) (.inr (by rw [hkb, HL.out]))]
        have := HL.out
        simp
        omega
      have HV := Lib.hid hv
      subst hkb
      clear hv
      gi_wp2_with fail
      exact ⟨hL1.set _ _ (by simp; omega) (by simp; omega), rfl, hbw1.setCell (p := ⟨w.heap.size + 1, 0, none⟩) (by simp) _, by rw [HV.out]; exact (hK1.set 0 _).eq rfl⟩
    · have hkl2 : k < B.length := by have := HL.out; omega
      have hstep := lessLb_drop A B k hk hkl2
      obtain ⟨g, o, hbo, hg, e0, e1⟩ := (HD.out.below hbw1) k hkl2
      obtain ⟨x', y', hxy'⟩ : ∃ x y, B[k] = (x, y) := ⟨_, _, rfl⟩
      rw [HXY.out, hxy'] at hstep
      rw [hxy'] at e0 e1
      dsimp only at e0 e1
      subst hbo
      have HST := Lib.hid hstep
      have hkb' : ¬ (k : Int) = (l : Int) := by omega
      have hkl3 : k < l := by omega
      clear hstep hxy'
      by_cases hz : cmpLab (x, y) (x', y') = 0
      · have hv : lessLb A B = lessLb (A.drop (k + 1)) (B.drop (k + 1)) := by rw [HRR.out, HST.out, if_pos hz]
        obtain ⟨rfl, rfl⟩ := (cmpLab_none _ _ _ _).1 hz
        have HV := Lib.hid hv
        have b1 := ba_eq (rfl : x = x)
        have b2 := ba_eq (rfl : y = y)
        clear hv hz
        gi_wp2_with fail
        exact ⟨hL1.alloc _, hS1.alloc _, hbw1.alloc (by omega) _, hN1.alloc _, hK1.alloc _, by omega, HV.out⟩
      · have hv : lessLb A B = decide (cmpLab (x, y) (x', y') < 0) := by rw [HRR.out, HST.out, if_neg hz]
        have HV := Lib.hid hv
        have hne : ((x.toList == x'.toList) && (y.toList == y'.toList)) = false := by
          by_cases h1 : x = x'
          · have h2 : y ≠ y' := fun e => hz ((cmpLab_none _ _ _ _).2 ⟨h1, e⟩)
            rw [ba_ne h2, Bool.and_false]
          · rw [ba_ne h1, Bool.false_and]
        clear hv hz
        obtain ⟨p, hp⟩ : ∃ p, Lib.compareBytes x.data.toList x'.data.toList = p := ⟨_, rfl⟩
        obtain ⟨q, hq⟩ : ∃ q, Lib.compareBytes y.data.toList y'.data.toList = q := ⟨_, rfl⟩
        have hor := orI_cmp x y x' y'
        rw [hp, hq] at hor
        have HOR := Lib.hid hor
        have C1 := Lib.hid (fun W => Try.strings_Compare x x' W)
        have C2 := Lib.hid (fun W => Try.strings_Compare y y' W)
        rw [hp] at C1
        rw [hq] at C2
        clear hor hp hq
        have hf1 : (x.toList == x'.toList) = false ∨ ((x.toList == x'.toList) = true ∧ (y.toList == y'.toList) = false) := by
          cases h1 : x.toList == x'.toList
          · exact .inl rfl
          · rw [h1] at hne
            exact .inr ⟨rfl, by simpa using hne⟩
        clear hne
        rcases hf1 with hf1 | ⟨hf1, hf2⟩
        all_goals
          gi_wp2_with fail
          have hX2 := hX.alloc (.cells #[.string x', .string y'] 41)
          have hY2 := HasC.new V 41 #[.string x', .string y']
          have hK2 := hK1.alloc (.cells #[.string x', .string y'] 41)
          have hL2 := hL1.alloc (.cells #[.string x', .string y'] 41)
          have hbw2 := hbw1.alloc (by omega) (.cells #[.string x', .string y'] 41)
          have hzV : (V.alloc (.cells #[.string x', .string y'] 41)).heap.size = V.heap.size + 1 := by simp
          generalize (V.alloc (.cells #[.string x', .string y'] 41)) = V2 at hX2 hY2 hK2 hL2 hbw2 hzV
          clear cx cy cn zk ck hX hN1 hK1 hS1 hL1 hbw1 e0 e1 hf1
          have d0 : ∀ i : InC (SameW V2), i.w.cell? ⟨W.heap.size, 0, none⟩ = some (.string x) := fun i => (hX2.below i.h.1 hX2.lt).cell 0
          have d1 : ∀ i : InC (SameW V2), i.w.cell? ⟨W.heap.size, 1, none⟩ = some (.string y) := fun i => (hX2.below i.h.1 hX2.lt).cell 1
          have f0 : ∀ i : InC (SameW V2), i.w.cell? ⟨V.heap.size, 0, none⟩ = some (.string x') := fun i => (hY2.below i.h.1 hY2.lt).cell 0
          have f1 : ∀ i : InC (SameW V2), i.w.cell? ⟨V.heap.size, 1, none⟩ = some (.string y') := fun i => (hY2.below i.h.1 hY2.lt).cell 1
          refine region_tailIn 10 (SameW V2) (by kernel_rfl) (by kernel_rfl) (by kernel_rfl) ⟨(Below.refl _ _).drew, rfl⟩ ?_
          intro hne
          simp only [List.take_succ_cons, List.take_zero, List.drop_succ_cons, List.drop_zero]
          repeat (go_big_quiet_step ((first
            | (go_at_call 29; with_reducible refine (C1.out _).mono ?_; rintro e w' ⟨rfl, rfl⟩; exact ⟨rfl, ⟨_, rfl⟩⟩)
            | (go_at_call 29; with_reducible refine (C2.out _).mono ?_; rintro e w' ⟨rfl, rfl⟩; exact ⟨rfl, ⟨_, rfl⟩⟩))))
          refine wpQuiet_nil ?_
          clear d0 d1 f0 f1 hne
          rintro ⟨V3, hb3, hsz⟩
          dsimp only
          have hK3 := hK2.below hb3 hK2.lt
          have hL3 := hL2.below hb3 hL2.lt
          have hbw3 := hbw2.trans (hb3.mono hbw2.size)
          clear hK2 hL2 hbw2 hX2 hY2 hb3
          have hlt3 := hL3.lt
          gi_wp2_with fail
          have hz3 : V3.heap.size = V.heap.size + 1 := hsz.trans hzV
          refine ⟨trivial, fun _ => by omega, ?_⟩
          refine (CallsIn.inRound _ (callsIn_wide.2 (or_any (V.heap.size + 1) p q _ (by rw [World.cell?_alloc_at _ _ _ _ hz3.symm]; rfl) (by rw [World.cell?_alloc_at _ _ _ _ hz3.symm]; rfl)))).mono ?_
          rintro e w6 ⟨rfl, rfl⟩
          have hK4 := hK3.alloc (.cells #[.int .i64 p, .int .i64 q] 3)
          have hL4 := hL3.alloc (.cells #[.int .i64 p, .int .i64 q] 3)
          have hbw4 := hbw3.alloc (by omega) (.cells #[.int .i64 p, .int .i64 q] 3)
          have zk := hK4.frozen 0
          have ck := hK4.cell 0
          gi_wp2_with fail
          exact ⟨hL4.set _ _ (by simp; omega) (by simp; omega), rfl, hbw4.setCell (p := ⟨w.heap.size + 1, 0, none⟩) (by simp) _, by rw [HV.out, ← HOR.out]; exact (hK4.set 0 _).eq rfl⟩
  · rintro W ⟨hS, hbw, hN, hK, hkl, hR⟩ hD
    have hv : lessLb A B = decide (m < l) := by
      rw [hR, lessLb_end A B A.length (Nat.le_refl _) (by have := HL.out; omega) (.inl rfl), HM.out, HL.out]
    have HV := Lib.hid hv
    have cn : W.cell? ⟨w.heap.size, 0, none⟩ = some (.slice bo l d) := hN.cell 0
    have ck := hK.cell 0
    have zk := hK.frozen 0
    clear hv hR
    gi_wp2_with fail
    have hD2 : (W.setCell ⟨w.heap.size + 1, 0, none⟩ (.bool (decide (m < l)))).heap[W0.heap.size]? = some (.deferred (some [])) :=
      (Below.heap_setCell _ ⟨w.heap.size + 1, 0, none⟩ _ W0.heap.size (by simp; omega)).trans hD
    have hK2 := ((hK.set 0 (.bool (decide (m < l)))).put (L := W0.heap.size) (by omega) (.deferred none)).cell 0
    have hb2 := hbw.setCell (p := ⟨w.heap.size + 1, 0, none⟩) (by simp) (.bool (decide (m < l)))
    refine ⟨by simp, .inl ⟨_, _, rfl, run_takeDeferred (b := W0.heap.size) hD2, ?_⟩⟩
    exact ⟨.bool (decide (m < l)), by simp [results, Try.results24, go_sem, hK2], by rw [HV.out], below_put hb2 _ _ (by omega)⟩
  · rintro j W ⟨rfl, hbw, hK⟩ hD
    have ck : W.cell? ⟨w.heap.size + 1, 0, none⟩ = some (.bool (lessLb A B)) := hK.cell 0
    gi_wp2_with fail
    have hK2 := (hK.put (L := W0.heap.size) (by omega) (.deferred none)).cell 0
    refine ⟨by simp, .inl ⟨_, _, rfl, run_takeDeferred (b := W0.heap.size) hD, ?_⟩⟩
    exact ⟨.bool (lessLb A B), by simp [results, Try.results24, go_sem, hK2], rfl, below_put hbw _ _ (by omega)⟩
theorem lLess_any (A B : List Lab) (va vb : Value) (w : World) (hA : LblSl w va A) (hB : LblSl w vb B) (hna : A.length ≤ 1000) (hnb : B.length ≤ 1000) (_sa : smallLb A) (_sb : smallLb B) :
    Calls Try.prog 24 #[va, vb] w fun e w' => e = .returned (.bool (lessLb A B)) ∧ Below w.heap.size w w' :=
  callsIn_wide.1 (less_in 5 (by decide) A B va vb w hA hB hna hnb)
end Go.Proofs.Ytbcgjgefkkibbaa
