
/- Package label: what is wrong with labels; Right. -/
import Derived.Test.YtekmdgjkadglmaaLEach
import Derived.Test.YtekmdgjkadglmaaLRefRight
import Derived.WalkLawsBesides
namespace Go.Proofs.Ytekmdgjkadglmaa
open Go.RowKit Go.Shelf
attribute [local go_sem] Oper.semAt_some

theorem less_cmp : ∀ a b : List UInt8, Op.bytesLess a b = decide (Lib.compareBytes a b < 0) := by
  intro a
  induction a with
  | nil => intro b; cases b <;> simp [Op.bytesLess, Lib.compareBytes]
  | cons c a ih =>
    intro b
    cases b with
    | nil => simp [Op.bytesLess, Lib.compareBytes]
    | cons d b =>
      simp only [Op.bytesLess, Lib.compareBytes]
      by_cases h1 : c < d
      · simp [h1]
      · by_cases h2 : d < c
        · have : ¬ c = d := fun e => by subst e; exact h1 h2
          simp [h1, h2, this]
        · have : c = d := UInt8.le_antisymm (UInt8.not_lt.1 h2) (UInt8.not_lt.1 h1)
          subst this
          simp [h1, ih]
theorem leq_cmp (a b : List UInt8) : (Op.bytesLess a b || a == b) = decide (Lib.compareBytes a b ≤ 0) := by
  rw [less_cmp]
  rcases cmp_cases a b with h | ⟨h, rfl⟩ | h
  · simp [h]
  · simp [h]
  · have hne : ¬ a = b := fun e => by subst e; rw [cmp_self] at h; omega
    simp [h, hne]
theorem ahead_leq (p : Option ByteArray) (x : ByteArray) (hx : nameB x.data.toList = true) :
    (Op.bytesLess x.toList (p.getD { data := #[] }).toList || x.toList == (p.getD { data := #[] }).toList) = !aheadB p x := by
  rw [leq_cmp, ByteArray.toList_eq, ByteArray.toList_eq]
  cases p with
  | none =>
    show decide (Lib.compareBytes x.data.toList [] ≤ 0) = false
    have hne : x.data.toList ≠ [] := fun e => by rw [e] at hx; exact absurd hx (by decide)
    cases h : x.data.toList with
    | nil => exact absurd h hne
    | cons c t => rfl
  | some y =>
    show decide (Lib.compareBytes x.data.toList y.data.toList ≤ 0) = !decide (Lib.compareBytes y.data.toList x.data.toList < 0)
    have := cmp_swap x.data.toList y.data.toList
    rw [← decide_not, decide_eq_decide]
    omega

theorem as_nil (w : World) : (Instr.typeAssert .nilIface 47 63 true).run Try.prog w = .ok (.tuple #[.string { data := #[] }, .bool false]) w := by kernel_rfl
theorem as_bad (s : ByteArray) (w : World) : (Instr.typeAssert (.iface 63 (.string s)) 47 63 true).run Try.prog w = .ok (.tuple #[.string s, .bool true]) w := by kernel_rfl
set_option maxRecDepth 100000 in
theorem errno_ok (w : World) : Calls Try.prog 18 #[.nilIface] w fun e w' => e = .returned (.int .i64 0) ∧ w = w' := by
  have h := as_nil
  go_enter Try.func18, Try.ntmps18
  go_wp2
  go_ret
  exact ⟨rfl, rfl⟩
set_option maxRecDepth 100000 in
theorem errno_bad (s : ByteArray) (w : World) : Calls Try.prog 18 #[.iface 63 (.string s)] w fun e w' => e = .returned (.int .i64 40) ∧ w = w' := by
  have h := as_bad s
  go_enter Try.func18, Try.ntmps18
  go_wp2
  go_ret
  exact ⟨rfl, rfl⟩

/-- What check answers. -/
def CheckV (L : List Lab) (v : Value) : Prop := (rightB L = true ∧ v = .nilIface) ∨ (rightB L = false ∧ ∃ s, v = .iface 63 (.string s))

set_option maxHeartbeats 1000000 in
set_option maxRecDepth 100000 in
theorem check_in (n : Nat) (h3 : 3 ≤ n) (L : List Lab) (v : Value) (w : World) (hv : LblSl w v L) (hn : L.length ≤ 1000) (hs : smallLb L) :
    CallsIn Fence.wide n Try.prog 19 #[v] w fun e w' => (∃ u, e = .returned u ∧ CheckV L u) ∧ Below w.heap.size w w' := by
  obtain ⟨ao, c, rfl, hc⟩ := hv.at_
  obtain ⟨m, hm⟩ : ∃ m, m = L.length := ⟨_, rfl⟩
  have HM := Lib.hid hm
  rw [← hm] at hn
  rw [← hm]
  have HC := Lib.hid hc
  have HS := Lib.hid hs
  clear hm hc hv hs
  by_cases hlen : 1 ≤ m ∧ m ≤ 6
  · obtain ⟨hl1, hl6⟩ := hlen
    refine callsIn_of_wp_marks Try.func19 rfl trivial ?_ rfl
    simp only [Try.ntmps19, List.size_toArray, List.length_cons, List.length_nil, Nat.reduceAdd, Nat.reduceSub, Array.replicate_succ, Array.replicate_zero, List.push_toArray, List.append_toArray, List.nil_append, List.cons_append]
    gi_wp2
    refine wpIn_scope' ?_
    gi_wp2_with fail
    refine wpIn_label ?_
    gi_wp2_with fail
    refine ⟨trivial, fun _ => by omega, ?_⟩
    refine (callsIn_wide.2 (each_any _ _ _ _)).mono ?_
    rintro e w2 ⟨rfl, rfl⟩
    gi_wp2_with fail
    obtain ⟨W0, hW0⟩ : ∃ W0, W0 = ((w.alloc (.cells #[.nilIface] 47)).alloc (.cells #[.string { data := #[] }] 9)).alloc (.cells #[.slice ao m c] 29) := ⟨_, rfl⟩
    have hz0 : W0.heap.size = w.heap.size + 3 := by rw [hW0]; simp
    have hb0 : Below w.heap.size w W0 := by
      rw [hW0]
      exact (((Below.refl _ w).alloc (Nat.le_refl _) _).alloc (by simp) _).alloc (by simp; omega) _
    have he0 : HasC W0 w.heap.size 47 #[.nilIface] := by rw [hW0]; exact ((HasC.new w _ _).alloc _).alloc _
    have hf0 : HasC W0 (w.heap.size + 1) 9 #[.string { data := #[] }] := by rw [hW0]; exact (HasC.at_ _ _ _ (by simp)).alloc _
    have hs0 : HasC W0 (w.heap.size + 2) 29 #[.slice ao m c] := by rw [hW0]; exact HasC.at_ _ _ _ (by simp)
    rw [← hW0]
    clear hW0
    refine range_each (Bn := w.heap.size + 2) (c := c) (ao := ao) (L := L) (by omega) rfl rfl (by have := HM.out; omega) w.heap.size
      (fun k W => HasC W (w.heap.size + 2) 29 #[.slice ao m c] ∧ Below w.heap.size w W ∧ HasC W w.heap.size 47 #[.nilIface] ∧ HasC W (w.heap.size + 1) 9 #[.string ((prevL L k).getD { data := #[] })] ∧ rightF none L = rightF (prevL L k) (L.drop k))
      (fun j W => j = .exit 0 ∧ Below w.heap.size w W ∧ rightF none L = false ∧ ∃ s, HasC W w.heap.size 47 #[.iface 63 (.string s)])
      (fun k W h => ⟨by rw [← HM.out]; exact h.1.cell 0, HC.out.below h.2.1⟩) ?_ ?_ ?_ ?_ ?_ ?_
    · rintro k W o ⟨hS, hbw, hE, hF, hR⟩
      exact ⟨hS.put (by omega) o, below_put hbw _ o (by omega), hE.put (by omega) o, hF.put (by omega) o, hR⟩
    · rintro j W o ⟨hj, hbw, hR, s, hE⟩
      exact ⟨hj, below_put hbw _ o (by omega), hR, s, hE.put (by omega) o⟩
    · intro o
      exact ⟨(hs0.alloc _).alloc _, (hb0.alloc (by omega) _).alloc (by simp; omega) _, (he0.alloc _).alloc _, (hf0.alloc _).alloc _, by rw [List.drop_zero]; rfl⟩
    · rintro k hk W ⟨hS, hbw, hE, hF, hR⟩ rd bz hL
      obtain ⟨x, y, hxy⟩ : ∃ x y, L[k] = (x, y) := ⟨_, _, rfl⟩
      have sm := HS.out _ (List.getElem_mem hk)
      have hstep := rightF_drop L k hk
      rw [hxy] at sm hstep
      rw [hxy]
      unfold encE
      dsimp only at sm hstep
      have hLt := hL.lt
      have HXY := Lib.hid hxy
      clear hxy
      gi_wp2_with fail
      refine ⟨hL.alloc _, ?_⟩
      have hX := (HasC.new W 37 #[.string x, .string y]).put (L := W0.heap.size + 1) (by omega) bz
      have hE1 := (hE.alloc (.cells #[.string x, .string y] 37)).put (L := W0.heap.size + 1) (by omega) bz
      have hF1 := (hF.alloc (.cells #[.string x, .string y] 37)).put (L := W0.heap.size + 1) (by omega) bz
      have hL1 := (hL.alloc (.cells #[.string x, .string y] 37)).put bz
      have hS1 := (hS.alloc (.cells #[.string x, .string y] 37)).put (L := W0.heap.size + 1) (by omega) bz
      have hbw1 := below_put (hbw.alloc (by omega) (.cells #[.string x, .string y] 37)) (W0.heap.size + 1) bz (by omega)
      generalize (W.alloc (.cells #[.string x, .string y] 37)).putObj (W0.heap.size + 1) bz = V at hX hE1 hF1 hL1 hS1 hbw1
      clear hS hbw hE hF hL
      have cx := hX.cell 0
      have N1 := Lib.hid (fun W => isName_any x sm.1 W)
      have Y1 := Lib.hid (fun W => isValue_any y sm.2 W)
      have HST := Lib.hid hstep
      have HRR := Lib.hid hR
      clear hstep hR sm
      gi_wp2_with fail
      refine ⟨trivial, fun _ => by omega, ?_⟩
      refine (CallsIn.inRound _ (callsIn_wide.2 (N1.out _))).mono ?_
      rintro e V2 ⟨rfl, hb2⟩
      have hX2 := hX.below hb2 hX.lt
      have hE2 := hE1.below hb2 hE1.lt
      have hF2 := hF1.below hb2 hF1.lt
      have hL2 := hL1.below hb2 hL1.lt
      have hS2 := hS1.below hb2 hS1.lt
      have hbw2 := hbw1.trans (hb2.mono hbw1.size)
      clear cx hX hE1 hF1 hL1 hS1 hbw1 hb2 N1
      have hlt2 := hX2.lt
      cases hnm : nameB x.data.toList with
      | false =>
        have z := hE2.frozen 0
        have cz := hE2.cell 0
        have hv : rightF none L = false := by rw [HRR.out, HST.out, hnm]; rfl
        clear hnm
        gi_wp2_with fail
        exact ⟨hL2.set _ _ (by simp; omega) (by simp; omega), rfl, hbw2.setCell (p := ⟨w.heap.size, 0, none⟩) (Nat.le_refl _) _, hv, _, (hE2.set 0 _).eq rfl⟩
      | true =>
        have cy := hX2.cell 1
        gi_wp2_with fail
        refine ⟨trivial, fun _ => by omega, ?_⟩
        refine (CallsIn.inRound _ (callsIn_wide.2 (Y1.out _))).mono ?_
        rintro e V3 ⟨rfl, hb3⟩
        have hX3 := hX2.below hb3 hX2.lt
        have hE3 := hE2.below hb3 hE2.lt
        have hF3 := hF2.below hb3 hF2.lt
        have hL3 := hL2.below hb3 hL2.lt
        have hS3 := hS2.below hb3 hS2.lt
        have hbw3 := hbw2.trans (hb3.mono hbw2.size)
        clear cy hX2 hE2 hF2 hL2 hS2 hbw2 hb3 Y1
        have z := hE3.frozen 0
        have cz := hE3.cell 0
        cases hvl : valueB y.data.toList with
        | false =>
          have hv : rightF none L = false := by rw [HRR.out, HST.out, hvl, hnm]; rfl
          clear hnm hvl
          gi_wp2_with fail
          exact ⟨hL3.set _ _ (by simp; omega) (by simp; omega), rfl, hbw3.setCell (p := ⟨w.heap.size, 0, none⟩) (Nat.le_refl _) _, hv, _, (hE3.set 0 _).eq rfl⟩
        | true =>
          have hq := ahead_leq (prevL L k) x hnm
          obtain ⟨p, hp⟩ : ∃ p, p = (prevL L k).getD { data := #[] } := ⟨_, rfl⟩
          rw [← hp] at hq hF3
          have cx := hX3.cell 0
          have cp := hF3.cell 0
          have zp := hF3.frozen 0
          cases hah : aheadB (prevL L k) x with
          | false =>
            have hv : rightF none L = false := by rw [HRR.out, HST.out, hvl, hnm, hah]; rfl
            rw [hah] at hq
            have hq2 : (Op.bytesLess x.toList p.toList || x.toList == p.toList) = true := hq
            clear hnm hvl hp hah hq
            gi_wp2_with fail
            exact ⟨hL3.set _ _ (by simp; omega) (by simp; omega), rfl, hbw3.setCell (p := ⟨w.heap.size, 0, none⟩) (Nat.le_refl _) _, hv, _, (hE3.set 0 _).eq rfl⟩
          | true =>
            have hv : rightF none L = rightF (prevL L (k + 1)) (L.drop (k + 1)) := by rw [HRR.out, HST.out, hvl, hnm, hah]; rfl
            have hpk : (prevL L (k + 1)).getD { data := #[] } = x := by
              show ((L[k]?.map (·.1)).getD _) = x
              rw [List.getElem?_eq_getElem hk, HXY.out]
              rfl
            rw [hah] at hq
            have hq2 : (Op.bytesLess x.toList p.toList || x.toList == p.toList) = false := hq
            clear hnm hvl hp hah hq
            gi_wp2_with fail
            exact ⟨hL3.set _ _ (by simp; omega) (by simp; omega), hS3.far _ _ (by simp), hbw3.setCell (p := ⟨w.heap.size + 1, 0, none⟩) (by simp) _, hE3.far _ _ (by simp), by rw [hpk]; exact (hF3.set 0 _).eq rfl, hv⟩
    · rintro W ⟨hS, hbw, hE, hF, hR⟩ hK
      have c0 : W.cell? ⟨w.heap.size, 0, none⟩ = some .nilIface := hE.cell 0
      gi_wp2_with fail
      rw [Exit.noGoto_ret]
      refine ⟨by simp, .inl ⟨_, _, rfl, run_takeDeferred (b := W0.heap.size) hK, ?_⟩⟩
      have hg := grownBy_putObj' W W0.heap.size (.deferred none)
      refine ⟨_, results_tmp rfl _ _ _, ⟨_, rfl, .inl ⟨?_, rfl⟩⟩, hbw.grown hg hbw.size (fun k e => by cases e; omega)⟩
      unfold rightB
      rw [hR, List.drop_length, ← HM.out]
      simp [rightF, hl1, hl6]
    · rintro j W ⟨rfl, hbw, hR, s, hE⟩ hK
      have c0 : W.cell? ⟨w.heap.size, 0, none⟩ = some (.iface 63 (.string s)) := hE.cell 0
      gi_wp2_with fail
      rw [Exit.noGoto_ret]
      refine ⟨by simp, .inl ⟨_, _, rfl, run_takeDeferred (b := W0.heap.size) hK, ?_⟩⟩
      have hg := grownBy_putObj' W W0.heap.size (.deferred none)
      refine ⟨_, results_tmp rfl _ _ _, ⟨_, rfl, .inr ⟨?_, _, rfl⟩⟩, hbw.grown hg hbw.size (fun k e => by cases e; omega)⟩
      unfold rightB
      rw [hR]
      rfl
  · have hr : rightB L = false := by
      unfold rightB
      rw [← HM.out]
      have : (decide (1 ≤ m) && decide (m ≤ 6)) = false := by simp; omega
      rw [this, Bool.and_false]
    have HR := Lib.hid hr
    clear hr
    refine callsIn_of_wp Try.func19 rfl trivial ?_ rfl
    simp only [Try.ntmps19, List.size_toArray, List.length_cons, List.length_nil, Nat.reduceAdd, Nat.reduceSub, Array.replicate_succ, Array.replicate_zero, List.push_toArray, List.append_toArray, List.nil_append, List.cons_append]
    by_cases h1 : m < 1
    · have h1' : (m : Int) < 1 := by omega
      gi_wp2
      refine wpIn_scope' ?_
      gi_wp2_with fail
      rw [Exit.noGoto_ret]
      go_ret
      exact ⟨⟨_, rfl, .inr ⟨HR.out, _, rfl⟩⟩, Below.refl _ _⟩
    · have h1' : ¬ (m : Int) < 1 := by omega
      have h6 : (6 : Int) < m := by omega
      gi_wp2
      refine wpIn_scope' ?_
      gi_wp2_with fail
      rw [Exit.noGoto_ret]
      go_ret
      exact ⟨⟨_, rfl, .inr ⟨HR.out, _, rfl⟩⟩, Below.refl _ _⟩
theorem check_any (L : List Lab) (v : Value) (w : World) (hv : LblSl w v L) (hn : L.length ≤ 1000) (hs : smallLb L) :
    Calls Try.prog 19 #[v] w fun e w' => (∃ u, e = .returned u ∧ CheckV L u) ∧ Below w.heap.size w w' :=
  callsIn_wide.1 (check_in 5 (by decide) L v w hv hn hs)

set_option maxRecDepth 100000 in
theorem lRight_any (L : List Lab) (v : Value) (w : World) (hv : LblSl w v L) (hn : L.length ≤ 1000) (hs : smallLb L) :
    Calls Try.prog 12 #[v] w fun e w' => e = .returned (.bool (rightB L)) ∧ Below w.heap.size w w' := by
  have C1 := Lib.hid (fun W => check_any L v W)
  have HS := Lib.hid hs
  clear hs
  go_enter Try.func12, Try.ntmps12
  go_wp2_with fail
  with_reducible refine (C1.out _ hv hn HS.out).mono ?_
  rintro e w2 ⟨⟨u, rfl, hu⟩, hb⟩
  clear C1
  rcases hu with ⟨hr, rfl⟩ | ⟨hr, s, rfl⟩
  · have HR := Lib.hid hr
    have E1 := Lib.hid errno_ok
    clear hr
    go_wp2_with fail
    with_reducible refine (E1.out _).mono ?_
    rintro e w3 ⟨rfl, rfl⟩
    go_wp2_with fail
    go_ret
    exact ⟨by rw [HR.out]; rfl, hb⟩
  · have HR := Lib.hid hr
    have E1 := Lib.hid (errno_bad s)
    clear hr
    go_wp2_with fail
    with_reducible refine (E1.out _).mono ?_
    rintro e w3 ⟨rfl, rfl⟩
    go_wp2_with fail
    go_ret
    exact ⟨by rw [HR.out]; rfl, hb⟩
end Go.Proofs.Ytekmdgjkadglmaa
