/- Package cms: check; Right. -/
import Derived.Test.YthhlofcmhnkcmaaCCIt
namespace Go.Proofs.Ythhlofcmhnkcmaa
open Go.RowKit Go.Shelf
attribute [local go_sem] Oper.semAt_some

def DrN (V : World) (w' : World) : Prop := ∃ n, w' = V.drewN n
theorem result_err {fn : Func} {p : Tmp} (h : fn.results = #[.cell p 49]) (tmps : Array Value) (w : World) (g : Nat) (v : Value)
    (hp : tmps.getD p undef = .pointer (some ⟨g, 0, none⟩)) (hc : w.cell? ⟨g, 0, none⟩ = some v) : (results fn tmps).run Try.prog w = .ok v w := by
  have hp' : tmps[p]?.getD undef = .pointer (some ⟨g, 0, none⟩) := by simpa using hp
  have ha : (isAgg 49).run Try.prog w = .ok false w := by rfl
  simp only [results, h, loadVar]
  simp [hp', asAddr, ha, hc, Result.andThen]
/-- Right counters, of so many rows and columns. -/
def okX (r0 c0 : Int) (x : Cx) : Bool := okC x.r x.c && (decide (x.r = r0) && (decide (x.c = c0) && decide ((x.n : Int) = x.r * x.c)))
def headR (L : List Cx) : Int := match L with | [] => 0 | x :: _ => x.r
def headC (L : List Cx) : Int := match L with | [] => 0 | x :: _ => x.c
def checkL (L : List Cx) : Bool := L.all (okX (headR L) (headC L))
theorem check_no {L : List Cx} {k : Nat} (hk : k < L.length) (h : okX (headR L) (headC L) L[k] = false) : checkL L = false := by
  unfold checkL
  rw [List.all_eq_false]
  exact ⟨_, List.getElem_mem hk, by rw [h]; decide⟩
theorem check_step {L : List Cx} {k : Nat} (hk : k < L.length) (h : (L.take k).all (okX (headR L) (headC L)) = true) (h2 : okX (headR L) (headC L) L[k] = true) : (L.take (k + 1)).all (okX (headR L) (headC L)) = true := by
  rw [List.take_succ_eq_append_getElem hk, List.all_append, h, List.all_cons, h2]
  rfl

set_option maxHeartbeats 4000000 in
set_option maxRecDepth 100000 in
theorem check_in (n : Nat) (h3 : 5 ≤ n) (ao : Option Addr) (c : Nat) (L : List Cx) (w : World) (hL : CmAt w.heap.size ao L w) (hn : L.length ≤ 10) :
    CallsIn Fence.wide n Try.prog 35 #[.slice ao L.length c] w fun e w' => (∃ u, e = .returned u ∧ ErrV (checkL L) u) ∧ Below w.heap.size w w' := by
  obtain ⟨m, hm⟩ : ∃ m, m = L.length := ⟨_, rfl⟩
  have HM := Lib.hid hm
  rw [← hm] at hn
  rw [← hm]
  have HL := Lib.hid hL
  have HC : Hid (L.all (okX (headR L) (headC L)) = checkL L) := rfl
  clear hm hL
  refine callsIn_of_wp_marks Try.func35 rfl trivial ?_ rfl
  simp only [Try.ntmps35, List.size_toArray, List.length_cons, List.length_nil, Nat.reduceAdd, Nat.reduceSub, Array.replicate_succ, Array.replicate_zero, List.push_toArray, List.append_toArray, List.nil_append, List.cons_append]
  gi_wp2_with fail
  refine ⟨trivial, fun _ => by omega, ?_⟩
  refine (callsIn_wide.2 (eachCms_any _ _ _ _)).mono ?_
  rintro e w2 ⟨rfl, rfl⟩
  gi_wp2_with fail
  obtain ⟨W0, hW0⟩ : ∃ W0, W0 = ((w.alloc (.cells #[.slice ao m c] 71)).alloc (.cells #[.nilIface] 49)).alloc (.cells #[.slice ao m c] 71) := ⟨_, rfl⟩
  have hz0 : W0.heap.size = w.heap.size + 3 := by rw [hW0]; simp
  have hb0 : Below w.heap.size w W0 := by
    rw [hW0]
    exact (((Below.refl _ w).alloc (Nat.le_refl _) _).alloc (by simp) _).alloc (by simp; omega) _
  have hA0 : HasC W0 w.heap.size 71 #[.slice ao m c] := by rw [hW0]; exact ((HasC.new w _ _).alloc _).alloc _
  have hE0 : HasC W0 (w.heap.size + 1) 49 #[.nilIface] := by rw [hW0]; exact (HasC.at_ _ _ _ (by simp)).alloc _
  have hS0 : HasC W0 (w.heap.size + 2) 71 #[.slice ao m c] := by rw [hW0]; exact HasC.at_ _ _ _ (by simp)
  rw [← hW0]
  clear hW0
  refine range_fn (by omega) (each_cms (w.heap.size + 2) w.heap.size ao c L (by have := HM.out; omega)) (enters_of Try.func53 (by kernel_rfl) rfl) rfl (fun _ => rfl)
    (fun k W => HasC W (w.heap.size + 2) 71 #[.slice ao m c] ∧ Below w.heap.size w W ∧ HasC W (w.heap.size + 1) 49 #[.nilIface] ∧ HasC W w.heap.size 71 #[.slice ao m c] ∧ (L.take k).all (okX (headR L) (headC L)) = true)
    (fun j W => j = .ret ∧ Below w.heap.size w W ∧ checkL L = false ∧ ∃ s, HasC W (w.heap.size + 1) 49 #[.iface 69 (.string s)])
    (fun k W W' h hb => ⟨h.1.below hb h.1.lt, h.2.1.trans (hb.mono h.2.1.size), h.2.2.1.below hb h.2.2.1.lt, h.2.2.2.1.below hb h.2.2.2.1.lt, h.2.2.2.2⟩)
    (fun k W h => ⟨by rw [← HM.out]; exact h.1.cell 0, HL.out.below h.2.1⟩) ?_ ?_ ?_ ?_ ?_ ?_
  · rintro k W _ o ⟨hS, hbw, hE, hA, hAll⟩ _
    exact ⟨hS.put (by omega) _, below_put hbw _ _ (by omega), hE.put (by omega) _, hA.put (by omega) _, hAll⟩
  · rintro j W _ o ⟨hj, hbw, hv, s, hE⟩ _
    exact ⟨hj, below_put hbw _ _ (by omega), hv, s, hE.put (by omega) _⟩
  · intro o
    have hk : Below W0.heap.size W0 ((W0.alloc (.deferred (some []))).alloc (.loop o)) := ((Below.refl _ W0).alloc (Nat.le_refl _) _).alloc (by simp) _
    exact ⟨hS0.below hk hS0.lt, hb0.trans (hk.mono hb0.size), hE0.below hk hE0.lt, hA0.below hk hA0.lt, by rw [List.take_zero]; rfl⟩
  · rintro k hk W ⟨hS, hbw, hE, hA, hAll⟩ rd bz hLp
    have hkm : k < m := by have := HM.out; omega
    have hno := Lib.hid (fun h => check_no hk h)
    have hst := Lib.hid (fun h => check_step hk hAll h)
    obtain ⟨g, o, rfl, hg, hc1, hc2, _⟩ := HL.out 0 (by omega)
    have hhd : L[0].r = headR L := by
      cases L with
      | nil => simp at hk
      | cons X t => rfl
    have hhc : L[0].c = headC L := by
      cases L with
      | nil => simp at hk
      | cons X t => rfl
    rw [hhd] at hc1
    rw [hhc] at hc2
    obtain ⟨x, hx⟩ : ∃ x, x = L[k] := ⟨_, rfl⟩
    obtain ⟨r0, hr0⟩ : ∃ r0, r0 = headR L := ⟨_, rfl⟩
    obtain ⟨c0, hc0⟩ : ∃ c0, c0 = headC L := ⟨_, rfl⟩
    have hokv : okX (headR L) (headC L) L[k] = okX r0 c0 x := by rw [hr0, hc0, hx]
    rw [hokv] at hno hst
    rw [← hr0] at hc1
    rw [← hc0] at hc2
    unfold encC
    rw [← hx]
    have HG0 := Lib.hid hr0
    have HG1 := Lib.hid hc0
    obtain ⟨xr, xc, xa, xn, xp⟩ := x
    dsimp only [Cx.v]
    unfold okX at hno hst
    dsimp only at hno hst
    have hLt := hLp.lt
    rw [Nat.zero_mul, Nat.add_zero] at hc1 hc2
    clear hA0 hE0 hS0 hb0 hhd hhc hokv hx hr0 hc0
    unfold cV
    gi_wp2_with fail
    refine ⟨hLp.alloc _, ?_⟩
    have hX1 : HasC ((W.alloc (.cells #[.int .i64 xr, .int .i64 xc, .slice xa xn xp] 24)).putObj (W0.heap.size + 1) (.loop bz)) W.heap.size 24 #[.int .i64 xr, .int .i64 xc, .slice xa xn xp] := (HasC.new W _ _).put (by omega) _
    have hA1 := (hA.alloc (.cells #[.int .i64 xr, .int .i64 xc, .slice xa xn xp] 24)).put (L := W0.heap.size + 1) (by omega) (.loop bz)
    have hE1 := (hE.alloc (.cells #[.int .i64 xr, .int .i64 xc, .slice xa xn xp] 24)).put (L := W0.heap.size + 1) (by omega) (.loop bz)
    have hS1 := (hS.alloc (.cells #[.int .i64 xr, .int .i64 xc, .slice xa xn xp] 24)).put (L := W0.heap.size + 1) (by omega) (.loop bz)
    have hbw1 := below_put (hbw.alloc (by omega) (.cells #[.int .i64 xr, .int .i64 xc, .slice xa xn xp] 24)) (W0.heap.size + 1) (.loop bz) (by omega)
    have hL1 := (hLp.alloc (.cells #[.int .i64 xr, .int .i64 xc, .slice xa xn xp] 24)).put (.loop bz)
    generalize (W.alloc (.cells #[.int .i64 xr, .int .i64 xc, .slice xa xn xp] 24)).putObj (W0.heap.size + 1) (.loop bz) = V at hX1 hA1 hE1 hS1 hbw1 hL1
    clear hS hbw hE hA hLp
    have HLT := Lib.hid hLt
    have x0 := hX1.cell 0
    have x1 := hX1.cell 1
    have D1 := Lib.hid (fun W => shape_any xr xc W)
    have ze := hE1.frozen 0
    have ce := hE1.cell 0
    clear hLt hAll
    cases hq : okC xr xc with
    | false =>
      rw [hq] at D1
      have hv : checkL L = false := hno.out (by rw [hq]; rfl)
      have HV := Lib.hid hv
      clear hv hq
      gi_wp2_with fail
      refine ⟨trivial, fun _ => by omega, ?_⟩
      refine (CallsIn.inRound _ (callsIn_wide.2 (D1.out _))).mono ?_
      rintro e V2 ⟨⟨u, rfl, hu⟩, rfl⟩
      rcases hu with ⟨hu, _⟩ | ⟨_, s, rfl⟩
      · cases hu
      gi_wp2_with fail
      exact ⟨hL1.set _ _ (by simp; omega) (by simp; omega), rfl, hbw1.setCell (p := ⟨w.heap.size + 1, 0, none⟩) (by simp) _, HV.out, _, (hE1.set 0 _).eq rfl⟩
    | true =>
      rw [hq] at D1
      obtain ⟨xa', xb', hxa, hxb, _, ha4, hb32⟩ := okC_nat hq
      have hb32' : xb' ≤ 32 := by omega
      have hm0 : (0 : Int) < (m : Int) := by omega
      have E1 : ∀ i : InC (DrN V), i.w.cell? ⟨W.heap.size, 0, none⟩ = some (.int .i64 xr) := fun ⟨_, _, h⟩ => by subst h; exact hX1.cell 0
      have E2 : ∀ i : InC (DrN V), i.w.cell? ⟨W.heap.size, 1, none⟩ = some (.int .i64 xc) := fun ⟨_, _, h⟩ => by subst h; exact hX1.cell 1
      have E3 : ∀ i : InC (DrN V), i.w.cell? ⟨w.heap.size, 0, none⟩ = some (.slice (some ⟨g, o, none⟩) m c) := fun ⟨_, _, h⟩ => by subst h; exact hA1.cell 0
      have E4 : ∀ i : InC (DrN V), i.w.cell? ⟨g, o, none⟩ = some (.int .i64 r0) := fun ⟨_, _, h⟩ => by subst h; exact (hbw1.cell (p := ⟨g, o, none⟩) hg).trans hc1
      have E5 : ∀ i : InC (DrN V), i.w.cell? ⟨g, o + 1, none⟩ = some (.int .i64 c0) := fun ⟨_, _, h⟩ => by subst h; exact (hbw1.cell (p := ⟨g, o + 1, none⟩) hg).trans hc2
      obtain ⟨bd, hbd⟩ : ∃ bd, (decide (xr = r0) && decide (xc = c0)) = bd := ⟨_, rfl⟩
      obtain ⟨ln, hln⟩ : ∃ ln, decide ((xn : Int) = xr * xc) = ln := ⟨_, rfl⟩
      rw [hq, Bool.true_and, ← Bool.and_assoc, hbd, hln] at hno hst
      have hw : wrap64 (xr * xc) = xr * xc := by
        obtain ⟨pp, hpp, _, hpw⟩ := okC_mul (a := xa') (b := xb') ha4 hb32
        rw [hxa, hxb, hpw, hpp]
        push_cast
        rfl
      have HW := Lib.hid hw
      have hqr : (xr != r0) = !decide (xr = r0) := by by_cases h : xr = r0 <;> simp [h]
      have hqc : (xc != c0) = !decide (xc = c0) := by by_cases h : xc = c0 <;> simp [h]
      obtain ⟨pr, hpr⟩ : ∃ pr, decide (xr = r0) = pr := ⟨_, rfl⟩
      obtain ⟨pc, hpc⟩ : ∃ pc, decide (xc = c0) = pc := ⟨_, rfl⟩
      rw [hpr] at hqr hbd
      rw [hpc] at hqc hbd
      have hlq : ((xn : Int) != xr * xc) = !ln := by rw [← hln]; by_cases h : (xn : Int) = xr * xc <;> simp [h]
      have HLQ := Lib.hid hlq
      clear hq hxa hxb ha4 hb32 hb32' hw hlq hln hpr hpc
      gi_wp2_with fail
      refine ⟨trivial, fun _ => by omega, ?_⟩
      refine (CallsIn.inRound _ (callsIn_wide.2 (D1.out _))).mono ?_
      rintro e V2 ⟨⟨u, rfl, hu⟩, rfl⟩
      rcases hu with ⟨_, rfl⟩ | ⟨hu, _⟩
      case inr => cases hu
      gi_wp2_with fail
      cases pr with
      | false =>
        have hv : checkL L = false := hno.out (by rw [← hbd]; rfl)
        have HV := Lib.hid hv
        clear hv hno hst
        refine region_tailIn 15 (DrN V) (by kernel_rfl) (by kernel_rfl) (by kernel_rfl) ⟨1, rfl⟩ ?_
        intro hne
        simp only [List.take_succ_cons, List.take_zero]
        repeat (go_big_quiet_step (fail))
        refine wpQuiet_nil ?_
        intro i
        simp only [List.drop_succ_cons, List.drop_zero]
        obtain ⟨V3, dn, hV3⟩ := i
        have hE3 : HasC V3 (w.heap.size + 1) 49 #[.nilIface] := by rw [hV3]; exact hE1
        have hX3 : HasC V3 W.heap.size 24 #[.int .i64 xr, .int .i64 xc, .slice xa xn xp] := by rw [hV3]; exact hX1
        have hA3 : HasC V3 w.heap.size 71 #[.slice (some ⟨g, o, none⟩) m c] := by rw [hV3]; exact hA1
        have hS3 : HasC V3 (w.heap.size + 2) 71 #[.slice (some ⟨g, o, none⟩) m c] := by rw [hV3]; exact hS1
        have hL3 : Lp W0.heap.size (.loop bz) V3 := by rw [hV3]; exact hL1
        have hbw3 : Below w.heap.size w V3 := by rw [hV3]; exact bel_drewN hbw1 dn
        dsimp only
        clear hE1 hX1 hA1 hS1 hL1 hbw1 E1 E2 E3 E4 E5 hV3 hne x0 x1 ze ce
        have ze := hE3.frozen 0
        have ce := hE3.cell 0
        gi_wp2_with fail
        exact ⟨hL3.set _ _ (by simp; omega) (by simp; omega), rfl, hbw3.setCell (p := ⟨w.heap.size + 1, 0, none⟩) (by simp) _, HV.out, _, (hE3.set 0 _).eq rfl⟩
      | true =>
        cases pc with
        | false =>
          have hv : checkL L = false := hno.out (by rw [← hbd]; rfl)
          have HV := Lib.hid hv
          clear hv hno hst
          refine region_tailIn 15 (DrN V) (by kernel_rfl) (by kernel_rfl) (by kernel_rfl) ⟨1, rfl⟩ ?_
          intro hne
          simp only [List.take_succ_cons, List.take_zero]
          repeat (go_big_quiet_step (fail))
          refine wpQuiet_nil ?_
          intro i
          simp only [List.drop_succ_cons, List.drop_zero]
          obtain ⟨V3, dn, hV3⟩ := i
          have hE3 : HasC V3 (w.heap.size + 1) 49 #[.nilIface] := by rw [hV3]; exact hE1
          have hX3 : HasC V3 W.heap.size 24 #[.int .i64 xr, .int .i64 xc, .slice xa xn xp] := by rw [hV3]; exact hX1
          have hA3 : HasC V3 w.heap.size 71 #[.slice (some ⟨g, o, none⟩) m c] := by rw [hV3]; exact hA1
          have hS3 : HasC V3 (w.heap.size + 2) 71 #[.slice (some ⟨g, o, none⟩) m c] := by rw [hV3]; exact hS1
          have hL3 : Lp W0.heap.size (.loop bz) V3 := by rw [hV3]; exact hL1
          have hbw3 : Below w.heap.size w V3 := by rw [hV3]; exact bel_drewN hbw1 dn
          dsimp only
          clear hE1 hX1 hA1 hS1 hL1 hbw1 E1 E2 E3 E4 E5 hV3 hne x0 x1 ze ce
          have ze := hE3.frozen 0
          have ce := hE3.cell 0
          gi_wp2_with fail
          exact ⟨hL3.set _ _ (by simp; omega) (by simp; omega), rfl, hbw3.setCell (p := ⟨w.heap.size + 1, 0, none⟩) (by simp) _, HV.out, _, (hE3.set 0 _).eq rfl⟩
        | true =>
          rw [← hbd] at hno hst
          refine region_tailIn 15 (DrN V) (by kernel_rfl) (by kernel_rfl) (by kernel_rfl) ⟨1, rfl⟩ ?_
          intro hne
          simp only [List.take_succ_cons, List.take_zero]
          repeat (go_big_quiet_step (fail))
          refine wpQuiet_nil ?_
          intro i
          simp only [List.drop_succ_cons, List.drop_zero]
          obtain ⟨V3, dn, hV3⟩ := i
          have hE3 : HasC V3 (w.heap.size + 1) 49 #[.nilIface] := by rw [hV3]; exact hE1
          have hX3 : HasC V3 W.heap.size 24 #[.int .i64 xr, .int .i64 xc, .slice xa xn xp] := by rw [hV3]; exact hX1
          have hA3 : HasC V3 w.heap.size 71 #[.slice (some ⟨g, o, none⟩) m c] := by rw [hV3]; exact hA1
          have hS3 : HasC V3 (w.heap.size + 2) 71 #[.slice (some ⟨g, o, none⟩) m c] := by rw [hV3]; exact hS1
          have hL3 : Lp W0.heap.size (.loop bz) V3 := by rw [hV3]; exact hL1
          have hbw3 : Below w.heap.size w V3 := by rw [hV3]; exact bel_drewN hbw1 dn
          dsimp only
          clear hE1 hX1 hA1 hS1 hL1 hbw1 E1 E2 E3 E4 E5 hV3 hne x0 x1 ze ce
          have ze := hE3.frozen 0
          have ce := hE3.cell 0
          have x0 := hX3.cell 0
          have x1 := hX3.cell 1
          have x2 := hX3.cell 2
          cases ln with
          | false =>
            have hv : checkL L = false := hno.out rfl
            have HV := Lib.hid hv
            have hlq := HLQ.out
            have hw := HW.out
            clear hv hno hst
            gi_wp2_with fail
            exact ⟨hL3.set _ _ (by simp; omega) (by simp; omega), rfl, hbw3.setCell (p := ⟨w.heap.size + 1, 0, none⟩) (by simp) _, HV.out, _, (hE3.set 0 _).eq rfl⟩
          | true =>
            have hv := hst.out rfl
            have HV := Lib.hid hv
            have hlq := HLQ.out
            have hw := HW.out
            clear hv hno hst
            gi_wp2_with fail
            exact ⟨hL3, hS3, hbw3, hE3, hA3, HV.out⟩
  · rintro W ⟨hS, hbw, hE, hA, hAll⟩ hK
    have ce := hE.cell 0
    have z := hE.frozen 0
    have hv : checkL L = true := by
      rw [← HC.out, ← hAll, List.take_of_length_le (Nat.le_refl _)]
    have HV := Lib.hid hv
    clear hv hAll
    gi_wp2_with fail
    have hK1 : (W.setCell ⟨w.heap.size + 1, 0, none⟩ .nilIface).heap[W0.heap.size]? = some (.deferred (some [])) := (Below.heap_setCell W ⟨w.heap.size + 1, 0, none⟩ .nilIface W0.heap.size (by simp; omega)).trans hK
    refine ⟨by simp, .inl ⟨_, _, rfl, run_takeDeferred (b := W0.heap.size) hK1, ?_⟩⟩
    have he1 : HasC (W.setCell ⟨w.heap.size + 1, 0, none⟩ .nilIface) (w.heap.size + 1) 49 #[.nilIface] := (hE.set 0 .nilIface).eq rfl
    have hb1 := hbw.setCell (p := ⟨w.heap.size + 1, 0, none⟩) (by simp) .nilIface
    refine ⟨_, result_err rfl _ _ (w.heap.size + 1) _ rfl ((he1.put (L := W0.heap.size) (by omega) _).cell 0), ⟨_, rfl, .inl ⟨HV.out, rfl⟩⟩, below_put hb1 _ _ (by omega)⟩
  · rintro j W ⟨rfl, hbw, hv, s, hE⟩ hK
    gi_wp2_with fail
    refine ⟨by simp, .inl ⟨_, _, rfl, run_takeDeferred (b := W0.heap.size) hK, ?_⟩⟩
    refine ⟨_, result_err rfl _ _ (w.heap.size + 1) _ rfl ((hE.put (L := W0.heap.size) (by omega) _).cell 0), ⟨_, rfl, .inr ⟨hv, _, rfl⟩⟩, below_put hbw _ _ (by omega)⟩
end Go.Proofs.Ythhlofcmhnkcmaa
