/- Package exact: what is wrong with a sketch; Right. -/
import Derived.Test.YtncjbbgenngegaaECEach
import Derived.WalkLawsBesides
namespace Go.Proofs.Ytncjbbgenngegaa
open Go.RowKit Go.Shelf
attribute [local go_sem] Oper.semAt_some

theorem as_nil (w : World) : (Instr.typeAssert .nilIface 48 60 true).run Try.prog w = .ok (.tuple #[.string { data := #[] }, .bool false]) w := by kernel_rfl
theorem as_bad (s : ByteArray) (w : World) : (Instr.typeAssert (.iface 60 (.string s)) 48 60 true).run Try.prog w = .ok (.tuple #[.string s, .bool true]) w := by kernel_rfl
set_option maxRecDepth 100000 in
theorem errno_ok (w : World) : Calls Try.prog 30 #[.nilIface] w fun e w' => e = .returned (.int .i64 0) ∧ w = w' := by
  have h := as_nil
  go_enter Try.func30, Try.ntmps30
  go_wp2
  go_ret
  exact ⟨rfl, rfl⟩
set_option maxRecDepth 100000 in
theorem errno_bad (s : ByteArray) (w : World) : Calls Try.prog 30 #[.iface 60 (.string s)] w fun e w' => e = .returned (.int .i64 60) ∧ w = w' := by
  have h := as_bad s
  go_enter Try.func30, Try.ntmps30
  go_wp2
  go_ret
  exact ⟨rfl, rfl⟩

/-- An error, or none. -/
def ErrV (ok : Bool) (v : Value) : Prop := (ok = true ∧ v = .nilIface) ∨ (ok = false ∧ ∃ s, v = .iface 60 (.string s))
set_option maxRecDepth 100000 in
theorem result_err {fn : Func} {p : Tmp} (h : fn.results = #[.cell p 48]) (tmps : Array Value) (w : World) (g : Nat) (v : Value)
    (hp : tmps.getD p undef = .pointer (some ⟨g, 0, none⟩)) (hc : w.cell? ⟨g, 0, none⟩ = some v) : (results fn tmps).run Try.prog w = .ok v w := by
  have hp' : tmps[p]?.getD undef = .pointer (some ⟨g, 0, none⟩) := by simpa using hp
  have ha : (isAgg 48).run Try.prog w = .ok false w := by rfl
  simp only [results, h, loadVar]
  simp [hp', asAddr, ha, hc, Result.andThen]
/-- What stands ahead and is not less. -/
def backB (L : List Nat) (k : Nat) : Bool := riseB (L.drop (k - 1))

set_option maxHeartbeats 1000000 in
set_option maxRecDepth 100000 in
theorem check_in (n : Nat) (h3 : 3 ≤ n) (L : List Nat) (v : Value) (w : World) (hv : NumSl w v L) (hn : L.length ≤ 1000) :
    CallsIn Fence.wide n Try.prog 31 #[.agg #[v]] w fun e w' => (∃ u, e = .returned u ∧ ErrV (rightN L) u) ∧ Below w.heap.size w w' := by
  obtain ⟨ao, c, rfl, hc⟩ := hv.at_
  obtain ⟨m, hm⟩ : ∃ m, m = L.length := ⟨_, rfl⟩
  have HM := Lib.hid hm
  rw [← hm] at hn
  rw [← hm]
  have HC := Lib.hid hc
  clear hm hc hv
  by_cases hlen : 64 < m
  · have hr : rightN L = false := by
      unfold rightN
      rw [← HM.out, decide_eq_false (by omega), Bool.and_false]
    have HR := Lib.hid hr
    have h1 : (64 : Int) < m := by omega
    clear hr
    refine callsIn_of_wp Try.func31 rfl trivial ?_ rfl
    simp only [Try.ntmps31, List.size_toArray, List.length_cons, List.length_nil, Nat.reduceAdd, Nat.reduceSub, Array.replicate_succ, Array.replicate_zero, List.push_toArray, List.append_toArray, List.nil_append, List.cons_append]
    gi_wp2_with fail
    refine bodyPost_ret (result_err rfl _ _ (w.heap.size + 1) _ rfl (World.cell?_alloc_at _ _ _ _ (by simp))) rfl ?_
    exact ⟨⟨_, rfl, .inr ⟨HR.out, _, rfl⟩⟩, ((Below.refl _ w).alloc (Nat.le_refl _) _).alloc (by simp) _⟩
  · have h1 : ¬ (64 : Int) < m := by omega
    refine callsIn_of_wp_marks Try.func31 rfl trivial ?_ rfl
    simp only [Try.ntmps31, List.size_toArray, List.length_cons, List.length_nil, Nat.reduceAdd, Nat.reduceSub, Array.replicate_succ, Array.replicate_zero, List.push_toArray, List.append_toArray, List.nil_append, List.cons_append]
    gi_wp2_with fail
    refine ⟨trivial, fun _ => by omega, ?_⟩
    refine (callsIn_wide.2 (each_any _ _ _ _)).mono ?_
    rintro e w2 ⟨rfl, rfl⟩
    gi_wp2_with fail
    obtain ⟨W0, hW0⟩ : ∃ W0, W0 = ((w.alloc (.cells #[.slice ao m c] 24)).alloc (.cells #[.nilIface] 48)).alloc (.cells #[.slice ao m c] 22) := ⟨_, rfl⟩
    have hz0 : W0.heap.size = w.heap.size + 3 := by rw [hW0]; simp
    have hb0 : Below w.heap.size w W0 := by
      rw [hW0]
      exact (((Below.refl _ w).alloc (Nat.le_refl _) _).alloc (by simp) _).alloc (by simp; omega) _
    have hx0 : HasC W0 w.heap.size 24 #[.slice ao m c] := by rw [hW0]; exact ((HasC.new w _ _).alloc _).alloc _
    have he0 : HasC W0 (w.heap.size + 1) 48 #[.nilIface] := by rw [hW0]; exact (HasC.at_ _ _ _ (by simp)).alloc _
    have hs0 : HasC W0 (w.heap.size + 2) 22 #[.slice ao m c] := by rw [hW0]; exact HasC.at_ _ _ _ (by simp)
    rw [← hW0]
    clear hW0
    refine range_each (Bn := w.heap.size + 2) (c := c) (ao := ao) (L := L) (by omega) rfl rfl (by have := HM.out; omega) w.heap.size
      (fun k W => HasC W (w.heap.size + 2) 22 #[.slice ao m c] ∧ Below w.heap.size w W ∧ HasC W (w.heap.size + 1) 48 #[.nilIface] ∧ HasC W w.heap.size 24 #[.slice ao m c] ∧ riseB L = backB L k)
      (fun j W => j = .ret ∧ Below w.heap.size w W ∧ riseB L = false ∧ ∃ s, HasC W (w.heap.size + 1) 48 #[.iface 60 (.string s)])
      (fun k W h => ⟨by rw [← HM.out]; exact h.1.cell 0, HC.out.below h.2.1⟩) ?_ ?_ ?_ ?_ ?_ ?_
    · rintro k W o ⟨hS, hbw, hE, hX, hR⟩
      exact ⟨hS.put (by omega) o, below_put hbw _ o (by omega), hE.put (by omega) o, hX.put (by omega) o, hR⟩
    · rintro j W o ⟨hj, hbw, hR, s, hE⟩
      exact ⟨hj, below_put hbw _ o (by omega), hR, s, hE.put (by omega) o⟩
    · intro o
      exact ⟨(hs0.alloc _).alloc _, (hb0.alloc (by omega) _).alloc (by simp; omega) _, (he0.alloc _).alloc _, (hx0.alloc _).alloc _, rfl⟩
    · rintro k hk W ⟨hS, hbw, hE, hX, hR⟩ rd bz hL
      obtain ⟨y, hy⟩ : ∃ y, L[k] = y := ⟨_, rfl⟩
      have hLt := hL.lt
      have HY := Lib.hid hy
      rw [hy]
      unfold encE
      clear hy
      gi_wp2_with fail
      refine ⟨hL, ?_⟩
      have hE1 := hE.put (L := W0.heap.size + 1) (by omega) bz
      have hX1 := hX.put (L := W0.heap.size + 1) (by omega) bz
      have hL1 := hL.put bz
      have hS1 := hS.put (L := W0.heap.size + 1) (by omega) bz
      have hbw1 := below_put hbw (W0.heap.size + 1) bz (by omega)
      generalize W.putObj (W0.heap.size + 1) bz = V at hX1 hE1 hL1 hS1 hbw1
      clear hS hbw hE hX hL
      have HRR := Lib.hid hR
      clear hR
      have cx := hX1.cell 0
      cases k with
      | zero =>
        gi_wp2_with fail
        exact ⟨hL1, hS1, hbw1, hE1, hX1, by rw [HRR.out]; rfl⟩
      | succ j =>
        obtain ⟨g, o, rfl, hg, hc0⟩ := HC.out j (by omega)
        have hst := rise_drop hk
        obtain ⟨x, hx⟩ : ∃ x, L[j] = x := ⟨_, rfl⟩
        rw [HY.out, hx] at hst
        rw [hx] at hc0
        have c0 := (hbw1.cell (p := ⟨g, o + j, none⟩) hg).trans hc0
        have HST := Lib.hid hst
        clear hst hx hc0
        have hjm : j < m := by have := HM.out; omega
        by_cases hxy : x < y
        · have hq : ¬ (y : Int) ≤ x := by omega
          have hv : riseB L = backB L (j + 1 + 1) := by
            rw [HRR.out]
            show riseB (L.drop j) = riseB (L.drop (j + 1))
            rw [HST.out, decide_eq_true hxy, Bool.true_and]
          have HV := Lib.hid hv
          clear hv hz0
          gi_wp2_with fail
          exact ⟨hL1, hS1, hbw1, hE1, hX1, HV.out⟩
        · have hq : (y : Int) ≤ x := by omega
          have hv : riseB L = false := by
            rw [HRR.out]
            show riseB (L.drop j) = false
            rw [HST.out, decide_eq_false hxy, Bool.false_and]
          have z := hE1.frozen 0
          have cz := hE1.cell 0
          gi_wp2_with fail
          exact ⟨hL1.set _ _ (by simp; omega) (by simp; omega), rfl, hbw1.setCell (p := ⟨w.heap.size + 1, 0, none⟩) (by simp) _, hv, _, (hE1.set 0 _).eq rfl⟩
    · rintro W ⟨hS, hbw, hE, hX, hR⟩ hK
      have z := hE.frozen 0
      have cz := hE.cell 0
      have hv : rightN L = true := by
        unfold rightN
        rw [hR, ← HM.out, decide_eq_true (by omega), Bool.and_true]
        exact rise_end (by have := HM.out; omega)
      have HV := Lib.hid hv
      clear hR hv
      gi_wp2_with fail
      have hK1 : (W.setCell ⟨w.heap.size + 1, 0, none⟩ .nilIface).heap[W0.heap.size]? = some (.deferred (some [])) := (Below.heap_setCell W ⟨w.heap.size + 1, 0, none⟩ .nilIface W0.heap.size (by simp; omega)).trans hK
      refine ⟨by simp, .inl ⟨_, _, rfl, run_takeDeferred (b := W0.heap.size) hK1, ?_⟩⟩
      have he1 : HasC (W.setCell ⟨w.heap.size + 1, 0, none⟩ .nilIface) (w.heap.size + 1) 48 #[.nilIface] := (hE.set 0 .nilIface).eq rfl
      have hb1 := hbw.setCell (p := ⟨w.heap.size + 1, 0, none⟩) (by simp) .nilIface
      refine ⟨_, result_err rfl _ _ (w.heap.size + 1) _ rfl ((he1.put (L := W0.heap.size) (by omega) _).cell 0), ⟨_, rfl, .inl ⟨HV.out, rfl⟩⟩, below_put hb1 _ _ (by omega)⟩
    · rintro j W ⟨rfl, hbw, hR, s, hE⟩ hK
      have hv : rightN L = false := by
        unfold rightN
        rw [hR, Bool.false_and]
      gi_wp2_with fail
      refine ⟨by simp, .inl ⟨_, _, rfl, run_takeDeferred (b := W0.heap.size) hK, ?_⟩⟩
      refine ⟨_, result_err rfl _ _ (w.heap.size + 1) _ rfl ((hE.put (L := W0.heap.size) (by omega) _).cell 0), ⟨_, rfl, .inr ⟨hv, _, rfl⟩⟩, below_put hbw _ _ (by omega)⟩
theorem check_any (L : List Nat) (v : Value) (w : World) (hv : NumSl w v L) (hn : L.length ≤ 1000) :
    Calls Try.prog 31 #[.agg #[v]] w fun e w' => (∃ u, e = .returned u ∧ ErrV (rightN L) u) ∧ Below w.heap.size w w' :=
  callsIn_wide.1 (check_in 5 (by decide) L v w hv hn)
set_option maxHeartbeats 1000000 in
set_option maxRecDepth 100000 in
theorem xRight_any (L : List Nat) (v : Value) (w : World) (hv : NumSl w v L) (hn : L.length ≤ 900) :
    Calls Try.prog 16 #[.agg #[v]] w fun e w' => e = .returned (.bool (rightN L)) ∧ Below w.heap.size w w' := by
  obtain ⟨w1, hw1, hb1, hbox⟩ := box_new w v 24
  have C1 := Lib.hid (check_any L v w1 (hv.below hb1) (by omega))
  have HB := Lib.hid hb1
  have c0 := hbox w1 (Below.refl _ _)
  obtain ⟨ao, c, rfl, _⟩ := hv.shape
  obtain ⟨r, hr⟩ : ∃ r, rightN L = r := ⟨_, rfl⟩
  rw [hr] at C1 ⊢
  obtain ⟨n, hnn⟩ : ∃ n, n = L.length := ⟨_, rfl⟩
  rw [← hnn] at C1 hw1 ⊢
  clear hv hr hnn hn hb1 hbox c0
  subst hw1
  go_enter Try.func16, Try.ntmps16
  go_wp2_with fail
  with_reducible refine (C1.out).mono ?_
  rintro e w2 ⟨⟨u, rfl, hu⟩, hb⟩
  have hb2 := HB.out.trans (hb.mono HB.out.size)
  rcases hu with ⟨rfl, rfl⟩ | ⟨rfl, s, rfl⟩
  · go_wp2_with fail
    with_reducible refine (errno_ok _).mono ?_
    rintro e w3 ⟨rfl, rfl⟩
    go_wp2_with fail
    go_ret
    exact ⟨rfl, hb2⟩
  · go_wp2_with fail
    with_reducible refine (errno_bad _ _).mono ?_
    rintro e w3 ⟨rfl, rfl⟩
    go_wp2_with fail
    go_ret
    exact ⟨rfl, hb2⟩
end Go.Proofs.Ytncjbbgenngegaa
