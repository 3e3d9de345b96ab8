/- Package exact: Has, Count, told, put. -/
import Derived.Test.YtncjbbgenngegaaECFind
import Derived.ArgAppend
namespace Go.Proofs.Ytncjbbgenngegaa
open Go.RowKit Go.Shelf

set_option maxHeartbeats 2000000 in
set_option maxRecDepth 100000 in
theorem xHas_any (L : List Nat) (x : Nat) (v : Value) (w : World) (hv : NumSl w v L) (hn : L.length ≤ 900) :
    Calls Try.prog 18 #[.agg #[v], nV x] w fun e w' => e = .returned (.bool (hasB L x)) ∧ Below w.heap.size w w' := by
  obtain ⟨w1, hw1, hb1, hbox⟩ := box_new w v 24
  have hx1 : HasC w1 w.heap.size 24 #[v] := by rw [← hw1]; exact HasC.new w _ _
  have C1 := Lib.hid (xRight_any L v w1 (hv.below hb1) (by omega))
  have HB := Lib.hid hb1
  have HV := Lib.hid (hv.below hb1)
  obtain ⟨ao, c, rfl, _⟩ := hv.shape
  unfold hasB
  obtain ⟨n, hnn⟩ : ∃ n, n = L.length := ⟨_, rfl⟩
  rw [← hnn] at C1 HV hw1 hx1 ⊢
  cases hr : rightN L with
  | false =>
    rw [hr] at C1
    clear hv hr hnn hn hb1 hbox hx1 HV
    subst hw1
    go_enter Try.func18, Try.ntmps18
    go_wp2_with fail
    with_reducible refine (C1.out).mono ?_
    rintro e w2 ⟨rfl, hb⟩
    go_wp2_with fail
    go_ret
    exact ⟨by rw [Bool.and_false]; rfl, HB.out.trans (hb.mono HB.out.size)⟩
  | true =>
    rw [hr] at C1
    have hrr := (right_parts hr).1
    have hll : L.length ≤ 1000 := by omega
    have B1 := Lib.hid (fun W v h => find_any L x v W h hrr hll)
    have HX := Lib.hid hx1
    clear hv hr hnn hn hb1 hbox hx1 hrr hll
    have hz1 : w1.heap.size = w.heap.size + 1 := by rw [← hw1]; simp
    have HZ := Lib.hid hz1
    clear hz1
    subst hw1
    go_enter Try.func18, Try.ntmps18
    go_wp2_with fail
    with_reducible refine (C1.out).mono ?_
    rintro e w2 ⟨rfl, hb⟩
    have hx2 := (HX.out.below hb (by have := HZ.out; omega))
    have c2 := hx2.cell 0
    have hv2 := HV.out.below hb
    have hbb := HB.out.trans (hb.mono HB.out.size)
    clear hb
    go_wp2_with fail
    with_reducible refine (B1.out _ _ hv2).mono ?_
    rintro e w3 ⟨⟨p, rfl, _, _, _⟩, hb⟩
    go_wp2_with fail
    go_ret
    exact ⟨by rw [Bool.and_true]; rfl, hbb.trans (hb.mono hbb.size)⟩
set_option maxHeartbeats 2000000 in
set_option maxRecDepth 100000 in
theorem xCount_any (L : List Nat) (v : Value) (w : World) (hv : NumSl w v L) (hn : L.length ≤ 900) :
    Calls Try.prog 20 #[.agg #[v]] w fun e w' => e = .returned (nV (countN L)) ∧ Below w.heap.size w w' := by
  obtain ⟨w1, hw1, hb1, hbox⟩ := box_new w v 24
  have hx1 : HasC w1 w.heap.size 24 #[v] := by rw [← hw1]; exact HasC.new w _ _
  have C1 := Lib.hid (xRight_any L v w1 (hv.below hb1) (by omega))
  have HB := Lib.hid hb1
  obtain ⟨ao, c, rfl, _⟩ := hv.shape
  unfold countN
  obtain ⟨n, hnn⟩ : ∃ n, n = L.length := ⟨_, rfl⟩
  rw [← hnn] at C1 hw1 hx1 hn ⊢
  have hz1 : w1.heap.size = w.heap.size + 1 := by rw [← hw1]; simp
  have HZ := Lib.hid hz1
  have HX := Lib.hid hx1
  cases hr : rightN L with
  | false =>
    rw [hr] at C1
    clear hv hr hnn hn hb1 hbox hx1 hz1
    subst hw1
    go_enter Try.func20, Try.ntmps20
    go_wp2_with fail
    with_reducible refine (C1.out).mono ?_
    rintro e w2 ⟨rfl, hb⟩
    go_wp2_with fail
    go_ret
    exact ⟨rfl, HB.out.trans (hb.mono HB.out.size)⟩
  | true =>
    rw [hr] at C1
    clear hv hr hnn hb1 hbox hx1 hz1
    subst hw1
    go_enter Try.func20, Try.ntmps20
    go_wp2_with fail
    with_reducible refine (C1.out).mono ?_
    rintro e w2 ⟨rfl, hb⟩
    have hx2 := (HX.out.below hb (by have := HZ.out; omega))
    have c2 := hx2.cell 0
    have hbb := HB.out.trans (hb.mono HB.out.size)
    clear hb
    go_wp2_with fail
    go_ret
    exact ⟨rfl, hbb⟩
set_option maxHeartbeats 2000000 in
set_option maxRecDepth 100000 in
/-- What told answers. -/
theorem told_ok (v : Value) (w : World) (hv : ∃ a n c, v = .slice a n c) :
    Calls Try.prog 27 #[v, .nilIface] w fun e w' => e = .returned (.tuple #[.agg #[v], .int .i64 0]) ∧ Below w.heap.size w w' := by
  obtain ⟨a, n, c, rfl⟩ := hv
  go_enter Try.func27, Try.ntmps27
  go_wp2_with fail
  with_reducible refine (errno_ok _).mono ?_
  rintro e w2 ⟨rfl, rfl⟩
  go_wp2_with fail
  refine bodyPost_ret (results_exact rfl _ _ w.heap.size (.slice a n c) rfl (HasC.new w _ _)) rfl ?_
  exact ⟨rfl, (Below.refl _ w).alloc (Nat.le_refl _) _⟩
set_option maxHeartbeats 2000000 in
set_option maxRecDepth 100000 in
theorem told_bad (v : Value) (s : ByteArray) (w : World) :
    Calls Try.prog 27 #[v, .iface 60 (.string s)] w fun e w' => e = .returned (.tuple #[.agg #[.slice none 0 0], .int .i64 60]) ∧ Below w.heap.size w w' := by
  go_enter Try.func27, Try.ntmps27
  go_wp2_with fail
  with_reducible refine (errno_bad _ _).mono ?_
  rintro e w2 ⟨rfl, rfl⟩
  go_wp2_with fail
  refine bodyPost_ret (results_exact rfl _ _ w.heap.size (.slice none 0 0) rfl (HasC.new w _ _)) rfl ?_
  exact ⟨rfl, (Below.refl _ w).alloc (Nat.le_refl _) _⟩
set_option maxRecDepth 100000 in
/-- The first k, with no room behind them. -/
theorem num_ahead {w : World} {v : Value} {L : List Nat} (h : NumSl w v L) (k : Nat) (hk : k ≤ L.length) :
    ∃ ao, (∀ W : World, (Instr.slice 22 v none (some (.int .i64 (k : Int))) (some (.int .i64 (k : Int)))).run Try.prog W = .ok (.slice ao k k) W) ∧ (ao = none → k = 0) ∧ ∀ b, ao = some b → ∀ W, Below w.heap.size w W → ∀ j u, (numL (L.take k))[j]? = some u → W.cell? (b.add j) = some u := by
  have hz : ∀ W : World, (sizeOf (Try.prog.elem 22)).run Try.prog W = .ok 1 W := fun W => rfl
  rcases h with ⟨a, c, rfl, h0, rfl⟩ | ⟨g, o, c, rfl, hlc, hg, hc⟩
  · obtain rfl : k = 0 := by simpa using hk
    refine ⟨a, fun W => ?_, fun _ => rfl, fun b _ W _ j u hj => by simp [numL] at hj⟩
    · rw [run_slice_hm (P := Try.prog) W 22 a 0 c Try.underlying22 .i64 .i64 _ _ (by simp) (by simp) (by simp), hz]
      simp [Result.andThen, sliced]
  · refine ⟨some ⟨g, o, none⟩, fun W => ?_, fun e => (by cases e), fun b hb W hbw j u hj => ?_⟩
    · rw [run_slice_hm (P := Try.prog) W 22 _ _ _ Try.underlying22 .i64 .i64 _ _ (by omega) (by omega) (by omega), hz]
      simp only [Result.andThen_ok, sliced, Int.toNat_natCast, Nat.sub_zero]
      congr 2
      split
      · rfl
      · rw [Option.map_some, Nat.zero_mul, add_blockN, Nat.add_zero]
    · cases hb
      rw [add_blockN]
      have hl : j < k := by
        have := (List.getElem?_eq_some_iff.1 hj).1
        rw [numL_len, List.length_take] at this
        omega
      have hlL : j < L.length := by omega
      rw [numL_at _ j (by rw [List.length_take]; omega), List.getElem_take] at hj
      obtain rfl : nV L[j] = u := by simpa using hj
      exact (hbw.cell (p := ⟨g, o + j, none⟩) hg).trans (hc j hlL)
theorem one_cells (w : World) (x : Nat) : ∀ j u, (numL [x])[j]? = some u → (w.alloc (Obj.cells #[nV x] 25)).cell? ((⟨w.heap.size, 0, none⟩ : Addr).add j) = some u := by
  intro j u hj
  cases j with
  | zero =>
    rw [add_blockN]
    exact (World.cell?_alloc_at _ _ _ _ rfl).trans (by simpa [numL] using hj)
  | succ j => simp [numL] at hj
set_option maxHeartbeats 2000000 in
set_option maxRecDepth 100000 in
/-- put: a list of its own. -/
theorem put_any (L : List Nat) (x k : Nat) (v : Value) (w : World) (h : NumSl w v L) (hk : k ≤ L.length) (hn : L.length ≤ 1000) :
    Calls Try.prog 36 #[v, .int .i64 (k : Int), nV x] w fun e w' => (∃ v', e = .returned v' ∧ w'.ownsRow w.heap.size 25 1 v' (L.length + 1) (numL (L.take k ++ x :: L.drop k))) ∧ Below w.heap.size w w' := by
  obtain ⟨i0, hi, hz0, hz1, hz2⟩ := partsE infoN
  obtain ⟨ahead, hr1, hn1, hc1⟩ := num_ahead h k hk
  obtain ⟨src2, hr2, hv2⟩ := num_drop h k hk
  have hlt : (numL (L.take k)).length = k * 1 := by rw [numL_len, List.length_take, Nat.min_eq_left hk, Nat.mul_one]
  have hld : (L.drop k).length = L.length - k := List.length_drop
  have hfin : numL (L.take k) ++ numL [x] ++ numL (L.drop k) = numL (L.take k ++ x :: L.drop k) := by rw [← numL_app, ← numL_app, List.append_assoc]; rfl
  have HF := Lib.hid hfin
  have HLD := Lib.hid hld
  have HLT := Lib.hid hlt
  have HC1 := Lib.hid hc1
  have HV2 := Lib.hid hv2
  obtain ⟨ao, c, rfl, _⟩ := h.shape
  obtain ⟨n, hnn⟩ : ∃ n, n = L.length := ⟨_, rfl⟩
  rw [← hnn] at hr1 hr2 hk hn HLD ⊢
  clear hc1 hv2 hlt hld hfin h hnn
  have i1 := Lib.hid hi
  have i2 := Lib.hid hz0
  have i3 := Lib.hid hz1
  have i4 := Lib.hid hz2
  clear hi hz0 hz1 hz2
  go_enter Try.func36, Try.ntmps36
  go_wp2_with fail
  go_quiet (fail)
  have hb0 := bel_drewN (Below.refl w.heap.size w) nq
  generalize w.drewN nq = w0 at hb0
  have hw0 : w.heap.size ≤ w0.heap.size := hb0.size
  go_wp2_with (at_builtin; first
    | (refine wpList_append_grows _ rfl (.tmp 16) (.tmp 18) 22 rfl 25 i0 (.int .u64 0) 1 8 Try.underlying22 i1.out i2.out i3.out i4.out rfl (by decide) ahead k k (numL (L.take k)) rfl (fun e => ⟨hn1 e, hn1 e⟩) HLT.out (fun b hb j u hj => HC1.out b hb _ (hb0.alloc hw0 _) j u hj) ⟨w0.heap.size, 0, none⟩ 1 1 (numL [x]) rfl rfl (one_cells w0 x) (numL_one _) (by omega) (by unfold maxLen; omega) (by omega) ?_; intro v1 w1 hown1 hgrow1; have hz1 := hgrow1.size; have HB1 : Below w.heap.size w w1 := (hb0.alloc hw0 _).grown hgrow1 (by simp; omega) (fun k hk => by cases hk); have HO1 := Lib.hid (World.ownsRow.mono hown1 (by simp; omega : w.heap.size ≤ _)); clear hown1 hgrow1)
    | go_loud (refine wpList_appN _ rfl (.tmp 19) (.tmp 20) rfl w.heap.size v1 (k + 1) (numL (L.take k) ++ numL [x]) rfl HO1.out src2 (n - k) (numL (L.drop k)) rfl (by rw [← HLD.out]; exact SrcN.of_num (HV2.out.below HB1)) (by omega) (by simp at hz1; omega) ?_; intro v3 w4 hown3 hgrow3))
  go_ret
  refine ⟨⟨_, rfl, ?_⟩, HB1.grown hgrow3 (by simp at hz1; omega) (fun k hk => (HO1.out.lt _ hk).1)⟩
  rw [HF.out, show k + 1 + (n - k) = n + 1 by omega] at hown3
  exact hown3
end Go.Proofs.Ytncjbbgenngegaa
