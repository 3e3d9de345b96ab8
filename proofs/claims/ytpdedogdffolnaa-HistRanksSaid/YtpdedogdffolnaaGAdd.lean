/- The page's own answers for layer 9: Add. -/
import Derived.Test.YtpdedogdffolnaaGRgt
namespace Go.Proofs.Ytpdedogdffolnaa
open Go.RowKit

/-- A histogram in a cell, and a number: what is returned. -/
theorem results_hist {fn : Func} {p u : Tmp} (h : fn.results = #[.cell p 25, .tmp u]) (tmps : Array Value) (w : World) (g : Nat) (a b : Value)
    (hp : tmps.getD p undef = .pointer (some ⟨g, 0, none⟩)) (hg : HasC w g 25 #[a, b]) : (results fn tmps).run Try.prog w = .ok (.tuple #[.agg #[a, b], tmps.getD u undef]) w := by
  rw [results_cell_tmp h, hp]
  simp only [asAddr, Sem.run_pure, Result.andThen_ok]
  rw [run_loadVar_row w g 25 25 #[a, b] (0, 0) _ hg Try.underlying25 rfl (by kernel_rfl)]
  rfl
/-- What is told: a histogram, and the error's number. -/
def GX (P : Hg) (e : Ending) (W : World) : Prop := ∃ v, e = .returned (.tuple #[hgV P.1.1 v, .int .i64 (P.2 : Int)]) ∧ BinSl W v P.1.2
theorem BinSl.keep {w W : World} {v : Value} {L : List Bn} (h : BinSl w v L) (hz : w.heap.size ≤ W.heap.size) (g0 : Nat) (hb : ∀ b, b < w.heap.size → b ≠ g0 → W.heap[b]? = w.heap[b]?) (hne : ∀ a n c, v = .slice (some a) n c → a.block ≠ g0) : BinSl W v L := by
  rcases h with h | ⟨g, o, c, h1, h2, h4, h6⟩
  · exact .inl h
  · have hg := hb g h4 (hne _ _ _ h1)
    refine .inr ⟨g, o, c, h1, h2, by omega, fun j hj => ?_⟩
    exact ⟨(World.cell?_of_block (a := ⟨g, o + j * 2, none⟩) hg).trans (h6 j hj).1, (World.cell?_of_block (a := ⟨g, o + j * 2 + 1, none⟩) hg).trans (h6 j hj).2⟩
/-- A list apart from a block: what is laid in that block does not change it. -/
def BinFar (g0 : Nat) (w : World) (v : Value) (L : List Bn) : Prop := (∃ a c, v = .slice a 0 c ∧ (a = none → c = 0) ∧ L = []) ∨ ∃ g o c, v = .slice (some ⟨g, o, none⟩) L.length c ∧ L.length ≤ c ∧ g < w.heap.size ∧ g ≠ g0 ∧
    ∀ j (hj : j < L.length), w.cell? ⟨g, o + j * 2, none⟩ = some (.int .i64 L[j].1) ∧ w.cell? ⟨g, o + j * 2 + 1, none⟩ = some (gV L[j].2)
theorem BinFar.set {g0 : Nat} {w : World} {v : Value} {L : List Bn} (h : BinFar g0 w v L) (p : Addr) (hp : p.block = g0) (u : Value) : BinFar g0 (w.setCell p u) v L := by
  rcases h with h | ⟨g, o, c, h1, h2, h4, h5, h6⟩
  · exact .inl h
  · have hg := Below.heap_setCell w p u g (by rw [hp]; exact h5)
    refine .inr ⟨g, o, c, h1, h2, by simpa using h4, h5, fun j hj => ?_⟩
    exact ⟨(World.cell?_of_block (a := ⟨g, o + j * 2, none⟩) hg).trans (h6 j hj).1, (World.cell?_of_block (a := ⟨g, o + j * 2 + 1, none⟩) hg).trans (h6 j hj).2⟩
theorem BinFar.sl {g0 : Nat} {w : World} {v : Value} {L : List Bn} (h : BinFar g0 w v L) : BinSl w v L := by
  rcases h with h | ⟨g, o, c, h1, h2, h4, _, h6⟩
  · exact .inl h
  · exact .inr ⟨g, o, c, h1, h2, h4, h6⟩
/-- A list that holds bins does not lie where a histogram's own box is. -/
theorem BinSl.far {w : World} {v : Value} {L : List Bn} (h : BinSl w v L) {g0 : Nat} {f : Int} {u : Value} (hg0 : HasC w g0 25 #[.int .i64 f, u]) (hu : ∃ a n c, u = .slice a n c) : BinFar g0 w v L := by
  rcases h with h | ⟨g, o, c, h1, h2, h4, h6⟩
  · exact .inl h
  · by_cases hl : 0 < L.length
    · refine .inr ⟨g, o, c, h1, h2, h4, ?_, h6⟩
      rintro rfl
      obtain ⟨c1, c2⟩ := h6 0 hl
      obtain ⟨a, n, cc, rfl⟩ := hu
      have k0 := hg0.cell 0
      have k1 := hg0.cell 1
      have k2 := hg0.cell 2
      rcases Nat.lt_or_ge o 2 with ho | ho
      · have : o = 0 ∨ o = 1 := by omega
        rcases this with rfl | rfl
        · rw [Nat.zero_mul, Nat.add_zero] at c2
          rw [c2] at k1
          cases k1
        · rw [Nat.zero_mul, Nat.add_zero] at c1
          rw [c1] at k1
          cases k1
      · have e : w.cell? ⟨g, o + 0 * 2, none⟩ = none := by
          rw [Nat.zero_mul, Nat.add_zero]
          have := hg0.cell o
          rw [this]
          rw [Array.getElem?_eq_none]
          simpa using ho
        rw [e] at c1
        cases c1
    · have hnil : L = [] := List.eq_nil_of_length_eq_zero (by omega)
      subst hnil
      exact .inl ⟨_, _, h1, (fun e => by cases e), rfl⟩
set_option maxHeartbeats 4000000 in
set_option maxRecDepth 100000 in
theorem pAdd9_in (m : Nat) (h5 : 5 ≤ m) (f : Int) (L : List Bn) (v : Value) (x n : Nat) (w : World) (hv : BinSl w v L) (hn : L.length ≤ 1000) (hx : x ≤ topN) (hnt : n ≤ topN) :
    CallsIn Fence.wide m Try.prog 16 #[hgV f v, gV x, gV n] w fun e w' => GX (addG f L x n) e w' ∧ Below w.heap.size w w' := by
  have hb0 := (Below.refl w.heap.size w).alloc (Nat.le_refl _) (Obj.cells #[.int .i64 f, v] 25)
  have hb1 := hb0.alloc (by simp) (Obj.cells #[.int .i64 0, .slice none 0 0] 25)
  have hx1 : HasC ((w.alloc (Obj.cells #[.int .i64 f, v] 25)).alloc (Obj.cells #[.int .i64 0, .slice none 0 0] 25)) w.heap.size 25 #[.int .i64 f, v] := (HasC.new w _ _).alloc _
  have hr1 : HasC ((w.alloc (Obj.cells #[.int .i64 f, v] 25)).alloc (Obj.cells #[.int .i64 0, .slice none 0 0] 25)) (w.heap.size + 1) 25 #[.int .i64 0, .slice none 0 0] := HasC.at_ _ _ _ (by simp)
  have hsz : ((w.alloc (Obj.cells #[.int .i64 f, v] 25)).alloc (Obj.cells #[.int .i64 0, .slice none 0 0] 25)).heap.size = w.heap.size + 2 := by simp
  have R1 := Lib.hid (pRight9_any f L v _ (hv.below hb1) hn)
  have HB := Lib.hid hb1
  have HX := Lib.hid hx1
  have HR := Lib.hid hr1
  have HZ := Lib.hid hsz
  have HV := Lib.hid hv
  obtain ⟨ao, l, c, rfl⟩ := hv.form
  obtain ⟨P, hPP⟩ : ∃ P, addG f L x n = P := ⟨_, rfl⟩
  rw [hPP]
  clear hb0 hb1 hx1 hr1 hsz hv
  refine callsIn_of_wp Try.func16 rfl trivial ?_ rfl
  simp only [Try.ntmps16, List.size_toArray, List.length_cons, List.length_nil, Nat.reduceAdd, Nat.reduceSub, Array.replicate_succ, Array.replicate_zero, List.push_toArray, List.append_toArray, List.nil_append, List.cons_append]
  unfold hgV at R1 ⊢
  cases hq : rightG f L with
  | false =>
    rw [hq] at R1
    have hP : P = badG := by rw [← hPP]; unfold addG; rw [hq]; rfl
    have HP := Lib.hid hP
    clear hq hP hPP
    gi_wp2_with fail
    refine ⟨trivial, fun _ => by omega, ?_⟩
    refine (callsIn_wide.2 (R1.out)).mono ?_
    rintro e w1 ⟨rfl, hb⟩
    have hb2 := HB.out.trans (hb.mono HB.out.size)
    have hr2 := HR.out.below hb HR.out.lt
    have c0 := hr2.cell 0
    have c1 := hr2.cell 1
    have z0 := hr2.frozen 0
    have z1 := hr2.frozen 1
    have HR2 := Lib.hid hr2
    clear hb hr2
    gi_wp2_with fail
    refine bodyPost_ret (results_hist rfl _ _ (w.heap.size + 1) _ _ rfl (((HR2.out.set 0 (.int .i64 0)).set 1 (.slice none 0 0)).eq (cs' := #[.int .i64 0, .slice none 0 0]) rfl)) rfl ?_
    rw [HP.out]
    exact ⟨⟨_, rfl, BinSl.nil _⟩, (hb2.setCell (p := ⟨w.heap.size + 1, 0, none⟩) (by simp) _).setCell (p := ⟨w.heap.size + 1, 1, none⟩) (by simp) _⟩
  | true =>
    rw [hq] at R1
    have hP : P = ((f, putBn L (bktP f.toNat x : Int) n), 0) := by rw [← hPP]; unfold addG; rw [hq]; rfl
    have hbk : bucketI f x = bktP f.toNat x := by
      unfold bucketI
      rw [if_pos]
      exact ((Bool.and_eq_true _ _).mp hq).1
    have K1 := Lib.hid (fun W => pBucket_any f x W hx)
    rw [hbk] at K1
    obtain ⟨a, ha⟩ : ∃ a : Int, a = (bktP f.toNat x : Int) := ⟨_, rfl⟩
    rw [← ha] at hP K1
    have HP := Lib.hid hP
    have T1 := Lib.hid (fun v W hv => pPut_any L a n v W hv hn hnt)
    clear hq hP hPP hbk ha
    gi_wp2_with fail
    refine ⟨trivial, fun _ => by omega, ?_⟩
    refine (callsIn_wide.2 (R1.out)).mono ?_
    rintro e w1 ⟨rfl, hb⟩
    have hb2 := HB.out.trans (hb.mono HB.out.size)
    have hx2 := HX.out.below hb HX.out.lt
    have hr2 := HR.out.below hb HR.out.lt
    obtain ⟨D, hDk, hDd⟩ : ∃ D : World → Prop, (∀ W, D W → Below w1.heap.size w1 W) ∧ (∀ W, Below w1.heap.size w1 W → D W) := ⟨_, fun _ h => h, fun _ h => h⟩
    have E1 : ∀ i : InC D, i.w.cell? ⟨w.heap.size, 0, none⟩ = some (.int .i64 f) := fun i => (hx2.below (hDk _ i.h) hx2.lt).cell 0
    have E2 : ∀ i : InC D, i.w.cell? ⟨w.heap.size, 1, none⟩ = some (.slice ao l c) := fun i => (hx2.below (hDk _ i.h) hx2.lt).cell 1
    have HDD := Lib.hid hDd
    have HR2 := Lib.hid hr2
    have HB2 := Lib.hid hb2
    clear hDk hDd hb hx2 hr2 hb2
    gi_wp2_with fail
    refine region_heldIn 11 [0, 1, 2, 3, 4, 5, 6, 8] [7, 9, 10] D (by kernel_rfl) (FOk.wide _) (by kernel_rfl) (by intro c a d v w h; cases d <;> exact h) (HDD.out _ (Below.refl _ _).drew) ?_
    intro hne
    simp only [pickL, nthL]
    repeat (go_big_quiet_step (fail))
    refine wpQuiet_nil ?_
    intro Q0 hQ0
    clear E1 E2
    gi_wp2_with fail
    refine ⟨trivial, fun _ => by omega, ?_⟩
    refine (callsIn_wide.2 (K1.out _)).mono ?_
    rintro e W3 ⟨rfl, rfl⟩
    gi_wp2_with fail
    refine hQ0.out _ _ ⟨⟨w1.drew, HDD.out _ (Below.refl _ _).drew⟩, rfl⟩ ?_
    intro Q1 hQ1
    clear hQ0
    gi_wp2_with fail
    refine ⟨trivial, fun _ => by omega, ?_⟩
    refine (callsIn_wide.2 (T1.out _ w1.drew (HV.out.below (HB2.out.drew)))).mono ?_
    rintro e W4 ⟨⟨v4, rfl, hv4⟩, hb4⟩
    obtain ⟨a4, l4, c4, rfl⟩ := hv4.form
    have hb14 : Below w1.heap.size w1 W4 := (Below.refl w1.heap.size w1).drew.trans hb4
    have hr4 := HR2.out.below hb14 HR2.out.lt
    have HB4 := Lib.hid hb14
    have HF4 := Lib.hid (hv4.far hr4 ⟨_, _, _, rfl⟩)
    have HR4 := Lib.hid hr4
    clear hb4 hv4 hr4 hb14
    gi_wp2_with fail
    refine hQ1.out _ _ ⟨⟨W4, HDD.out _ HB4.out⟩, rfl⟩ ?_
    intro Q2 hQ2
    clear hQ1
    gi_wp2_with fail
    refine hQ2.out _ _ ⟨⟨W4, HDD.out _ HB4.out⟩, rfl⟩ ?_
    simp only [heavyRun, List.drop_succ_cons, List.drop_zero]
    clear hQ2 hne
    have hr4 := HR4.out
    have c0 := hr4.cell 0
    have c1 := hr4.cell 1
    have z0 := hr4.frozen 0
    have z1 := hr4.frozen 1
    clear hr4
    gi_wp2_with fail
    refine bodyPost_ret (results_hist rfl _ _ (w.heap.size + 1) _ _ rfl (((HR4.out.set 0 (.int .i64 f)).set 1 (.slice a4 l4 c4)).eq (cs' := #[.int .i64 f, .slice a4 l4 c4]) rfl)) rfl ?_
    rw [HP.out]
    have hb5 := HB2.out.trans (HB4.out.mono HB2.out.size)
    exact ⟨⟨_, rfl, ((HF4.out.set ⟨w.heap.size + 1, 0, none⟩ rfl _).set ⟨w.heap.size + 1, 1, none⟩ rfl _).sl⟩, (hb5.setCell (p := ⟨w.heap.size + 1, 0, none⟩) (by simp) _).setCell (p := ⟨w.heap.size + 1, 1, none⟩) (by simp) _⟩
theorem pAdd9_any (f : Int) (L : List Bn) (v : Value) (x n : Nat) (w : World) (hv : BinSl w v L) (hn : L.length ≤ 1000) (hx : x ≤ topN) (hnt : n ≤ topN) :
    Calls Try.prog 16 #[hgV f v, gV x, gV n] w fun e w' => GX (addG f L x n) e w' ∧ Below w.heap.size w w' := callsIn_wide.1 (pAdd9_in 6 (by decide) f L v x n w hv hn hx hnt)
end Go.Proofs.Ytpdedogdffolnaa
