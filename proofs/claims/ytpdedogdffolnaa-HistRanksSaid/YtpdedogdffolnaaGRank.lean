/- The page's own answers for layer 9: Rank, Total, Select. -/
import Derived.Test.YtpdedogdffolnaaGAdd
namespace Go.Proofs.Ytpdedogdffolnaa
open Go.RowKit

theorem sum_next (p : Int → Bool) {L : List Bn} {k : Nat} (hk : k < L.length) : min (sumP p (L.take (k + 1))) topN = if p L[k].1 then plusS (min (sumP p (L.take k)) topN) L[k].2 else min (sumP p (L.take k)) topN := by
  rw [List.take_succ_eq_append_getElem hk, sumP_app]
  simp only [sumP]
  split
  · rw [plus_sat]; rfl
  · rfl
set_option maxHeartbeats 4000000 in
set_option maxRecDepth 100000 in
theorem pRank9_any (f : Int) (L : List Bn) (v : Value) (x : Nat) (w : World) (hv : BinSl w v L) (hn : L.length ≤ 1000) (hL : ∀ y ∈ L, y.2 ≤ topN) (hx : x ≤ topN) :
    Calls Try.prog 31 #[hgV f v, gV x] w fun e w' => e = .returned (gV (rankG f L x)) ∧ Below w.heap.size w w' := by
  have R1 := Lib.hid (fun W hs => pRight9_any f L v W hs hn)
  have K1 := Lib.hid (fun W => pBucket_any f x W hx)
  have HV := Lib.hid hv
  have hx0 := HasC.new w 25 #[.int .i64 f, v]
  have hb0 := (Below.refl w.heap.size w).alloc (Nat.le_refl _) (Obj.cells #[.int .i64 f, v] 25)
  obtain ⟨ao, c, rfl, hc⟩ := hv.shape
  obtain ⟨l, hl⟩ : ∃ l, l = L.length := ⟨_, rfl⟩
  have HC := Lib.hid hc
  have HL := Lib.hid hl
  have HLL := Lib.hid hL
  rw [← hl] at hn hx0 hb0 HV R1 ⊢
  clear hc hl hv hL
  unfold hgV at R1 ⊢
  cases hq : rightG f L with
  | false =>
    rw [hq] at R1
    have hv0 : rankG f L x = 0 := by unfold rankG; rw [hq]; rfl
    have HV0 := Lib.hid hv0
    have k0 := hx0.cell 0
    have k1 := hx0.cell 1
    clear hq hv0
    go_enter Try.func31, Try.ntmps31
    go_wp2_with fail
    go_loopw [5, 6] (fun y i wr => y = gV 0 ∧ i = .int .i64 0 ∧ wr = w.alloc (Obj.cells #[.int .i64 f, .slice ao l c] 25)) (fun _ _ _ => 0)
    case atStart => exact ⟨rfl, rfl, rfl⟩
    case round =>
      obtain ⟨rfl, rfl, rfl⟩ := hrel
      by_cases hl0 : (0 : Int) < (l : Int)
      · go_wp2_with fail
        with_reducible refine (R1.out _ (HV.out.below hb0)).mono ?_
        rintro e w1 ⟨rfl, hb⟩
        go_wp2_with fail
        go_ret
        exact ⟨by rw [HV0.out]; rfl, hb0.trans (hb.mono hb0.size)⟩
      · go_wp2_with fail
        go_ret
        exact ⟨by rw [HV0.out]; rfl, hb0⟩
  | true =>
    rw [hq] at R1
    have hbk : bucketI f x = bktP f.toNat x := by
      unfold bucketI
      rw [if_pos]
      exact ((Bool.and_eq_true _ _).mp hq).1
    rw [hbk] at K1
    obtain ⟨b, hb'⟩ : ∃ b : Nat, b = bktP f.toNat x := ⟨_, rfl⟩
    have hv0 : rankG f L x = min (sumP (fun a => decide (a ≤ (b : Int))) L) topN := by unfold rankG; rw [hq, if_pos rfl, hb']
    rw [← hb'] at K1
    have HV0 := Lib.hid hv0
    clear hq hv0 hbk hb'
    go_enter Try.func31, Try.ntmps31
    go_wp2_with fail
    go_loopw [5, 6] (fun y i wr => ∃ k : Nat, k ≤ l ∧ y = gV (min (sumP (fun a => decide (a ≤ (b : Int))) (L.take k)) topN) ∧ i = .int .i64 (k : Int) ∧ HasC wr w.heap.size 25 #[.int .i64 f, .slice ao l c] ∧ Below w.heap.size w wr) (fun _ i _ => l - (intOf i).toNat)
    case atStart => exact ⟨0, Nat.zero_le _, rfl, rfl, hx0, hb0⟩
    case round =>
      obtain ⟨k, hk, rfl, rfl, hx1, hb1⟩ := hrel
      clear hx0 hb0
      have k0 := hx1.cell 0
      have k1 := hx1.cell 1
      by_cases hlt : k < l
      · have hltI : (k : Int) < (l : Int) := by omega
        have hkl : k < L.length := by have := HL.out; omega
        obtain ⟨g, o, rfl, hcw⟩ := HC.out k hkl
        have hnx := sum_next (fun a => decide (a ≤ (b : Int))) hkl
        have hyt := HLL.out _ (List.getElem_mem hkl)
        obtain ⟨xa, hxa⟩ : ∃ x, L[k].1 = x := ⟨_, rfl⟩
        obtain ⟨xn, hxn⟩ : ∃ x, L[k].2 = x := ⟨_, rfl⟩
        rw [hxa, hxn] at hnx hcw
        rw [hxn] at hyt
        obtain ⟨s, hs⟩ : ∃ s, s = min (sumP (fun a => decide (a ≤ (b : Int))) (L.take k)) topN := ⟨_, rfl⟩
        rw [← hs] at hnx ⊢
        have T1 := Lib.hid (fun W => pPlus9_any s xn W hyt)
        have HNX := Lib.hid hnx
        have HCW := Lib.hid hcw
        clear hnx hcw hxa hxn hs hkl hyt
        go_wp2_with fail
        with_reducible refine (R1.out _ (HV.out.below hb1)).mono ?_
        rintro e w1 ⟨rfl, hb⟩
        have hb2 := hb1.trans (hb.mono hb1.size)
        have hx2 := hx1.below hb hx1.lt
        clear hb hb1 hx1 k0 k1
        obtain ⟨D, hDk, hDd⟩ : ∃ D : World → Prop, (∀ W, D W → Below w1.heap.size w1 W) ∧ (∀ W, Below w1.heap.size w1 W → D W) := ⟨_, fun _ h => h, fun _ h => h⟩
        have E1 : ∀ i : InC D, i.w.cell? ⟨w.heap.size, 0, none⟩ = some (.int .i64 f) := fun i => (hx2.below (hDk _ i.h) hx2.lt).cell 0
        have E2 : ∀ i : InC D, i.w.cell? ⟨w.heap.size, 1, none⟩ = some (.slice (some ⟨g, o, none⟩) l c) := fun i => (hx2.below (hDk _ i.h) hx2.lt).cell 1
        have E3 : ∀ i : InC D, i.w.cell? ⟨g, o + k * 2, none⟩ = some (.int .i64 xa) := fun i => (HCW.out _ (hb2.trans ((hDk _ i.h).mono hb2.size))).1
        have HD0 := Lib.hid (hDd _ (Below.refl w1.heap.size w1).drew)
        have HDK := Lib.hid hDk
        have HX2 := Lib.hid hx2
        have HB2 := Lib.hid hb2
        clear hDk hDd hx2 hb2
        go_wp2_with fail
        refine region_class D (by kernel_rfl) (by kernel_rfl) HD0.out ?_
        intro hne
        repeat (go_big_quiet_step (((with_reducible refine (K1.out _).mono ?_); rintro e w' ⟨rfl, rfl⟩; exact ⟨rfl, ⟨_, InC.h _⟩, rfl⟩)))
        refine wpQuiet_nil ?_
        intro j
        have hd := HDK.out _ j.h
        have hb3 := HB2.out.trans (hd.mono HB2.out.size)
        have hx3 := HX2.out.below hd HX2.out.lt
        have k1 := hx3.cell 1
        obtain ⟨_, c4⟩ := HCW.out _ hb3
        clear E1 E2 E3 hne hd
        by_cases hle : xa ≤ (b : Int)
        · have HR : Hid (min (sumP (fun a => decide (a ≤ (b : Int))) (L.take (k + 1))) topN = plusS s xn) := by
            show _ = _
            rw [HNX.out, decide_eq_true hle, if_pos rfl]
          go_wp2_with fail
          with_reducible refine (T1.out _).mono ?_
          rintro e w5 ⟨rfl, rfl⟩
          go_wp2_with fail
          go_roundw
          case rel => exact ⟨k + 1, by omega, by rw [HR.out], by go_num, hx3, hb3⟩
          case measure => simp [intOf]; omega
        · have HR : Hid (min (sumP (fun a => decide (a ≤ (b : Int))) (L.take (k + 1))) topN = s) := by
            show _ = _
            rw [HNX.out, decide_eq_false hle, if_neg Bool.false_ne_true]
          go_wp2_with fail
          go_roundw
          case rel => exact ⟨k + 1, by omega, by rw [HR.out], by go_num, hx3, hb3⟩
          case measure => simp [intOf]; omega
      · obtain rfl : k = l := by omega
        have hnl : ¬ (k : Int) < (k : Int) := by omega
        rw [List.take_of_length_le (by rw [HL.out]; exact Nat.le_refl _), ← HV0.out]
        obtain ⟨s, hs⟩ : ∃ s, s = rankG f L x := ⟨_, rfl⟩
        rw [← hs]
        have HS := Lib.hid hs
        clear hs
        go_wp2_with fail
        go_ret
        exact ⟨by rw [← HS.out]; rfl, hb1⟩
set_option maxRecDepth 100000 in
theorem pTotal9_any (f : Int) (L : List Bn) (v : Value) (w : World) (hv : BinSl w v L) (hn : L.length ≤ 1000) (hL : ∀ y ∈ L, y.2 ≤ topN) :
    Calls Try.prog 29 #[hgV f v] w fun e w' => e = .returned (gV (rankG f L topN)) ∧ Below w.heap.size w w' := by
  have hb0 := (Below.refl w.heap.size w).alloc (Nat.le_refl _) (Obj.cells #[.int .i64 f, v] 25)
  have R1 := Lib.hid (pRank9_any f L v topN _ (hv.below hb0) hn hL (Nat.le_refl _))
  have HB := Lib.hid hb0
  obtain ⟨ao, l, c, rfl⟩ := hv.form
  clear hb0 hv hL
  unfold hgV gV at R1 ⊢
  simp only [show ((topN : Nat) : Int) = 18446744073709551615 from rfl] at R1
  go_enter Try.func29, Try.ntmps29
  go_wp2_with fail
  with_reducible refine (R1.out).mono ?_
  rintro e w1 ⟨rfl, hb⟩
  have hb1 := HB.out.trans (hb.mono HB.out.size)
  go_wp2_with fail
  go_ret
  exact ⟨rfl, hb1⟩
end Go.Proofs.Ytpdedogdffolnaa
