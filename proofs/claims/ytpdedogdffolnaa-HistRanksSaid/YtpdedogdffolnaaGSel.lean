/- The page's own answers for layer 9: Select. -/
import Derived.Test.YtpdedogdffolnaaGRank
namespace Go.Proofs.Ytpdedogdffolnaa
open Go.RowKit

set_option maxHeartbeats 4000000 in
set_option maxRecDepth 100000 in
theorem pSel9_any (f : Int) (L : List Bn) (v : Value) (p : Nat) (w : World) (hv : BinSl w v L) (hn : L.length ≤ 1000) (hL : ∀ y ∈ L, y.2 ≤ topN) :
    Calls Try.prog 27 #[hgV f v, gV p] w fun e w' => e = .returned (bndV (selG f L p)) ∧ Below w.heap.size w w' := by
  have R1 := Lib.hid (fun W hs => pRight9_any f L v W hs hn)
  have HV := Lib.hid hv
  have hx0 := HasC.new w 25 #[.int .i64 f, v]
  have hb0 := (Below.refl w.heap.size w).alloc (Nat.le_refl _) (Obj.cells #[.int .i64 f, v] 25)
  obtain ⟨ao, c, rfl, hc⟩ := hv.shape
  obtain ⟨l, hl⟩ : ∃ l, l = L.length := ⟨_, rfl⟩
  have HC := Lib.hid hc
  have HL := Lib.hid hl
  have HLL := Lib.hid hL
  obtain ⟨P, hPP⟩ : ∃ P, selG f L p = P := ⟨_, rfl⟩
  rw [hPP]
  rw [← hl] at hn hx0 hb0 HV R1 ⊢
  clear hc hl hv hL
  unfold hgV at R1 ⊢
  cases hq : rightG f L with
  | false =>
    rw [hq] at R1
    have hv0 : P = (0, 0, false) := by rw [← hPP]; unfold selG; rw [hq]; rfl
    have HV0 := Lib.hid hv0
    have k0 := hx0.cell 0
    have k1 := hx0.cell 1
    clear hq hv0 hPP
    go_enter Try.func27, Try.ntmps27
    go_wp2_with fail
    go_loopw [7, 8] (fun y i wr => y = gV 0 ∧ i = .int .i64 0 ∧ wr = w.alloc (Obj.cells #[.int .i64 f, .slice ao l c] 25)) (fun _ _ _ => 0)
    case atStart => exact ⟨rfl, rfl, rfl⟩
    case round =>
      obtain ⟨rfl, rfl, rfl⟩ := hrel
      by_cases hl0 : (0 : Int) < (l : Int)
      · go_wp2_with fail
        with_reducible refine (R1.out _ (HV.out.below hb0)).mono ?_
        rintro e w1 ⟨rfl, hb⟩
        go_wp2_with fail
        go_ret3
        exact ⟨by rw [HV0.out]; rfl, hb0.trans (hb.mono hb0.size)⟩
      · go_wp2_with fail
        go_ret3
        exact ⟨by rw [HV0.out]; rfl, hb0⟩
  | true =>
    rw [hq] at R1
    have hv0 : P = (match selL p 0 L with | some a => boundsI f a | none => (0, 0, false)) := by rw [← hPP]; unfold selG; rw [hq, if_pos rfl]; cases selL p 0 L <;> rfl
    obtain ⟨S, hS⟩ : ∃ S, selL p 0 L = S := ⟨_, rfl⟩
    rw [hS] at hv0
    have h0 : Hid (selL p 0 (L.drop 0) = S) := by show _ = _; rw [List.drop_zero, hS]
    have HV0 := Lib.hid hv0
    clear hq hv0 hS hPP
    go_enter Try.func27, Try.ntmps27
    go_wp2_with fail
    go_loopw [7, 8] (fun y i wr => ∃ k acc : Nat, k ≤ l ∧ y = gV acc ∧ i = .int .i64 (k : Int) ∧ Hid (selL p acc (L.drop k) = S) ∧ HasC wr w.heap.size 25 #[.int .i64 f, .slice ao l c] ∧ Below w.heap.size w wr) (fun _ i _ => l - (intOf i).toNat)
    case atStart => exact ⟨0, 0, Nat.zero_le _, rfl, rfl, h0, hx0, hb0⟩
    case round =>
      obtain ⟨k, acc, hk, rfl, rfl, hs, hx1, hb1⟩ := hrel
      clear hx0 hb0 h0
      have k0 := hx1.cell 0
      have k1 := hx1.cell 1
      by_cases hlt : k < l
      · have hltI : (k : Int) < (l : Int) := by omega
        have hkl : k < L.length := by have := HL.out; omega
        obtain ⟨g, o, rfl, hcw⟩ := HC.out k hkl
        have hst : selL p acc (L.drop k) = if p < plusS acc L[k].2 then some L[k].1 else selL p (plusS acc L[k].2) (L.drop (k + 1)) := by
          rw [List.drop_eq_getElem_cons hkl]
          rfl
        have hyt := HLL.out _ (List.getElem_mem hkl)
        obtain ⟨xa, hxa⟩ : ∃ x, L[k].1 = x := ⟨_, rfl⟩
        obtain ⟨xn, hxn⟩ : ∃ x, L[k].2 = x := ⟨_, rfl⟩
        rw [hxa, hxn] at hst hcw
        rw [hxn] at hyt
        obtain ⟨s, hs'⟩ : ∃ s, s = plusS acc xn := ⟨_, rfl⟩
        have T1 := Lib.hid (fun W => pPlus9_any acc xn W hyt)
        rw [← hs'] at T1 hst
        have HST := Lib.hid hst
        have HCW := Lib.hid hcw
        clear hst hcw hxa hxn hs' hkl hyt
        go_wp2_with fail
        with_reducible refine (R1.out _ (HV.out.below hb1)).mono ?_
        rintro e w1 ⟨rfl, hb⟩
        have hb2 := hb1.trans (hb.mono hb1.size)
        have hx2 := hx1.below hb hx1.lt
        obtain ⟨c3, c4⟩ := HCW.out _ hb2
        clear hb hb1 hx1 k0 k1
        have k0 := hx2.cell 0
        have k1 := hx2.cell 1
        go_wp2_with fail
        with_reducible refine (T1.out _).mono ?_
        rintro e w5 ⟨rfl, rfl⟩
        by_cases hps : p < s
        · have hpsI : (p : Int) < (s : Int) := by omega
          have hSv : S = some xa := by rw [← hs.out, HST.out, if_pos hps]
          have hP : P = boundsI f xa := by rw [HV0.out, hSv]
          have B1 := Lib.hid (fun W => pBounds_any f xa W)
          rw [← hP] at B1
          obtain ⟨p1, p2, p3⟩ := P
          unfold bndV at B1
          dsimp only at B1
          obtain ⟨D, hDk, hDd⟩ : ∃ D : World → Prop, (∀ W, D W → Below w5.heap.size w5 W) ∧ (∀ W, Below w5.heap.size w5 W → D W) := ⟨_, fun _ h => h, fun _ h => h⟩
          have E1 : ∀ i : InC D, i.w.cell? ⟨w.heap.size, 0, none⟩ = some (.int .i64 f) := fun i => (hx2.below (hDk _ i.h) hx2.lt).cell 0
          have E2 : ∀ i : InC D, i.w.cell? ⟨w.heap.size, 1, none⟩ = some (.slice (some ⟨g, o, none⟩) l c) := fun i => (hx2.below (hDk _ i.h) hx2.lt).cell 1
          have E3 : ∀ i : InC D, i.w.cell? ⟨g, o + k * 2, none⟩ = some (.int .i64 xa) := fun i => (HCW.out _ (hb2.trans ((hDk _ i.h).mono hb2.size))).1
          have HD0 := Lib.hid (hDd _ (Below.refl w5.heap.size w5).drew)
          have HDD := Lib.hid hDd
          have HDK := Lib.hid hDk
          have HB2 := Lib.hid hb2
          clear hDk hDd hx2 hb2 hP hSv hps
          go_wp2_with fail
          refine region_class D (by kernel_rfl) (by kernel_rfl) HD0.out ?_
          intro hne
          repeat (go_big_quiet_step (((with_reducible refine (B1.out _).mono ?_); rintro e w' ⟨rfl, nn, rfl⟩; exact ⟨rfl, ⟨_, HDD.out _ (bel_drewN (HDK.out _ (InC.h _)) nn)⟩, rfl⟩)))
          refine wpQuiet_nil ?_
          intro i
          go_wp2_with fail
          go_ret3
          exact ⟨rfl, HB2.out.trans ((HDK.out _ i.h).mono HB2.out.size)⟩
        · have hpsI : ¬ (p : Int) < (s : Int) := by omega
          have hs2 : Hid (selL p s (L.drop (k + 1)) = S) := by
            show _ = _
            rw [← hs.out, HST.out, if_neg hps]
          go_wp2_with fail
          go_roundw
          case rel => exact ⟨k + 1, s, by omega, rfl, by go_num, hs2, hx2, hb2⟩
          case measure => simp [intOf]; omega
      · obtain rfl : k = l := by omega
        have hnl : ¬ (k : Int) < (k : Int) := by omega
        have hS : S = none := by
          rw [← hs.out, List.drop_eq_nil_of_le (by rw [HL.out]; exact Nat.le_refl _)]
          rfl
        have HP : Hid (P = (0, 0, false)) := by show _ = _; rw [HV0.out, hS]
        clear hS hs
        go_wp2_with fail
        go_ret3
        exact ⟨by rw [HP.out]; rfl, hb1⟩
end Go.Proofs.Ytpdedogdffolnaa
