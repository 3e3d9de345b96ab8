/- The statements' walks, stage 8: CmsCounts. -/
import Derived.Test.YthhlofcmhnkcmaaCItm
namespace Go.Proofs.Ythhlofcmhnkcmaa
open Go.RowKit

theorem lowCnt8 {a b : Nat} (hab : OkN a b) (l : List (Nat × Nat)) (h : Nat) (hh : h ≤ topN) :
    ∃ (r2 c2 : Int) (f mm : Nat) (K : List Nat), (f = 80 ∨ (f = 0 ∧ countL b (ofI a b l) h a ≤ mm ∧ mm ≤ min (allI l) topN)) ∧
      (∀ v W, NumSl W v (ofI a b l) → Calls Try.prog 25 #[cV a b v] W fun e w' => (∃ v', e = .returned (.tuple #[cV r2 c2 v', .int .i64 (f : Int)]) ∧ NumF W.heap.size w' v' K) ∧ Below W.heap.size W w') ∧
      (∀ v W, NumSl W v K → Calls Try.prog 21 #[cV r2 c2 v, nV h] W fun e w' => e = .returned (nV mm) ∧ Below W.heap.size W w') := by
  obtain ⟨h1, h2, h3⟩ := hab
  by_cases h4 : b = 4
  · subst h4
    refine ⟨0, 0, 80, 0, [], .inl rfl, fun v W hv => ?_, fun v W hv => ?_⟩
    · refine (cLower_any a _ _ v W hv (OkN.len ⟨h1, h2, h3⟩ l) (ofI_le _ _ l)).mono fun e w' ⟨⟨v', he, hf⟩, hb⟩ => ?_
      have e1 : lowerCm (a : Int) ((4 : Nat) : Int) (ofI a 4 l) = badC := by unfold lowerCm; rw [show decide (((4 : Nat) : Int) ≠ 4) = false from rfl, Bool.and_false]; rfl
      rw [e1] at he hf
      exact ⟨⟨v', he, hf⟩, hb⟩
    · exact cCount_any 0 0 [] v h W hv (Nat.zero_le _) (fun y hy => by cases hy) hh
  · obtain ⟨c, rfl, hc⟩ : ∃ c, b = 2 * c ∧ (c = 4 ∨ c = 8 ∨ c = 16) := ⟨b / 2, by omega, by omega⟩
    have hc0 : 0 < c := by omega
    refine ⟨a, c, 0, countL c (ofI a c l) h a, ofI a c l, .inr ⟨rfl, count_low hc0 l h a (Nat.le_refl _), ?_⟩, fun v W hv => kLower8 h1 h2 hc l v W hv, fun v W hv => kCount8 ⟨h1, h2, by omega⟩ l h hh v W hv⟩
    obtain ⟨a', rfl⟩ : ∃ a', a = a' + 1 := ⟨a - 1, by omega⟩
    exact count_all hc0 l h a' (by omega)
theorem all_next (l : List (Nat × Nat)) (k : Nat) (hk : k < l.length) : plusS (min (allI (l.take k)) topN) l[k].2 = min (allI (l.take (k + 1))) topN := by
  rw [List.take_succ_eq_append_getElem hk, all_app, plus_sat]
  simp [allI]
theorem own_next (h : Nat) (l : List (Nat × Nat)) (k : Nat) (hk : k < l.length) : (if l[k].1 = h then plusS (min (ownI h (l.take k)) topN) l[k].2 else min (ownI h (l.take k)) topN) = min (ownI h (l.take (k + 1))) topN := by
  rw [List.take_succ_eq_append_getElem hk, own_app, plus_sat]
  by_cases hx : l[k].1 = h <;> simp [ownI, hx]
set_option maxHeartbeats 8000000 in
set_option maxRecDepth 100000 in
theorem lawCounts8_any (x0 x1 : Int) (L : List (Nat × Nat)) (v : Value) (h : Nat) (w : World) (hv : ItmSl w v L) (hn : L.length ≤ maxLen) (hl : ∀ x ∈ L, x.1 ≤ topN ∧ x.2 ≤ topN) (hh : h ≤ topN) :
    Calls Try.prog 7 #[.int .i64 x0, .int .i64 x1, v, nV h] w fun e w' => e = .returned (.bool true) ∧ Below w.heap.size w w' := by
  unfold maxLen at hn
  obtain ⟨n, hnn⟩ : ∃ n, n = L.length := ⟨_, rfl⟩
  obtain ⟨m, q1, q2, q3, q4⟩ := min_of 100 100 rfl n
  have q5 : min (n : Int) 100 = (m : Int) := by have := q4.out; omega
  obtain ⟨src, hr, hs⟩ := itm_take hv m (by omega)
  have hlm := itm_mem (k := m) hl
  have hlen : (L.take m).length = m := by rw [List.length_take]; omega
  obtain ⟨ao, cp, rfl, _⟩ := hv.shape
  obtain ⟨l, hl0⟩ : ∃ l, l = L.take m := ⟨_, rfl⟩
  rw [← hnn] at hr ⊢
  rw [← hl0] at hs hlm hlen
  have HS := Lib.hid hs
  have HLM := Lib.hid hlm
  obtain ⟨a0, c0, rfl, hcell⟩ := hs.shape
  rw [hlen] at hr HS
  have HCL := Lib.hid hcell
  have HLEN := Lib.hid hlen
  clear hs hv hl hl0 hnn hcell hlm
  go_enter Try.func7, Try.ntmps7
  go_wp2_with fail
  with_reducible refine (shown8_any _).mono ?_
  rintro e w1 ⟨rfl, hk⟩
  have hs1 := HS.out.below hk
  rcases okC_or x0 x1 with hbad | ⟨a, b, rfl, rfl, hab⟩
  · have O1 := Lib.hid (kOf_bad hbad l _ w1 hs1 (by omega))
    unfold cV at O1
    clear hs1 hlen
    go_wp2_with fail
    with_reducible refine (O1.out).mono ?_
    rintro e w2 ⟨⟨v2, rfl, z2⟩, hb⟩
    obtain ⟨a2, n2, c2, rfl⟩ := z2.form
    obtain ⟨w3, hw3, hb3, hz3, _⟩ := atM_new w2 0 0 (.slice a2 n2 c2)
    have hk3 := (hk.trans (hb.mono hk.size)).trans (hb3.mono (hk.trans (hb.mono hk.size)).size)
    go_wp2_with fail
    go_ret
    exact ⟨rfl, hk3⟩
  · have O1 := Lib.hid (kOf8 hab l _ w1 hs1 (by omega) HLM.out)
    have C1 := Lib.hid (fun v W hv => kCount8 hab l h hh v W hv)
    obtain ⟨r2, c2, f, mm, K, hf, L1, C2⟩ := lowCnt8 hab l h hh
    have L1 := Lib.hid L1
    have C2 := Lib.hid C2
    have hb0 : 0 < b := by have := hab.2.2; omega
    obtain ⟨y, hy⟩ : ∃ y, y = countL b (ofI a b l) h a := ⟨_, rfl⟩
    obtain ⟨own, hown⟩ : ∃ y, y = min (ownI h l) topN := ⟨_, rfl⟩
    obtain ⟨all, hall⟩ : ∃ y, y = min (allI l) topN := ⟨_, rfl⟩
    have g1 : own ≤ y := by rw [hown, hy]; exact count_own hb0 l h a (Nat.le_refl _)
    have g2 : y ≤ all := by
      rw [hall, hy]
      obtain ⟨a', ha'⟩ : ∃ a', a = a' + 1 := ⟨a - 1, by have := hab.1; omega⟩
      rw [ha']
      exact count_all hb0 l h a' (by omega)
    rw [← hy] at C1 hf
    rw [← hall] at hf
    unfold cV at O1 C1 L1 C2
    have HOWN := Lib.hid hown
    have HALL := Lib.hid hall
    have HG1 := Lib.hid g1
    have HG2 := Lib.hid g2
    have HF := Lib.hid hf
    clear hs1 hlen hy hown hall g1 g2 hf hb0 hab
    go_wp2_with fail
    with_reducible refine (O1.out).mono ?_
    rintro e w2 ⟨⟨v2, rfl, z2⟩, hb⟩
    obtain ⟨a2, n2, d2, rfl⟩ := z2.form
    replace hk := hk.trans (hb.mono hk.size)
    obtain ⟨w3, hw3, hb3, hz3, tx⟩ := atM_new w2 a b (.slice a2 n2 d2)
    replace hk := hk.trans (hb3.mono hk.size)
    have sx := z2.sl.below hb3
    clear hb hb3 z2
    have hmm100 : m ≤ 100 := q3
    go_wp2_with fail
    go_loopw [12, 13, 14] (fun o t i wr => ∃ k : Nat, k ≤ m ∧ o = nV (min (ownI h (l.take k)) topN) ∧ t = nV (min (allI (l.take k)) topN) ∧ i = .int .i64 (k : Int) ∧ wr = w3) (fun _ _ i _ => m - (intOf i).toNat)
    case atStart => exact ⟨0, Nat.zero_le _, rfl, rfl, rfl, rfl⟩
    case round =>
      obtain ⟨k, hkm, rfl, rfl, rfl, rfl⟩ := hrel
      by_cases hlt : k < m
      · have hklt : (k : Int) < (m : Int) := by omega
        have hkl : k < l.length := by rw [HLEN.out]; exact hlt
        obtain ⟨g, o, rfl, hgc⟩ := HCL.out k hkl
        obtain ⟨y0, y1⟩ := hgc wr hk
        have ha1 := all_next l k hkl
        have ho1 := own_next h l k hkl
        have hq2 := (HLM.out _ (List.getElem_mem hkl)).2
        obtain ⟨q0, hq0⟩ : ∃ q, q = l[k].1 := ⟨_, rfl⟩
        obtain ⟨q, hq⟩ : ∃ q, q = l[k].2 := ⟨_, rfl⟩
        obtain ⟨t, ht⟩ : ∃ t, t = min (allI (l.take k)) topN := ⟨_, rfl⟩
        obtain ⟨s, hsq⟩ : ∃ t, t = min (ownI h (l.take k)) topN := ⟨_, rfl⟩
        rw [← hq0] at y0 ho1
        rw [← hq] at y1 ho1 ha1 hq2
        rw [← ht] at ha1 ⊢
        rw [← hsq] at ho1 ⊢
        obtain ⟨t2, ht2⟩ : ∃ t2, t2 = plusS t q := ⟨_, rfl⟩
        obtain ⟨s2, hs2⟩ : ∃ t2, t2 = plusS s q := ⟨_, rfl⟩
        have P1 := Lib.hid (fun W => pPlus_any t q W hq2)
        have P2 := Lib.hid (fun W => pPlus_any s q W hq2)
        rw [← ht2] at P1 ha1
        rw [← hs2] at P2 ho1
        have HA1 := Lib.hid ha1
        clear hgc ha1 hq2 hq0 hq ht hsq ht2 hs2 hkl
        by_cases hqh : q0 = h
        · rw [if_pos hqh] at ho1
          have HO1 := Lib.hid ho1
          clear ho1
          subst hqh
          go_wp2_with fail
          with_reducible refine (P1.out _).mono ?_
          rintro e w5 ⟨rfl, hw5⟩
          rw [← hw5]
          clear hw5 w5
          go_wp2_with fail
          with_reducible refine (P2.out _).mono ?_
          rintro e w5 ⟨rfl, hw5⟩
          rw [← hw5]
          clear hw5 w5
          go_wp2_with fail
          go_roundw
          case rel => exact ⟨k + 1, by omega, by rw [HO1.out], by rw [HA1.out], by go_num, by first | trivial | rfl⟩
          case measure => simp [intOf]; omega
        · rw [if_neg hqh] at ho1
          have HO1 := Lib.hid ho1
          clear ho1
          have hqi : ((q0 : Int) == (h : Int)) = false := by simp; omega
          go_wp2_with fail
          with_reducible refine (P1.out _).mono ?_
          rintro e w5 ⟨rfl, hw5⟩
          rw [← hw5]
          clear hw5 w5
          go_wp2_with fail
          go_roundw
          case rel => exact ⟨k + 1, by omega, by rw [HO1.out], by rw [HA1.out], by go_num, by first | trivial | rfl⟩
          case measure => simp [intOf]; omega
      · obtain rfl : k = m := by omega
        have hnk : ¬ (k : Int) < (k : Int) := by omega
        have htl : l.take k = l := List.take_of_length_le (by rw [HLEN.out]; exact Nat.le_refl _)
        rw [htl, ← HOWN.out, ← HALL.out]
        have kx0 := tx.c0
        have kx1 := tx.c1
        have kx2 := tx.c2
        clear htl
        go_wp2_with fail
        with_reducible refine (C1.out _ _ sx).mono ?_
        rintro e w6 ⟨rfl, hb⟩
        replace hk := hk.trans (hb.mono hk.size)
        replace sx := sx.below hb
        replace tx := tx.on hb
        clear hb kx0 kx1 kx2
        have kx0 := tx.c0
        have kx1 := tx.c1
        have kx2 := tx.c2
        go_wp2_with fail
        with_reducible refine (L1.out _ _ sx).mono ?_
        rintro e w7 ⟨⟨v7, rfl, z7⟩, hb⟩
        obtain ⟨a7, n7, d7, rfl⟩ := z7.form
        replace hk := hk.trans (hb.mono hk.size)
        obtain ⟨w8, hw8, hb8, hz8, ty⟩ := atM_new w7 r2 c2 (.slice a7 n7 d7)
        replace hk := hk.trans (hb8.mono hk.size)
        have sy := z7.sl.below hb8
        clear hb hb8 z7 kx0 kx1 kx2
        have ky0 := ty.c0
        have ky1 := ty.c1
        have ky2 := ty.c2
        go_wp2_with fail
        with_reducible refine (C2.out _ _ sy).mono ?_
        rintro e w9 ⟨rfl, hb⟩
        replace hk := hk.trans (hb.mono hk.size)
        clear hb
        have g1 : (own : Int) ≤ (y : Int) := by have := HG1.out; omega
        have g2 : (y : Int) ≤ (all : Int) := by have := HG2.out; omega
        rcases HF.out with rfl | ⟨rfl, g3, g4⟩
        · go_wp2_with fail
          go_ret
          exact ⟨by simp; try omega, hk⟩
        · have g3 : (y : Int) ≤ (mm : Int) := by omega
          have g4 : (mm : Int) ≤ (all : Int) := by omega
          go_wp2_with fail
          go_ret
          exact ⟨by simp; try omega, hk⟩
end Go.Proofs.Ythhlofcmhnkcmaa
