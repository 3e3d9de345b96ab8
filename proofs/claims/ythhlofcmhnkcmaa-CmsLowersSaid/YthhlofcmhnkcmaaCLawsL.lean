/- The statements' walks, stage 8: CmsLowers. -/
import Derived.Test.YthhlofcmhnkcmaaCItm
namespace Go.Proofs.Ythhlofcmhnkcmaa
open Go.RowKit

theorem kLower9 {a b B : Nat} (hB : B = 2 * b) (h1 : 1 ≤ a) (h2 : a ≤ 4) (h3 : b = 4 ∨ b = 8 ∨ b = 16) (l : List (Nat × Nat)) (v : Value) (W : World) (hv : NumSl W v (ofI a B l)) :
    Calls Try.prog 25 #[cV a (B : Int) v] W fun e w' => (∃ v', e = .returned (.tuple #[cV a b v', .int .i64 0]) ∧ NumF W.heap.size w' v' (ofI a b l)) ∧ Below W.heap.size W w' := by
  subst hB
  exact kLower8 h1 h2 h3 l v W hv
set_option maxHeartbeats 16000000 in
set_option maxRecDepth 100000 in
theorem lawLowers8_any (x0 x1 : Int) (L M : List (Nat × Nat)) (v u : Value) (w : World) (hv : ItmSl w v L) (hu : ItmSl w u M) (hn : L.length ≤ maxLen) (hm : M.length ≤ maxLen) (hl : ∀ x ∈ L, x.1 ≤ topN ∧ x.2 ≤ topN) (hl' : ∀ x ∈ M, x.1 ≤ topN ∧ x.2 ≤ topN) :
    Calls Try.prog 6 #[.int .i64 x0, .int .i64 x1, v, u] w fun e w' => e = .returned (.bool true) ∧ Below w.heap.size w w' := by
  unfold maxLen at hn hm
  obtain ⟨n, hnn⟩ : ∃ n, n = L.length := ⟨_, rfl⟩
  obtain ⟨p, q1, q2, q3, q4⟩ := min_of 100 100 rfl n
  have q5 : min (n : Int) 100 = (p : Int) := by have := q4.out; omega
  obtain ⟨n', hnn'⟩ : ∃ n, n = M.length := ⟨_, rfl⟩
  obtain ⟨p', q1', q2', q3', q4'⟩ := min_of 100 100 rfl n'
  have q5' : min (n' : Int) 100 = (p' : Int) := by have := q4'.out; omega
  obtain ⟨src, hr, hs⟩ := itm_take hv p (by omega)
  obtain ⟨src', hr', hs'⟩ := itm_take hu p' (by omega)
  have hlm := itm_mem (k := p) hl
  have hlm' := itm_mem (k := p') hl'
  have hlen : (L.take p).length ≤ 1000 := by rw [List.length_take]; omega
  have hlen' : (M.take p').length ≤ 1000 := by rw [List.length_take]; omega
  obtain ⟨ao, cp, rfl, _⟩ := hv.shape
  obtain ⟨ao', cp', rfl, _⟩ := hu.shape
  obtain ⟨l, hl0⟩ : ∃ l, l = L.take p := ⟨_, rfl⟩
  obtain ⟨l', hl0'⟩ : ∃ l, l = M.take p' := ⟨_, rfl⟩
  rw [← hnn] at hr ⊢
  rw [← hnn'] at hr' ⊢
  rw [← hl0] at hs hlm hlen
  rw [← hl0'] at hs' hlm' hlen'
  obtain ⟨a0, n0, c0, rfl⟩ : ∃ a n c, src = .slice a n c := by obtain ⟨a, c, h, _⟩ := hs.shape; exact ⟨_, _, _, h⟩
  obtain ⟨b0, m0, d0, rfl⟩ : ∃ a n c, src' = .slice a n c := by obtain ⟨a, c, h, _⟩ := hs'.shape; exact ⟨_, _, _, h⟩
  have HS := Lib.hid hs
  have HS' := Lib.hid hs'
  clear hs hs' hv hu hl hl' hl0 hl0' hnn hnn'
  go_enter Try.func6, Try.ntmps6
  go_wp2_with fail
  with_reducible refine (shown8_any _).mono ?_
  rintro e w1 ⟨rfl, hk⟩
  have si := HS.out.below hk
  have sj := HS'.out.below hk
  by_cases hbad : ¬ ((x1 = 8 ∨ x1 = 16 ∨ x1 = 32) ∧ 1 ≤ x0 ∧ x0 ≤ 4)
  case pos =>
    clear si sj HS HS' hlm hlm' hlen hlen'
    by_cases h8 : x1 = 8
    · subst h8
      by_cases h0 : x0 < 1
      · go_wp2_with fail
        go_ret
        exact ⟨rfl, hk⟩
      · have h4 : (4 : Int) < x0 := by omega
        go_wp2_with fail
        go_ret
        exact ⟨rfl, hk⟩
    · by_cases h16 : x1 = 16
      · subst h16
        by_cases h0 : x0 < 1
        · go_wp2_with fail
          go_ret
          exact ⟨rfl, hk⟩
        · have h4 : (4 : Int) < x0 := by omega
          go_wp2_with fail
          go_ret
          exact ⟨rfl, hk⟩
      · by_cases h32 : x1 = 32
        · subst h32
          by_cases h0 : x0 < 1
          · go_wp2_with fail
            go_ret
            exact ⟨rfl, hk⟩
          · have h4 : (4 : Int) < x0 := by omega
            go_wp2_with fail
            go_ret
            exact ⟨rfl, hk⟩
        · have e8 : (x1 == 8) = false := by simp [h8]
          have e16 : (x1 == 16) = false := by simp [h16]
          have e32 : (x1 == 32) = false := by simp [h32]
          go_wp2_with fail
          go_ret
          exact ⟨rfl, hk⟩
  case neg =>
    obtain ⟨hc3, hr1, hr4⟩ := Classical.not_not.1 hbad
    clear hbad
    obtain ⟨a, rfl⟩ : ∃ a : Nat, x0 = (a : Int) := ⟨x0.toNat, by omega⟩
    have h0 : ¬ (a : Int) < 1 := by omega
    have h4 : ¬ (4 : Int) < (a : Int) := by omega
    rcases hc3 with rfl | rfl | rfl
    · have habB : OkN a 8 := ⟨by omega, by omega, by decide⟩
      have hab : OkN a 4 := ⟨by omega, by omega, by decide⟩
      have hb3 : 4 = 4 ∨ 4 = 8 ∨ 4 = 16 := by decide
      have O1 := Lib.hid (fun W hs => kOf8 habB l (.slice a0 n0 c0) W hs hlen hlm)
      have O2 := Lib.hid (fun W hs => kOf8 habB l' (.slice b0 m0 d0) W hs hlen' hlm')
      have O3 := Lib.hid (fun W hs => kOf8 hab l (.slice a0 n0 c0) W hs hlen hlm)
      have L1 := Lib.hid (fun v W hv => kLower9 (B := 8) (b := 4) rfl hab.1 hab.2.1 hb3 l v W hv)
      have L2 := Lib.hid (fun v W hv => kLower9 (B := 8) (b := 4) rfl hab.1 hab.2.1 hb3 l' v W hv)
      have L3 := Lib.hid (fun v W hv => kLower9 (B := 8) (b := 4) rfl hab.1 hab.2.1 hb3 (l ++ l') v W hv)
      have M1 := Lib.hid (fun u v W hu hv => kMerge8 habB l l' u v W hu hv)
      have M2 := Lib.hid (fun u v W hu hv => kMerge8 hab l l' u v W hu hv)
      have S1 := Lib.hid (fun u v W hu hv => kSame8 hab l l rfl u v W hu hv)
      have S2 := Lib.hid (fun u v W hu hv => kSame8 hab (l ++ l') (l ++ l') rfl u v W hu hv)
      simp only [cV, show ((4 : Nat) : Int) = 4 from rfl, show ((8 : Nat) : Int) = 8 from rfl] at O1 O2 O3 L1 L2 L3 M1 M2 S1 S2
      clear hlm hlm' hlen hlen' HS HS' hab habB hb3 hr1 hr4
      go_wp2_with fail
      with_reducible refine (O1.out _ si).mono ?_
      rintro e w2 ⟨⟨v2, rfl, z2⟩, hb⟩
      obtain ⟨a2, n2, c2, rfl⟩ := z2.form
      replace hk := hk.trans (hb.mono hk.size)
      obtain ⟨w3, hw3, hb3, hz3, tx⟩ := atM_new w2 a 8 (.slice a2 n2 c2)
      replace hk := hk.trans (hb3.mono hk.size)
      replace si := (si.below hb).below hb3
      replace sj := (sj.below hb).below hb3
      have sx := z2.sl.below hb3
      clear hb hb3 z2 
      go_wp2_with fail
      with_reducible refine (O2.out _ sj).mono ?_
      rintro e w4 ⟨⟨v4, rfl, z4⟩, hb⟩
      obtain ⟨a4, n4, c4, rfl⟩ := z4.form
      replace hk := hk.trans (hb.mono hk.size)
      obtain ⟨w5, hw5, hb5, hz5, ty⟩ := atM_new w4 a 8 (.slice a4 n4 c4)
      replace hk := hk.trans (hb5.mono hk.size)
      replace sx := (sx.below hb).below hb5
      replace tx := (tx.on hb).on hb5
      replace si := (si.below hb).below hb5
      replace sj := (sj.below hb).below hb5
      have sy := z4.sl.below hb5
      clear hb hb5 z4 
      have kx0 := tx.c0
      have kx1 := tx.c1
      have kx2 := tx.c2
      go_wp2_with fail
      with_reducible refine (L1.out _ _ sx).mono ?_
      rintro e w6 ⟨⟨v6, rfl, z6⟩, hb⟩
      obtain ⟨a6, n6, c6, rfl⟩ := z6.form
      replace hk := hk.trans (hb.mono hk.size)
      obtain ⟨w7, hw7, hb7, hz7, ta⟩ := atM_new w6 a 4 (.slice a6 n6 c6)
      replace hk := hk.trans (hb7.mono hk.size)
      replace sx := (sx.below hb).below hb7
      replace tx := (tx.on hb).on hb7
      replace sy := (sy.below hb).below hb7
      replace ty := (ty.on hb).on hb7
      replace si := (si.below hb).below hb7
      replace sj := (sj.below hb).below hb7
      have sa := z6.sl.below hb7
      clear hb hb7 z6 kx0 kx1 kx2
      go_wp2_with fail
      with_reducible refine (O3.out _ si).mono ?_
      rintro e w8 ⟨⟨v8, rfl, z8⟩, hb⟩
      obtain ⟨a8, n8, c8, rfl⟩ := z8.form
      replace hk := hk.trans (hb.mono hk.size)
      obtain ⟨w9, hw9, hb9, hz9, tb⟩ := atM_new w8 a 4 (.slice a8 n8 c8)
      replace hk := hk.trans (hb9.mono hk.size)
      replace sx := (sx.below hb).below hb9
      replace tx := (tx.on hb).on hb9
      replace sy := (sy.below hb).below hb9
      replace ty := (ty.on hb).on hb9
      replace sa := (sa.below hb).below hb9
      replace ta := (ta.on hb).on hb9
      replace si := (si.below hb).below hb9
      replace sj := (sj.below hb).below hb9
      have sb := z8.sl.below hb9
      clear hb hb9 z8 
      clear si sj
      have ky0 := ty.c0
      have ky1 := ty.c1
      have ky2 := ty.c2
      go_wp2_with fail
      with_reducible refine (L2.out _ _ sy).mono ?_
      rintro e w10 ⟨⟨v10, rfl, z10⟩, hb⟩
      obtain ⟨a10, n10, c10, rfl⟩ := z10.form
      replace hk := hk.trans (hb.mono hk.size)
      obtain ⟨w11, hw11, hb11, hz11, tc⟩ := atM_new w10 a 4 (.slice a10 n10 c10)
      replace hk := hk.trans (hb11.mono hk.size)
      replace sx := (sx.below hb).below hb11
      replace tx := (tx.on hb).on hb11
      replace sy := (sy.below hb).below hb11
      replace ty := (ty.on hb).on hb11
      replace sa := (sa.below hb).below hb11
      replace ta := (ta.on hb).on hb11
      replace sb := (sb.below hb).below hb11
      replace tb := (tb.on hb).on hb11
      have sc := z10.sl.below hb11
      clear hb hb11 z10 ky0 ky1 ky2
      have kx0 := tx.c0
      have kx1 := tx.c1
      have kx2 := tx.c2
      have ky0 := ty.c0
      have ky1 := ty.c1
      have ky2 := ty.c2
      go_wp2_with fail
      with_reducible refine (M1.out _ _ _ sx sy).mono ?_
      rintro e w12 ⟨⟨v12, rfl, z12⟩, hb⟩
      obtain ⟨a12, n12, c12, rfl⟩ := z12.form
      replace hk := hk.trans (hb.mono hk.size)
      obtain ⟨w13, hw13, hb13, hz13, td⟩ := atM_new w12 a 8 (.slice a12 n12 c12)
      replace hk := hk.trans (hb13.mono hk.size)
      replace sx := (sx.below hb).below hb13
      replace tx := (tx.on hb).on hb13
      replace sy := (sy.below hb).below hb13
      replace ty := (ty.on hb).on hb13
      replace sa := (sa.below hb).below hb13
      replace ta := (ta.on hb).on hb13
      replace sb := (sb.below hb).below hb13
      replace tb := (tb.on hb).on hb13
      replace sc := (sc.below hb).below hb13
      replace tc := (tc.on hb).on hb13
      have sd := z12.sl.below hb13
      clear hb hb13 z12 kx0 kx1 kx2 ky0 ky1 ky2
      clear sx tx sy ty
      have kd0 := td.c0
      have kd1 := td.c1
      have kd2 := td.c2
      go_wp2_with fail
      with_reducible refine (L3.out _ _ sd).mono ?_
      rintro e w14 ⟨⟨v14, rfl, z14⟩, hb⟩
      obtain ⟨a14, n14, c14, rfl⟩ := z14.form
      replace hk := hk.trans (hb.mono hk.size)
      obtain ⟨w15, hw15, hb15, hz15, tk⟩ := atM_new w14 a 4 (.slice a14 n14 c14)
      replace hk := hk.trans (hb15.mono hk.size)
      replace sa := (sa.below hb).below hb15
      replace ta := (ta.on hb).on hb15
      replace sb := (sb.below hb).below hb15
      replace tb := (tb.on hb).on hb15
      replace sc := (sc.below hb).below hb15
      replace tc := (tc.on hb).on hb15
      replace sd := (sd.below hb).below hb15
      replace td := (td.on hb).on hb15
      have sk := z14.sl.below hb15
      clear hb hb15 z14 kd0 kd1 kd2
      clear sd td
      have ka0 := ta.c0
      have ka1 := ta.c1
      have ka2 := ta.c2
      have kc0 := tc.c0
      have kc1 := tc.c1
      have kc2 := tc.c2
      go_wp2_with fail
      with_reducible refine (M2.out _ _ _ sa sc).mono ?_
      rintro e w16 ⟨⟨v16, rfl, z16⟩, hb⟩
      obtain ⟨a16, n16, c16, rfl⟩ := z16.form
      replace hk := hk.trans (hb.mono hk.size)
      obtain ⟨w17, hw17, hb17, hz17, tp⟩ := atM_new w16 a 4 (.slice a16 n16 c16)
      replace hk := hk.trans (hb17.mono hk.size)
      replace sa := (sa.below hb).below hb17
      replace ta := (ta.on hb).on hb17
      replace sb := (sb.below hb).below hb17
      replace tb := (tb.on hb).on hb17
      replace sc := (sc.below hb).below hb17
      replace tc := (tc.on hb).on hb17
      replace sk := (sk.below hb).below hb17
      replace tk := (tk.on hb).on hb17
      have sp := z16.sl.below hb17
      clear hb hb17 z16 ka0 ka1 ka2 kc0 kc1 kc2
      clear sc tc
      have ka0 := ta.c0
      have ka1 := ta.c1
      have ka2 := ta.c2
      have kb0 := tb.c0
      have kb1 := tb.c1
      have kb2 := tb.c2
      go_wp2_with fail
      with_reducible refine (S1.out _ _ _ sa sb).mono ?_
      rintro e w18 ⟨rfl, hb⟩
      replace hk := hk.trans (hb.mono hk.size)
      replace sa := sa.below hb
      replace ta := ta.on hb
      replace sb := sb.below hb
      replace tb := tb.on hb
      replace sk := sk.below hb
      replace tk := tk.on hb
      replace sp := sp.below hb
      replace tp := tp.on hb
      clear hb ka0 ka1 ka2 kb0 kb1 kb2
      clear sa ta sb tb
      have kk0 := tk.c0
      have kk1 := tk.c1
      have kk2 := tk.c2
      have kp0 := tp.c0
      have kp1 := tp.c1
      have kp2 := tp.c2
      go_wp2_with fail
      with_reducible refine (S2.out _ _ _ sk sp).mono ?_
      rintro e w19 ⟨rfl, hb⟩
      replace hk := hk.trans (hb.mono hk.size)
      replace sk := sk.below hb
      replace tk := tk.on hb
      replace sp := sp.below hb
      replace tp := tp.on hb
      clear hb kk0 kk1 kk2 kp0 kp1 kp2
      go_wp2_with fail
      go_ret
      exact ⟨rfl, hk⟩
    · have habB : OkN a 16 := ⟨by omega, by omega, by decide⟩
      have hab : OkN a 8 := ⟨by omega, by omega, by decide⟩
      have hb3 : 8 = 4 ∨ 8 = 8 ∨ 8 = 16 := by decide
      have O1 := Lib.hid (fun W hs => kOf8 habB l (.slice a0 n0 c0) W hs hlen hlm)
      have O2 := Lib.hid (fun W hs => kOf8 habB l' (.slice b0 m0 d0) W hs hlen' hlm')
      have O3 := Lib.hid (fun W hs => kOf8 hab l (.slice a0 n0 c0) W hs hlen hlm)
      have L1 := Lib.hid (fun v W hv => kLower9 (B := 16) (b := 8) rfl hab.1 hab.2.1 hb3 l v W hv)
      have L2 := Lib.hid (fun v W hv => kLower9 (B := 16) (b := 8) rfl hab.1 hab.2.1 hb3 l' v W hv)
      have L3 := Lib.hid (fun v W hv => kLower9 (B := 16) (b := 8) rfl hab.1 hab.2.1 hb3 (l ++ l') v W hv)
      have M1 := Lib.hid (fun u v W hu hv => kMerge8 habB l l' u v W hu hv)
      have M2 := Lib.hid (fun u v W hu hv => kMerge8 hab l l' u v W hu hv)
      have S1 := Lib.hid (fun u v W hu hv => kSame8 hab l l rfl u v W hu hv)
      have S2 := Lib.hid (fun u v W hu hv => kSame8 hab (l ++ l') (l ++ l') rfl u v W hu hv)
      simp only [cV, show ((8 : Nat) : Int) = 8 from rfl, show ((16 : Nat) : Int) = 16 from rfl] at O1 O2 O3 L1 L2 L3 M1 M2 S1 S2
      clear hlm hlm' hlen hlen' HS HS' hab habB hb3 hr1 hr4
      go_wp2_with fail
      with_reducible refine (O1.out _ si).mono ?_
      rintro e w2 ⟨⟨v2, rfl, z2⟩, hb⟩
      obtain ⟨a2, n2, c2, rfl⟩ := z2.form
      replace hk := hk.trans (hb.mono hk.size)
      obtain ⟨w3, hw3, hb3, hz3, tx⟩ := atM_new w2 a 16 (.slice a2 n2 c2)
      replace hk := hk.trans (hb3.mono hk.size)
      replace si := (si.below hb).below hb3
      replace sj := (sj.below hb).below hb3
      have sx := z2.sl.below hb3
      clear hb hb3 z2 
      go_wp2_with fail
      with_reducible refine (O2.out _ sj).mono ?_
      rintro e w4 ⟨⟨v4, rfl, z4⟩, hb⟩
      obtain ⟨a4, n4, c4, rfl⟩ := z4.form
      replace hk := hk.trans (hb.mono hk.size)
      obtain ⟨w5, hw5, hb5, hz5, ty⟩ := atM_new w4 a 16 (.slice a4 n4 c4)
      replace hk := hk.trans (hb5.mono hk.size)
      replace sx := (sx.below hb).below hb5
      replace tx := (tx.on hb).on hb5
      replace si := (si.below hb).below hb5
      replace sj := (sj.below hb).below hb5
      have sy := z4.sl.below hb5
      clear hb hb5 z4 
      have kx0 := tx.c0
      have kx1 := tx.c1
      have kx2 := tx.c2
      go_wp2_with fail
      with_reducible refine (L1.out _ _ sx).mono ?_
      rintro e w6 ⟨⟨v6, rfl, z6⟩, hb⟩
      obtain ⟨a6, n6, c6, rfl⟩ := z6.form
      replace hk := hk.trans (hb.mono hk.size)
      obtain ⟨w7, hw7, hb7, hz7, ta⟩ := atM_new w6 a 8 (.slice a6 n6 c6)
      replace hk := hk.trans (hb7.mono hk.size)
      replace sx := (sx.below hb).below hb7
      replace tx := (tx.on hb).on hb7
      replace sy := (sy.below hb).below hb7
      replace ty := (ty.on hb).on hb7
      replace si := (si.below hb).below hb7
      replace sj := (sj.below hb).below hb7
      have sa := z6.sl.below hb7
      clear hb hb7 z6 kx0 kx1 kx2
      go_wp2_with fail
      with_reducible refine (O3.out _ si).mono ?_
      rintro e w8 ⟨⟨v8, rfl, z8⟩, hb⟩
      obtain ⟨a8, n8, c8, rfl⟩ := z8.form
      replace hk := hk.trans (hb.mono hk.size)
      obtain ⟨w9, hw9, hb9, hz9, tb⟩ := atM_new w8 a 8 (.slice a8 n8 c8)
      replace hk := hk.trans (hb9.mono hk.size)
      replace sx := (sx.below hb).below hb9
      replace tx := (tx.on hb).on hb9
      replace sy := (sy.below hb).below hb9
      replace ty := (ty.on hb).on hb9
      replace sa := (sa.below hb).below hb9
      replace ta := (ta.on hb).on hb9
      replace si := (si.below hb).below hb9
      replace sj := (sj.below hb).below hb9
      have sb := z8.sl.below hb9
      clear hb hb9 z8 
      clear si sj
      have ky0 := ty.c0
      have ky1 := ty.c1
      have ky2 := ty.c2
      go_wp2_with fail
      with_reducible refine (L2.out _ _ sy).mono ?_
      rintro e w10 ⟨⟨v10, rfl, z10⟩, hb⟩
      obtain ⟨a10, n10, c10, rfl⟩ := z10.form
      replace hk := hk.trans (hb.mono hk.size)
      obtain ⟨w11, hw11, hb11, hz11, tc⟩ := atM_new w10 a 8 (.slice a10 n10 c10)
      replace hk := hk.trans (hb11.mono hk.size)
      replace sx := (sx.below hb).below hb11
      replace tx := (tx.on hb).on hb11
      replace sy := (sy.below hb).below hb11
      replace ty := (ty.on hb).on hb11
      replace sa := (sa.below hb).below hb11
      replace ta := (ta.on hb).on hb11
      replace sb := (sb.below hb).below hb11
      replace tb := (tb.on hb).on hb11
      have sc := z10.sl.below hb11
      clear hb hb11 z10 ky0 ky1 ky2
      have kx0 := tx.c0
      have kx1 := tx.c1
      have kx2 := tx.c2
      have ky0 := ty.c0
      have ky1 := ty.c1
      have ky2 := ty.c2
      go_wp2_with fail
      with_reducible refine (M1.out _ _ _ sx sy).mono ?_
      rintro e w12 ⟨⟨v12, rfl, z12⟩, hb⟩
      obtain ⟨a12, n12, c12, rfl⟩ := z12.form
      replace hk := hk.trans (hb.mono hk.size)
      obtain ⟨w13, hw13, hb13, hz13, td⟩ := atM_new w12 a 16 (.slice a12 n12 c12)
      replace hk := hk.trans (hb13.mono hk.size)
      replace sx := (sx.below hb).below hb13
      replace tx := (tx.on hb).on hb13
      replace sy := (sy.below hb).below hb13
      replace ty := (ty.on hb).on hb13
      replace sa := (sa.below hb).below hb13
      replace ta := (ta.on hb).on hb13
      replace sb := (sb.below hb).below hb13
      replace tb := (tb.on hb).on hb13
      replace sc := (sc.below hb).below hb13
      replace tc := (tc.on hb).on hb13
      have sd := z12.sl.below hb13
      clear hb hb13 z12 kx0 kx1 kx2 ky0 ky1 ky2
      clear sx tx sy ty
      have kd0 := td.c0
      have kd1 := td.c1
      have kd2 := td.c2
      go_wp2_with fail
      with_reducible refine (L3.out _ _ sd).mono ?_
      rintro e w14 ⟨⟨v14, rfl, z14⟩, hb⟩
      obtain ⟨a14, n14, c14, rfl⟩ := z14.form
      replace hk := hk.trans (hb.mono hk.size)
      obtain ⟨w15, hw15, hb15, hz15, tk⟩ := atM_new w14 a 8 (.slice a14 n14 c14)
      replace hk := hk.trans (hb15.mono hk.size)
      replace sa := (sa.below hb).below hb15
      replace ta := (ta.on hb).on hb15
      replace sb := (sb.below hb).below hb15
      replace tb := (tb.on hb).on hb15
      replace sc := (sc.below hb).below hb15
      replace tc := (tc.on hb).on hb15
      replace sd := (sd.below hb).below hb15
      replace td := (td.on hb).on hb15
      have sk := z14.sl.below hb15
      clear hb hb15 z14 kd0 kd1 kd2
      clear sd td
      have ka0 := ta.c0
      have ka1 := ta.c1
      have ka2 := ta.c2
      have kc0 := tc.c0
      have kc1 := tc.c1
      have kc2 := tc.c2
      go_wp2_with fail
      with_reducible refine (M2.out _ _ _ sa sc).mono ?_
      rintro e w16 ⟨⟨v16, rfl, z16⟩, hb⟩
      obtain ⟨a16, n16, c16, rfl⟩ := z16.form
      replace hk := hk.trans (hb.mono hk.size)
      obtain ⟨w17, hw17, hb17, hz17, tp⟩ := atM_new w16 a 8 (.slice a16 n16 c16)
      replace hk := hk.trans (hb17.mono hk.size)
      replace sa := (sa.below hb).below hb17
      replace ta := (ta.on hb).on hb17
      replace sb := (sb.below hb).below hb17
      replace tb := (tb.on hb).on hb17
      replace sc := (sc.below hb).below hb17
      replace tc := (tc.on hb).on hb17
      replace sk := (sk.below hb).below hb17
      replace tk := (tk.on hb).on hb17
      have sp := z16.sl.below hb17
      clear hb hb17 z16 ka0 ka1 ka2 kc0 kc1 kc2
      clear sc tc
      have ka0 := ta.c0
      have ka1 := ta.c1
      have ka2 := ta.c2
      have kb0 := tb.c0
      have kb1 := tb.c1
      have kb2 := tb.c2
      go_wp2_with fail
      with_reducible refine (S1.out _ _ _ sa sb).mono ?_
      rintro e w18 ⟨rfl, hb⟩
      replace hk := hk.trans (hb.mono hk.size)
      replace sa := sa.below hb
      replace ta := ta.on hb
      replace sb := sb.below hb
      replace tb := tb.on hb
      replace sk := sk.below hb
      replace tk := tk.on hb
      replace sp := sp.below hb
      replace tp := tp.on hb
      clear hb ka0 ka1 ka2 kb0 kb1 kb2
      clear sa ta sb tb
      have kk0 := tk.c0
      have kk1 := tk.c1
      have kk2 := tk.c2
      have kp0 := tp.c0
      have kp1 := tp.c1
      have kp2 := tp.c2
      go_wp2_with fail
      with_reducible refine (S2.out _ _ _ sk sp).mono ?_
      rintro e w19 ⟨rfl, hb⟩
      replace hk := hk.trans (hb.mono hk.size)
      replace sk := sk.below hb
      replace tk := tk.on hb
      replace sp := sp.below hb
      replace tp := tp.on hb
      clear hb kk0 kk1 kk2 kp0 kp1 kp2
      go_wp2_with fail
      go_ret
      exact ⟨rfl, hk⟩
    · have habB : OkN a 32 := ⟨by omega, by omega, by decide⟩
      have hab : OkN a 16 := ⟨by omega, by omega, by decide⟩
      have hb3 : 16 = 4 ∨ 16 = 8 ∨ 16 = 16 := by decide
      have O1 := Lib.hid (fun W hs => kOf8 habB l (.slice a0 n0 c0) W hs hlen hlm)
      have O2 := Lib.hid (fun W hs => kOf8 habB l' (.slice b0 m0 d0) W hs hlen' hlm')
      have O3 := Lib.hid (fun W hs => kOf8 hab l (.slice a0 n0 c0) W hs hlen hlm)
      have L1 := Lib.hid (fun v W hv => kLower9 (B := 32) (b := 16) rfl hab.1 hab.2.1 hb3 l v W hv)
      have L2 := Lib.hid (fun v W hv => kLower9 (B := 32) (b := 16) rfl hab.1 hab.2.1 hb3 l' v W hv)
      have L3 := Lib.hid (fun v W hv => kLower9 (B := 32) (b := 16) rfl hab.1 hab.2.1 hb3 (l ++ l') v W hv)
      have M1 := Lib.hid (fun u v W hu hv => kMerge8 habB l l' u v W hu hv)
      have M2 := Lib.hid (fun u v W hu hv => kMerge8 hab l l' u v W hu hv)
      have S1 := Lib.hid (fun u v W hu hv => kSame8 hab l l rfl u v W hu hv)
      have S2 := Lib.hid (fun u v W hu hv => kSame8 hab (l ++ l') (l ++ l') rfl u v W hu hv)
      simp only [cV, show ((16 : Nat) : Int) = 16 from rfl, show ((32 : Nat) : Int) = 32 from rfl] at O1 O2 O3 L1 L2 L3 M1 M2 S1 S2
      clear hlm hlm' hlen hlen' HS HS' hab habB hb3 hr1 hr4
      go_wp2_with fail
      with_reducible refine (O1.out _ si).mono ?_
      rintro e w2 ⟨⟨v2, rfl, z2⟩, hb⟩
      obtain ⟨a2, n2, c2, rfl⟩ := z2.form
      replace hk := hk.trans (hb.mono hk.size)
      obtain ⟨w3, hw3, hb3, hz3, tx⟩ := atM_new w2 a 32 (.slice a2 n2 c2)
      replace hk := hk.trans (hb3.mono hk.size)
      replace si := (si.below hb).below hb3
      replace sj := (sj.below hb).below hb3
      have sx := z2.sl.below hb3
      clear hb hb3 z2 
      go_wp2_with fail
      with_reducible refine (O2.out _ sj).mono ?_
      rintro e w4 ⟨⟨v4, rfl, z4⟩, hb⟩
      obtain ⟨a4, n4, c4, rfl⟩ := z4.form
      replace hk := hk.trans (hb.mono hk.size)
      obtain ⟨w5, hw5, hb5, hz5, ty⟩ := atM_new w4 a 32 (.slice a4 n4 c4)
      replace hk := hk.trans (hb5.mono hk.size)
      replace sx := (sx.below hb).below hb5
      replace tx := (tx.on hb).on hb5
      replace si := (si.below hb).below hb5
      replace sj := (sj.below hb).below hb5
      have sy := z4.sl.below hb5
      clear hb hb5 z4 
      have kx0 := tx.c0
      have kx1 := tx.c1
      have kx2 := tx.c2
      go_wp2_with fail
      with_reducible refine (L1.out _ _ sx).mono ?_
      rintro e w6 ⟨⟨v6, rfl, z6⟩, hb⟩
      obtain ⟨a6, n6, c6, rfl⟩ := z6.form
      replace hk := hk.trans (hb.mono hk.size)
      obtain ⟨w7, hw7, hb7, hz7, ta⟩ := atM_new w6 a 16 (.slice a6 n6 c6)
      replace hk := hk.trans (hb7.mono hk.size)
      replace sx := (sx.below hb).below hb7
      replace tx := (tx.on hb).on hb7
      replace sy := (sy.below hb).below hb7
      replace ty := (ty.on hb).on hb7
      replace si := (si.below hb).below hb7
      replace sj := (sj.below hb).below hb7
      have sa := z6.sl.below hb7
      clear hb hb7 z6 kx0 kx1 kx2
      go_wp2_with fail
      with_reducible refine (O3.out _ si).mono ?_
      rintro e w8 ⟨⟨v8, rfl, z8⟩, hb⟩
      obtain ⟨a8, n8, c8, rfl⟩ := z8.form
      replace hk := hk.trans (hb.mono hk.size)
      obtain ⟨w9, hw9, hb9, hz9, tb⟩ := atM_new w8 a 16 (.slice a8 n8 c8)
      replace hk := hk.trans (hb9.mono hk.size)
      replace sx := (sx.below hb).below hb9
      replace tx := (tx.on hb).on hb9
      replace sy := (sy.below hb).below hb9
      replace ty := (ty.on hb).on hb9
      replace sa := (sa.below hb).below hb9
      replace ta := (ta.on hb).on hb9
      replace si := (si.below hb).below hb9
      replace sj := (sj.below hb).below hb9
      have sb := z8.sl.below hb9
      clear hb hb9 z8 
      clear si sj
      have ky0 := ty.c0
      have ky1 := ty.c1
      have ky2 := ty.c2
      go_wp2_with fail
      with_reducible refine (L2.out _ _ sy).mono ?_
      rintro e w10 ⟨⟨v10, rfl, z10⟩, hb⟩
      obtain ⟨a10, n10, c10, rfl⟩ := z10.form
      replace hk := hk.trans (hb.mono hk.size)
      obtain ⟨w11, hw11, hb11, hz11, tc⟩ := atM_new w10 a 16 (.slice a10 n10 c10)
      replace hk := hk.trans (hb11.mono hk.size)
      replace sx := (sx.below hb).below hb11
      replace tx := (tx.on hb).on hb11
      replace sy := (sy.below hb).below hb11
      replace ty := (ty.on hb).on hb11
      replace sa := (sa.below hb).below hb11
      replace ta := (ta.on hb).on hb11
      replace sb := (sb.below hb).below hb11
      replace tb := (tb.on hb).on hb11
      have sc := z10.sl.below hb11
      clear hb hb11 z10 ky0 ky1 ky2
      have kx0 := tx.c0
      have kx1 := tx.c1
      have kx2 := tx.c2
      have ky0 := ty.c0
      have ky1 := ty.c1
      have ky2 := ty.c2
      go_wp2_with fail
      with_reducible refine (M1.out _ _ _ sx sy).mono ?_
      rintro e w12 ⟨⟨v12, rfl, z12⟩, hb⟩
      obtain ⟨a12, n12, c12, rfl⟩ := z12.form
      replace hk := hk.trans (hb.mono hk.size)
      obtain ⟨w13, hw13, hb13, hz13, td⟩ := atM_new w12 a 32 (.slice a12 n12 c12)
      replace hk := hk.trans (hb13.mono hk.size)
      replace sx := (sx.below hb).below hb13
      replace tx := (tx.on hb).on hb13
      replace sy := (sy.below hb).below hb13
      replace ty := (ty.on hb).on hb13
      replace sa := (sa.below hb).below hb13
      replace ta := (ta.on hb).on hb13
      replace sb := (sb.below hb).below hb13
      replace tb := (tb.on hb).on hb13
      replace sc := (sc.below hb).below hb13
      replace tc := (tc.on hb).on hb13
      have sd := z12.sl.below hb13
      clear hb hb13 z12 kx0 kx1 kx2 ky0 ky1 ky2
      clear sx tx sy ty
      have kd0 := td.c0
      have kd1 := td.c1
      have kd2 := td.c2
      go_wp2_with fail
      with_reducible refine (L3.out _ _ sd).mono ?_
      rintro e w14 ⟨⟨v14, rfl, z14⟩, hb⟩
      obtain ⟨a14, n14, c14, rfl⟩ := z14.form
      replace hk := hk.trans (hb.mono hk.size)
      obtain ⟨w15, hw15, hb15, hz15, tk⟩ := atM_new w14 a 16 (.slice a14 n14 c14)
      replace hk := hk.trans (hb15.mono hk.size)
      replace sa := (sa.below hb).below hb15
      replace ta := (ta.on hb).on hb15
      replace sb := (sb.below hb).below hb15
      replace tb := (tb.on hb).on hb15
      replace sc := (sc.below hb).below hb15
      replace tc := (tc.on hb).on hb15
      replace sd := (sd.below hb).below hb15
      replace td := (td.on hb).on hb15
      have sk := z14.sl.below hb15
      clear hb hb15 z14 kd0 kd1 kd2
      clear sd td
      have ka0 := ta.c0
      have ka1 := ta.c1
      have ka2 := ta.c2
      have kc0 := tc.c0
      have kc1 := tc.c1
      have kc2 := tc.c2
      go_wp2_with fail
      with_reducible refine (M2.out _ _ _ sa sc).mono ?_
      rintro e w16 ⟨⟨v16, rfl, z16⟩, hb⟩
      obtain ⟨a16, n16, c16, rfl⟩ := z16.form
      replace hk := hk.trans (hb.mono hk.size)
      obtain ⟨w17, hw17, hb17, hz17, tp⟩ := atM_new w16 a 16 (.slice a16 n16 c16)
      replace hk := hk.trans (hb17.mono hk.size)
      replace sa := (sa.below hb).below hb17
      replace ta := (ta.on hb).on hb17
      replace sb := (sb.below hb).below hb17
      replace tb := (tb.on hb).on hb17
      replace sc := (sc.below hb).below hb17
      replace tc := (tc.on hb).on hb17
      replace sk := (sk.below hb).below hb17
      replace tk := (tk.on hb).on hb17
      have sp := z16.sl.below hb17
      clear hb hb17 z16 ka0 ka1 ka2 kc0 kc1 kc2
      clear sc tc
      have ka0 := ta.c0
      have ka1 := ta.c1
      have ka2 := ta.c2
      have kb0 := tb.c0
      have kb1 := tb.c1
      have kb2 := tb.c2
      go_wp2_with fail
      with_reducible refine (S1.out _ _ _ sa sb).mono ?_
      rintro e w18 ⟨rfl, hb⟩
      replace hk := hk.trans (hb.mono hk.size)
      replace sa := sa.below hb
      replace ta := ta.on hb
      replace sb := sb.below hb
      replace tb := tb.on hb
      replace sk := sk.below hb
      replace tk := tk.on hb
      replace sp := sp.below hb
      replace tp := tp.on hb
      clear hb ka0 ka1 ka2 kb0 kb1 kb2
      clear sa ta sb tb
      have kk0 := tk.c0
      have kk1 := tk.c1
      have kk2 := tk.c2
      have kp0 := tp.c0
      have kp1 := tp.c1
      have kp2 := tp.c2
      go_wp2_with fail
      with_reducible refine (S2.out _ _ _ sk sp).mono ?_
      rintro e w19 ⟨rfl, hb⟩
      replace hk := hk.trans (hb.mono hk.size)
      replace sk := sk.below hb
      replace tk := tk.on hb
      replace sp := sp.below hb
      replace tp := tp.on hb
      clear hb kk0 kk1 kk2 kp0 kp1 kp2
      go_wp2_with fail
      go_ret
      exact ⟨rfl, hk⟩
end Go.Proofs.Ythhlofcmhnkcmaa
