/- The statements' walks, stage 9: HistParts. -/
import Derived.Test.YtpdedogdffolnaaGItm
namespace Go.Proofs.Ytpdedogdffolnaa
open Go.RowKit

theorem clamp_of (x : Int) (n : Nat) : ∃ m : Int, (if (n : Int) < x then (n : Int) else x) = m ∧ ∃ k : Nat, (if (0 : Int) < m then m else 0) = (k : Int) ∧ k ≤ n := by
  refine ⟨_, rfl, (if (0 : Int) < (if (n : Int) < x then (n : Int) else x) then (if (n : Int) < x then (n : Int) else x) else 0).toNat, ?_, ?_⟩
  · by_cases h1 : (n : Int) < x
    · rw [if_pos h1]
      by_cases h2 : (0 : Int) < n
      · rw [if_pos h2]; omega
      · rw [if_neg h2]; rfl
    · rw [if_neg h1]
      by_cases h2 : (0 : Int) < x
      · rw [if_pos h2]; omega
      · rw [if_neg h2]; rfl
  · by_cases h1 : (n : Int) < x
    · rw [if_pos h1]
      by_cases h2 : (0 : Int) < n
      · rw [if_pos h2]; omega
      · rw [if_neg h2]; simp
    · rw [if_neg h1]
      by_cases h2 : (0 : Int) < x
      · rw [if_pos h2]; omega
      · rw [if_neg h2]; simp
set_option maxHeartbeats 16000000 in
set_option maxRecDepth 100000 in
theorem lawParts9_any (f : Int) (L : List (Nat × Nat)) (v : Value) (x2 : Int) (w : World) (hv : ItmSl w v L) (hn : L.length ≤ maxLen) (hl : ∀ x ∈ L, x.1 ≤ topN ∧ x.2 ≤ topN) :
    Calls Try.prog 6 #[.int .i64 f, v, .int .i64 x2] w fun e w' => e = .returned (.bool true) ∧ Below w.heap.size w w' := by
  by_cases hlo : f < 0
  · clear hv hn hl
    go_enter Try.func6, Try.ntmps6
    go_wp2_with fail
    with_reducible refine (shown9_any _).mono ?_
    rintro e w1 ⟨rfl, hk⟩
    go_wp2_with fail
    go_ret
    exact ⟨rfl, hk⟩
  by_cases hhi : 3 < f
  · clear hv hn hl
    go_enter Try.func6, Try.ntmps6
    go_wp2_with fail
    with_reducible refine (shown9_any _).mono ?_
    rintro e w1 ⟨rfl, hk⟩
    go_wp2_with fail
    go_ret
    exact ⟨rfl, hk⟩
  obtain ⟨fk, rfl⟩ : ∃ k : Nat, f = (k : Int) := ⟨f.toNat, by omega⟩
  have hk3 : fk ≤ 3 := by omega
  unfold maxLen at hn
  obtain ⟨i0, hi, hz0, hz1, hz2⟩ := partsE infoI
  have i1 := Lib.hid hi
  have i2 := Lib.hid hz0
  have i3 := Lib.hid hz1
  have i4 := Lib.hid hz2
  clear hi hz0 hz1 hz2
  obtain ⟨n, hnn⟩ : ∃ n, n = L.length := ⟨_, rfl⟩
  obtain ⟨m, q1, q2, q3, q4⟩ := min_ofG 100 100 rfl n
  have q5 : min (n : Int) 100 = (m : Int) := by have := q4.out; omega
  obtain ⟨src, hr, hs⟩ := itm_take hv m (by omega)
  have hlm := itm_mem (k := m) hl
  have hlen : (L.take m).length = m := by rw [List.length_take]; omega
  obtain ⟨ao, cp, rfl, _⟩ := hv.shape
  obtain ⟨l, hl0⟩ : ∃ l, l = L.take m := ⟨_, rfl⟩
  rw [← hnn] at hr ⊢
  rw [← hl0] at hs hlm hlen
  have HS := Lib.hid hs
  have hI : ItOk l := ⟨by omega, hlm⟩
  obtain ⟨m0, hcm, k, hck, hkn⟩ := clamp_of x2 m
  have hcmm : min x2 (m : Int) = m0 := by rw [← hcm]; split <;> omega
  have hckk : max 0 m0 = (k : Int) := by rw [← hck]; split <;> omega
  obtain ⟨src1, hr1, hs1⟩ := itm_take hs k (by omega)
  obtain ⟨src2, hr2, hs2⟩ := itm_drop hs k (by omega)
  obtain ⟨a0, c0, rfl, hcell⟩ := hs.shape
  obtain ⟨a1, n1, c1, rfl⟩ : ∃ a n c, src1 = .slice a n c := by obtain ⟨a, c, h, _⟩ := hs1.shape; exact ⟨_, _, _, h⟩
  obtain ⟨a2, n2, c2, rfl⟩ : ∃ a n c, src2 = .slice a n c := by obtain ⟨a, c, h, _⟩ := hs2.shape; exact ⟨_, _, _, h⟩
  rw [hlen] at hr HS hr1 hr2
  have HS1 := Lib.hid hs1
  have HS2 := Lib.hid hs2
  have HCL := Lib.hid hcell
  have HLEN := Lib.hid hlen
  have I1 : ItOk (l.take k) := hI.sub (by rw [List.length_take]; omega) (fun x hx => List.mem_of_mem_take hx)
  have I2 : ItOk (l.drop k) := hI.sub (by rw [List.length_drop]; omega) (fun x hx => List.mem_of_mem_drop hx)
  have I3 : ItOk l.reverse := hI.sub (by rw [List.length_reverse]; exact Nat.le_refl _) (fun x hx => List.mem_reverse.1 hx)
  have O1 := Lib.hid (fun W hs => kOf9 hk3 l (.slice a0 m c0) W hs hI)
  have O2 := Lib.hid (fun W hs => kOf9 hk3 (l.take k) (.slice a1 n1 c1) W hs I1)
  have O3 := Lib.hid (fun W hs => kOf9 hk3 (l.drop k) (.slice a2 n2 c2) W hs I2)
  have O4 := Lib.hid (fun v W hs => kOf9 hk3 l.reverse v W hs I3)
  have M1 := Lib.hid (fun u v W hu hv => kMerge9 hk3 I1 I2 u v W hu hv)
  have M2 := Lib.hid (fun u v W hu hv => kMerge9 hk3 I2 I1 u v W hu hv)
  rw [of_commG fk (fun x hx => (I2.2 x hx).2) (fun x hx => (I1.2 x hx).2)] at M2
  rw [of_revG fk (fun x hx => (hI.2 x hx).2)] at O4
  rw [List.take_append_drop] at M1 M2
  have S1 := Lib.hid (fun u v W hu hv => kSame9 hk3 hI hI rfl u v W hu hv)
  have G1 := Lib.hid (fun u W hu => kRight9 hk3 hI u W hu)
  unfold hgV at O1 O2 O3 O4 M1 M2 S1 G1
  clear hs hs1 hs2 hv hl hl0 hnn hcell hlm hI I1 I2 I3 hlen
  go_enter Try.func6, Try.ntmps6
  go_wp2_with fail
  with_reducible refine (shown9_any _).mono ?_
  rintro e w1 ⟨rfl, hk⟩
  go_wp2_with fail
  go_loopw [8, 9] (fun t i wr => ∃ j : Nat, j ≤ m ∧ i = .int .i64 ((j : Int) - 1) ∧ wr.ownsRow w1.heap.size 46 2 t (m - j) (cellsI (l.drop j).reverse) ∧ Below w1.heap.size w1 wr) (fun _ i _ => (intOf i + 1).toNat)
  case atStart =>
    refine ⟨m, Nat.le_refl _, rfl, ?_, Below.refl _ _⟩
    rw [List.drop_eq_nil_of_le (by rw [HLEN.out]; exact Nat.le_refl _), Nat.sub_self]
    exact World.ownsRow_nil _ _ _ _
  case round =>
    obtain ⟨j, hj, rfl, hown, hbw⟩ := hrel
    obtain ⟨at', ct, rfl⟩ := owns_shapeB hown
    cases j with
    | zero =>
      have hneg : ¬ (0 : Int) ≤ (((0 : Nat) : Int) - 1) := by omega
      rw [List.drop_zero, Nat.sub_zero] at hown
      rw [Nat.sub_zero]
      have st := itmSl_of_owns (L := l.reverse) (by rw [List.length_reverse, HLEN.out]; exact hown)
      replace hk := hk.trans (hbw.mono hk.size)
      have si := HS.out.below hk
      have sj := HS1.out.below hk
      have sh := HS2.out.below hk
      clear hown hbw
      go_wp2_with fail
      with_reducible refine (O1.out _ si).mono ?_
      rintro e w10 ⟨⟨v10, rfl, z10⟩, hb⟩
      obtain ⟨a10, n10, c10, rfl⟩ := z10.form
      replace hk := hk.trans (hb.mono hk.size)
      obtain ⟨w11, hw11, hb11, hz11, tr⟩ := atG_new w10 fk (.slice a10 n10 c10)
      replace hk := hk.trans (hb11.mono hk.size)
      replace si := (si.below hb).below hb11
      replace sj := (sj.below hb).below hb11
      replace sh := (sh.below hb).below hb11
      replace st := (st.below hb).below hb11
      have sr := z10.below hb11
      clear hb hb11 z10 
      go_wp2_with fail
      with_reducible refine (O2.out _ sj).mono ?_
      rintro e w12 ⟨⟨v12, rfl, z12⟩, hb⟩
      obtain ⟨a12, n12, c12, rfl⟩ := z12.form
      replace hk := hk.trans (hb.mono hk.size)
      obtain ⟨w13, hw13, hb13, hz13, tx⟩ := atG_new w12 fk (.slice a12 n12 c12)
      replace hk := hk.trans (hb13.mono hk.size)
      replace sr := (sr.below hb).below hb13
      replace tr := (tr.on hb).on hb13
      replace si := (si.below hb).below hb13
      replace sj := (sj.below hb).below hb13
      replace sh := (sh.below hb).below hb13
      replace st := (st.below hb).below hb13
      have sx := z12.below hb13
      clear hb hb13 z12 
      go_wp2_with fail
      with_reducible refine (O3.out _ sh).mono ?_
      rintro e w14 ⟨⟨v14, rfl, z14⟩, hb⟩
      obtain ⟨a14, n14, c14, rfl⟩ := z14.form
      replace hk := hk.trans (hb.mono hk.size)
      obtain ⟨w15, hw15, hb15, hz15, ty⟩ := atG_new w14 fk (.slice a14 n14 c14)
      replace hk := hk.trans (hb15.mono hk.size)
      replace sr := (sr.below hb).below hb15
      replace tr := (tr.on hb).on hb15
      replace sx := (sx.below hb).below hb15
      replace tx := (tx.on hb).on hb15
      replace si := (si.below hb).below hb15
      replace sj := (sj.below hb).below hb15
      replace sh := (sh.below hb).below hb15
      replace st := (st.below hb).below hb15
      have sy := z14.below hb15
      clear hb hb15 z14 
      go_wp2_with fail
      with_reducible refine (O4.out _ _ st).mono ?_
      rintro e w16 ⟨⟨v16, rfl, z16⟩, hb⟩
      obtain ⟨a16, n16, c16, rfl⟩ := z16.form
      replace hk := hk.trans (hb.mono hk.size)
      obtain ⟨w17, hw17, hb17, hz17, tz⟩ := atG_new w16 fk (.slice a16 n16 c16)
      replace hk := hk.trans (hb17.mono hk.size)
      replace sr := (sr.below hb).below hb17
      replace tr := (tr.on hb).on hb17
      replace sx := (sx.below hb).below hb17
      replace tx := (tx.on hb).on hb17
      replace sy := (sy.below hb).below hb17
      replace ty := (ty.on hb).on hb17
      replace si := (si.below hb).below hb17
      replace sj := (sj.below hb).below hb17
      replace sh := (sh.below hb).below hb17
      replace st := (st.below hb).below hb17
      have sz := z16.below hb17
      clear hb hb17 z16 
      clear si sj sh st
      have kx0 := tx.c0
      have kx1 := tx.c1
      have ky0 := ty.c0
      have ky1 := ty.c1
      go_wp2_with fail
      with_reducible refine (M1.out _ _ _ sx sy).mono ?_
      rintro e w18 ⟨⟨v18, rfl, z18⟩, hb⟩
      obtain ⟨a18, n18, c18, rfl⟩ := z18.form
      replace hk := hk.trans (hb.mono hk.size)
      obtain ⟨w19, hw19, hb19, hz19, tp⟩ := atG_new w18 fk (.slice a18 n18 c18)
      replace hk := hk.trans (hb19.mono hk.size)
      replace sr := (sr.below hb).below hb19
      replace tr := (tr.on hb).on hb19
      replace sx := (sx.below hb).below hb19
      replace tx := (tx.on hb).on hb19
      replace sy := (sy.below hb).below hb19
      replace ty := (ty.on hb).on hb19
      replace sz := (sz.below hb).below hb19
      replace tz := (tz.on hb).on hb19
      have sp := z18.below hb19
      clear hb hb19 z18 kx0 kx1 ky0 ky1
      have kx0 := tx.c0
      have kx1 := tx.c1
      have ky0 := ty.c0
      have ky1 := ty.c1
      go_wp2_with fail
      with_reducible refine (M2.out _ _ _ sy sx).mono ?_
      rintro e w20 ⟨⟨v20, rfl, z20⟩, hb⟩
      obtain ⟨a20, n20, c20, rfl⟩ := z20.form
      replace hk := hk.trans (hb.mono hk.size)
      obtain ⟨w21, hw21, hb21, hz21, tq⟩ := atG_new w20 fk (.slice a20 n20 c20)
      replace hk := hk.trans (hb21.mono hk.size)
      replace sr := (sr.below hb).below hb21
      replace tr := (tr.on hb).on hb21
      replace sx := (sx.below hb).below hb21
      replace tx := (tx.on hb).on hb21
      replace sy := (sy.below hb).below hb21
      replace ty := (ty.on hb).on hb21
      replace sz := (sz.below hb).below hb21
      replace tz := (tz.on hb).on hb21
      replace sp := (sp.below hb).below hb21
      replace tp := (tp.on hb).on hb21
      have sq := z20.below hb21
      clear hb hb21 z20 kx0 kx1 ky0 ky1
      clear sx tx sy ty
      have kp0 := tp.c0
      have kp1 := tp.c1
      have kr0 := tr.c0
      have kr1 := tr.c1
      go_wp2_with fail
      with_reducible refine (S1.out _ _ _ sp sr).mono ?_
      rintro e w22 ⟨rfl, hb⟩
      replace hk := hk.trans (hb.mono hk.size)
      replace sr := sr.below hb
      replace tr := tr.on hb
      replace sz := sz.below hb
      replace tz := tz.on hb
      replace sp := sp.below hb
      replace tp := tp.on hb
      replace sq := sq.below hb
      replace tq := tq.on hb
      clear hb kp0 kp1 kr0 kr1
      clear sp tp
      have kq0 := tq.c0
      have kq1 := tq.c1
      have kr0 := tr.c0
      have kr1 := tr.c1
      go_wp2_with fail
      with_reducible refine (S1.out _ _ _ sq sr).mono ?_
      rintro e w23 ⟨rfl, hb⟩
      replace hk := hk.trans (hb.mono hk.size)
      replace sr := sr.below hb
      replace tr := tr.on hb
      replace sz := sz.below hb
      replace tz := tz.on hb
      replace sq := sq.below hb
      replace tq := tq.on hb
      clear hb kq0 kq1 kr0 kr1
      clear sq tq
      have kz0 := tz.c0
      have kz1 := tz.c1
      have kr0 := tr.c0
      have kr1 := tr.c1
      go_wp2_with fail
      with_reducible refine (S1.out _ _ _ sz sr).mono ?_
      rintro e w24 ⟨rfl, hb⟩
      replace hk := hk.trans (hb.mono hk.size)
      replace sr := sr.below hb
      replace tr := tr.on hb
      replace sz := sz.below hb
      replace tz := tz.on hb
      clear hb kz0 kz1 kr0 kr1
      clear sz tz
      have kr0 := tr.c0
      have kr1 := tr.c1
      go_wp2_with fail
      with_reducible refine (G1.out _ _ sr).mono ?_
      rintro e w25 ⟨rfl, hb⟩
      replace hk := hk.trans (hb.mono hk.size)
      replace sr := sr.below hb
      replace tr := tr.on hb
      clear hb kr0 kr1
      go_wp2_with fail
      go_ret
      exact ⟨rfl, hk⟩
    | succ j =>
      have ej : (((j + 1 : Nat) : Int) - 1) = (j : Int) := by omega
      rw [ej]
      have hjl : j < l.length := by rw [HLEN.out]; omega
      have hjm : j < m := by omega
      have h0j : (0 : Int) ≤ (j : Int) := by omega
      obtain ⟨g, o, rfl, hgc⟩ := HCL.out j hjl
      obtain ⟨y0, y1⟩ := hgc wr (hk.trans (hbw.mono hk.size))
      have htn := turn_next l j hjl
      obtain ⟨q0, hq0⟩ : ∃ q, q = l[j].1 := ⟨_, rfl⟩
      obtain ⟨q1', hq1⟩ : ∃ q, q = l[j].2 := ⟨_, rfl⟩
      rw [← hq0] at y0
      rw [← hq1] at y1
      have hcn : cellsI (l.drop (j + 1)).reverse ++ [nV q0, nV q1'] = cellsI (l.drop j).reverse := by rw [← htn, cellsI_app, hq0, hq1]; rfl
      have HCN := Lib.hid hcn
      have HOW := Lib.hid hown
      have HBW := Lib.hid hbw
      have hC2 : ∀ j' u, ([nV q0, nV q1'] : List Value)[j']? = some u → (wr.alloc (.cells #[nV q0, nV q1'] 46)).cell? ((⟨wr.heap.size, 0, none⟩ : Addr).add j') = some u := fun j' u hj => by
        rw [add_blockN]
        match j', hj with
        | 0, hj => exact ((HasC.new wr 46 #[nV q0, nV q1']).cell 0).trans hj
        | 1, hj => exact ((HasC.new wr 46 #[nV q0, nV q1']).cell 1).trans hj
        | j' + 2, hj => simp at hj
      have HC2 := Lib.hid hC2
      have HU1 : Hid (∀ u ∈ ([nV q0, nV q1'] : List Value), u.oneCell' = true) := fun u hu => by
        simp only [List.mem_cons, List.not_mem_nil, or_false] at hu
        rcases hu with rfl | rfl <;> rfl
      clear hgc htn hcn hq0 hq1 hown hbw hC2
      go_wp2_with (at_builtin; (refine wpList_append_own _ rfl (.tmp 47) (.tmp 52) 44 rfl w1.heap.size 46 i0 (.agg #[.int .u64 0, .int .u64 0]) 2 16 Try.underlying44 i1.out i2.out i3.out i4.out rfl (by decide) _ _ _ rfl (HOW.out.alloc _) ⟨wr.heap.size, 0, none⟩ 1 1 [nV q0, nV q1'] rfl rfl HC2.out HU1.out (by unfold maxLen; omega) (by omega) (by have := HBW.out.size; simp; omega) ?_; intro v4 W4 hown4 hgrow4 _; have hb4 : Below w1.heap.size w1 W4 := (HBW.out.alloc HBW.out.size _).grown hgrow4 (by have := HBW.out.size; simp; omega) (owns_blockB HOW.out); have ho4 : W4.ownsRow w1.heap.size 46 2 v4 (m - j) (cellsI (l.drop j).reverse) := (by rw [HCN.out] at hown4; rwa [show m - (j + 1) + 1 = m - j by omega] at hown4); obtain ⟨a4, c4, rfl⟩ := owns_shapeB ho4; have HO4 := Lib.hid ho4; have HB4 := Lib.hid hb4; clear hown4 hgrow4 ho4 hb4))
      go_roundw
      case rel => exact ⟨j, by omega, by go_num, HO4.out, HB4.out⟩
      case measure => simp [intOf]
end Go.Proofs.Ytpdedogdffolnaa
