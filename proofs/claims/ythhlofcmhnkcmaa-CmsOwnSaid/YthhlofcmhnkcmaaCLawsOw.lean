/- The statements' walks, stage 8: CmsOwn. -/
import Derived.Test.YthhlofcmhnkcmaaCItm
namespace Go.Proofs.Ythhlofcmhnkcmaa
open Go.RowKit

/-- A list of its own, place by place. -/
def Cells (B C : Nat) (yo : Option Addr) (n : Nat) (W : World) : Prop := ∀ j, j < n → ∃ g o, yo = some ⟨g, o, none⟩ ∧ B ≤ g ∧ g < C ∧ (W.cell? ⟨g, o + j, none⟩).isSome = true ∧ W.frozen? ⟨g, o + j, none⟩ = false
theorem NumF.cells {B : Nat} {w : World} {v : Value} {L : List Nat} (h : NumF B w v L) : ∃ yo c, v = .slice yo L.length c ∧ Cells B w.heap.size yo L.length w := by
  rcases h with ⟨a, c, rfl, _, rfl⟩ | ⟨g, o, c, rfl, _, h3, h4, h6⟩
  · exact ⟨_, _, rfl, fun j hj => absurd hj (by simp)⟩
  · exact ⟨_, _, rfl, fun j hj => ⟨g, o, rfl, h3, h4, by rw [(h6 j hj).1]; rfl, (h6 j hj).2⟩⟩
theorem Cells.below {B C n : Nat} {yo : Option Addr} {w W : World} (h : Cells B C yo n w) (hb : Below C w W) : Cells B C yo n W := fun j hj => by
  obtain ⟨g, o, h1, h2, h3, h4, h5⟩ := h j hj
  exact ⟨g, o, h1, h2, h3, by rw [hb.cell (p := ⟨g, o + j, none⟩) h3]; exact h4, (hb.frozen (p := ⟨g, o + j, none⟩) h3).trans h5⟩
theorem Cells.set {B C n : Nat} {yo : Option Addr} {w : World} (h : Cells B C yo n w) (p : Addr) (u : Value) : Cells B C yo n (w.setCell p u) := fun j hj => by
  obtain ⟨g, o, h1, h2, h3, h4, h5⟩ := h j hj
  refine ⟨g, o, h1, h2, h3, ?_, by rw [World.frozen?_setCell]; exact h5⟩
  obtain ⟨v', hv⟩ := Option.isSome_iff_exists.1 h4
  obtain ⟨x, hx⟩ := cell?_setCell_some (p := p) (x := u) hv
  rw [hx]
  rfl
theorem AtM.far {W : World} {b : Nat} {r c : Int} {v : Value} (h : AtM W b r c v) (p : Addr) (u : Value) (hp : b ≠ p.block) : AtM (W.setCell p u) b r c v := HasC.far h p u hp
set_option maxHeartbeats 8000000 in
set_option maxRecDepth 100000 in
theorem lawOwn8_any (x0 x1 : Int) (L : List (Nat × Nat)) (v : Value) (h : Nat) (w : World) (hv : ItmSl w v L) (hn : L.length ≤ maxLen) (hl : ∀ x ∈ L, x.1 ≤ topN ∧ x.2 ≤ topN) (hh : h ≤ topN) :
    Calls Try.prog 8 #[.int .i64 x0, .int .i64 x1, v, nV h] w fun e w' => e = .returned (.bool true) ∧ Below w.heap.size w w' := by
  unfold maxLen at hn
  obtain ⟨n, hnn⟩ : ∃ n, n = L.length := ⟨_, rfl⟩
  obtain ⟨m, q1, q2, q3, q4⟩ := min_of 100 100 rfl n
  have q5 : min (n : Int) 100 = (m : Int) := by have := q4.out; omega
  have htake := fun W (hs : ItmSl W v L) => itm_take hs m (by omega)
  obtain ⟨src, hr, hs⟩ := htake w hv
  have hlm := itm_mem (k := m) hl
  have hlen : (L.take m).length ≤ 1000 := by rw [List.length_take]; omega
  obtain ⟨ao, cp, rfl, _⟩ := hv.shape
  obtain ⟨l, hl0⟩ : ∃ l, l = L.take m := ⟨_, rfl⟩
  rw [← hnn] at hr ⊢
  rw [← hl0] at hs hlm hlen
  have HS := Lib.hid hs
  obtain ⟨a0, n0, c0, rfl⟩ : ∃ a n c, src = .slice a n c := by obtain ⟨a, c, h, _⟩ := hs.shape; exact ⟨_, _, _, h⟩
  clear hs hv hl hl0 htake hnn
  go_enter Try.func8, Try.ntmps8
  go_wp2_with fail
  with_reducible refine (shown8_any _).mono ?_
  rintro e w1 ⟨rfl, hk⟩
  have hs1 := HS.out.below hk
  rcases okC_or x0 x1 with hbad | ⟨a, b, rfl, rfl, hab⟩
  · have O1 := Lib.hid (kOf_bad hbad l _ w1 hs1 hlen)
    unfold cV at O1
    clear hs1
    go_wp2_with fail
    with_reducible refine (O1.out).mono ?_
    rintro e w2 ⟨⟨v2, rfl, z2⟩, hb⟩
    obtain ⟨a2, n2, c2, rfl⟩ := z2.form
    obtain ⟨w3, hw3, hb3, hz3, _⟩ := atM_new w2 0 0 (.slice a2 n2 c2)
    have hk3 := (hk.trans (hb.mono hk.size)).trans (hb3.mono (hk.trans (hb.mono hk.size)).size)
    go_wp2_with fail
    go_ret
    exact ⟨rfl, hk3⟩
  · have O1 := Lib.hid (kOf8 hab l _ w1 hs1 hlen hlm)
    have N1 := Lib.hid (fun W => kNew8 hab W)
    have M1 := Lib.hid (fun u v W hu hv => kMerge8 hab l [] u v W hu hv)
    have A1 : Hid (∀ v W, NumSl W v (ofI a b l) → Calls Try.prog 14 #[.agg #[.int .i64 (a : Int), .int .i64 (b : Int), v], nV h, .int .u64 0] W fun e w' => (∃ v', e = .returned (.tuple #[.agg #[.int .i64 (a : Int), .int .i64 (b : Int), v'], .int .i64 0]) ∧ NumF W.heap.size w' v' (ofI a b (l ++ [(h, 0)]))) ∧ Below W.heap.size W w') := fun v W hv => kAdd8 hab l h 0 hh (Nat.zero_le _) v W hv
    have C1 := Lib.hid (fun v W hv => kCount8 hab l h hh v W hv)
    have C2 := Lib.hid (fun v W hv => kCount8 hab [] h hh v W hv)
    have hb0 : 0 < b := by have := hab.2.2; omega
    have hnone : countL b (ofI a b []) h a = 0 := by
      obtain ⟨a', ha'⟩ : ∃ a', a = a' + 1 := ⟨a - 1, by have := hab.1; omega⟩
      rw [ha']
      exact count_none hb0 h a' (by omega)
    rw [hnone] at C2
    have la := hab.len (l ++ [])
    have lb := hab.len (l ++ [(h, 0)])
    obtain ⟨y, hy⟩ : ∃ y, y = countL b (ofI a b l) h a := ⟨_, rfl⟩
    rw [← hy] at C1
    unfold cV at O1 N1 M1 C1 C2
    clear hs1 hy hb0 hlm hlen hnone hab
    go_wp2_with fail
    with_reducible refine (O1.out).mono ?_
    rintro e w20 ⟨⟨v20, rfl, z20⟩, hb⟩
    obtain ⟨a20, n20, c20, rfl⟩ := z20.form
    replace hk := hk.trans (hb.mono hk.size)
    obtain ⟨w21, hw21, hb21, hz21, tx⟩ := atM_new w20 a b (.slice a20 n20 c20)
    replace hk := hk.trans (hb21.mono hk.size)
    have sx := z20.sl.below hb21
    clear hb hb21 z20
    have k0 := tx.c0
    have k1 := tx.c1
    have k2 := tx.c2
    go_wp2_with fail
    with_reducible refine (C1.out _ _ sx).mono ?_
    rintro e w22 ⟨rfl, hb⟩
    replace hk := hk.trans (hb.mono hk.size)
    replace sx := sx.below hb
    replace tx := tx.on hb
    clear hb k0 k1 k2
    go_wp2_with fail
    with_reducible refine (N1.out _).mono ?_
    rintro e w23 ⟨⟨v23, rfl, z23⟩, hb⟩
    obtain ⟨a23, n23, c23, rfl⟩ := z23.form
    replace hk := hk.trans (hb.mono hk.size)
    obtain ⟨w24, hw24, hb24, hz24, ty⟩ := atM_new w23 a b (.slice a23 n23 c23)
    replace hk := hk.trans (hb24.mono hk.size)
    replace sx := (sx.below hb).below hb24
    replace tx := (tx.on hb).on hb24
    have sy := z23.sl.below hb24
    clear hb hb24 z23
    have SX := Lib.hid sx
    have SY := Lib.hid sy
    have TX := Lib.hid tx
    have TY := Lib.hid ty
    have HK := Lib.hid hk
    have k0 := tx.c0
    have k1 := tx.c1
    have k2 := tx.c2
    have k3 := ty.c0
    have k4 := ty.c1
    have k5 := ty.c2
    go_wp2_with fail
    with_reducible refine (M1.out _ _ _ sx sy).mono ?_
    rintro e w25 ⟨⟨v25, rfl, z25⟩, hb⟩
    obtain ⟨a25, c25, rfl, ca⟩ := z25.cells
    obtain ⟨n25, hn25⟩ : ∃ n, n = (ofI a b (l ++ [])).length := ⟨_, rfl⟩
    rw [← hn25] at ca la ⊢
    obtain ⟨w26, hw26, hb26, hz26, ta⟩ := atM_new w25 a b (.slice a25 n25 c25)
    have hm := hb.trans (hb26.mono hb.size)
    have hz25 : w24.heap.size ≤ w25.heap.size := hb.size
    replace sx := (sx.below hb).below hb26
    replace tx := (tx.on hb).on hb26
    replace ca := ca.below hb26
    clear hb hb26 z25 hn25 k0 k1 k2 k3 k4 k5 sy ty
    have k0 := tx.c0
    have k1 := tx.c1
    have k2 := tx.c2
    go_wp2_with fail
    with_reducible refine (A1.out _ _ sx).mono ?_
    rintro e w27 ⟨⟨v27, rfl, z27⟩, hb⟩
    obtain ⟨a27, c27, rfl, cb⟩ := z27.cells
    obtain ⟨n27, hn27⟩ : ∃ n, n = (ofI a b (l ++ [(h, 0)])).length := ⟨_, rfl⟩
    rw [← hn27] at cb lb ⊢
    obtain ⟨w28, hw28, hb28, hz28, tb⟩ := atM_new w27 a b (.slice a27 n27 c27)
    have hz27 : w26.heap.size ≤ w27.heap.size := hb.size
    replace hm := (hm.trans (hb.mono (by omega))).trans (hb28.mono (by omega))
    replace ta := (ta.on hb).on hb28
    replace ca := (ca.below (hb.mono (by omega))).below (hb28.mono (by omega))
    replace cb := cb.below hb28
    clear hb hb28 z27 hn27 k0 k1 k2 sx tx
    go_wp2_with fail
    go_loopw [19] (fun i wr => ∃ k : Nat, k ≤ n25 ∧ i = .int .i64 (k : Int) ∧ Below w24.heap.size w24 wr ∧ AtM wr w25.heap.size a b (.slice a25 n25 c25) ∧ Cells w24.heap.size w25.heap.size a25 n25 wr ∧ AtM wr w27.heap.size a b (.slice a27 n27 c27) ∧ Cells w26.heap.size w27.heap.size a27 n27 wr) (fun i _ => n25 - (intOf i).toNat)
    case atStart => exact ⟨0, Nat.zero_le _, rfl, hm, ta, ca, tb, cb⟩
    case round =>
      obtain ⟨k, hkn, rfl, hm', ta', ca', tb', cb'⟩ := hrel
      clear hm ta ca tb cb
      have k2 := ta'.c2
      by_cases hlt : k < n25
      · obtain ⟨g, o, rfl, hg1, hg2, hsome, hfr⟩ := ca' k hlt
        have hlk : (k : Int) < (n25 : Int) := by omega
        have HCA := Lib.hid (ca'.set ⟨g, o + k, none⟩ (.int .u64 3))
        have HCB := Lib.hid (cb'.set ⟨g, o + k, none⟩ (.int .u64 3))
        have HM := Lib.hid (hm'.setCell (p := ⟨g, o + k, none⟩) hg1 (.int .u64 3))
        have HTA := Lib.hid (ta'.far ⟨g, o + k, none⟩ (.int .u64 3) (by simp; omega))
        have HTB := Lib.hid (tb'.far ⟨g, o + k, none⟩ (.int .u64 3) (by simp; omega))
        obtain ⟨old, hold⟩ := Option.isSome_iff_exists.1 hsome
        clear ca' cb' hm' ta' tb' hsome
        go_wp2_with fail
        go_roundw
        case rel => exact ⟨k + 1, by omega, by go_num, HM.out, HTA.out, HCA.out, HTB.out, HCB.out⟩
        case measure => simp [intOf]; omega
      · have hnl : ¬ (k : Int) < (n25 : Int) := by omega
        clear ca' ta'
        go_wp2_with fail
        clear k2
        go_loopw [20] (fun i wr => ∃ k : Nat, k ≤ n27 ∧ i = .int .i64 (k : Int) ∧ Below w24.heap.size w24 wr ∧ AtM wr w27.heap.size a b (.slice a27 n27 c27) ∧ Cells w26.heap.size w27.heap.size a27 n27 wr) (fun i _ => n27 - (intOf i).toNat)
        case atStart => exact ⟨0, Nat.zero_le _, rfl, hm', tb', cb'⟩
        case round =>
          obtain ⟨j, hjn, rfl, hm2, tb2, cb2⟩ := hrel
          clear hm' tb' cb'
          have k2 := tb2.c2
          by_cases hlt2 : j < n27
          · obtain ⟨g, o, rfl, hg1, hg2, hsome, hfr⟩ := cb2 j hlt2
            have hlk : (j : Int) < (n27 : Int) := by omega
            have HCB := Lib.hid (cb2.set ⟨g, o + j, none⟩ (.int .u64 5))
            have HM := Lib.hid (hm2.setCell (p := ⟨g, o + j, none⟩) (by simp; omega) (.int .u64 5))
            have HTB := Lib.hid (tb2.far ⟨g, o + j, none⟩ (.int .u64 5) (by simp; omega))
            obtain ⟨old, hold⟩ := Option.isSome_iff_exists.1 hsome
            clear cb2 hm2 tb2 hsome
            go_wp2_with fail
            go_roundw
            case rel => exact ⟨j + 1, by omega, by go_num, HM.out, HTB.out, HCB.out⟩
            case measure => simp [intOf]; omega
          · have hnl2 : ¬ (j : Int) < (n27 : Int) := by omega
            have sx := SX.out.below hm2
            have sy := SY.out.below hm2
            have tx := TX.out.on hm2
            have ty := TY.out.on hm2
            have hk := HK.out.trans (hm2.mono HK.out.size)
            have x0 := tx.c0
            have x1 := tx.c1
            have x2 := tx.c2
            clear cb2 tb2 hm2
            go_wp2_with fail
            with_reducible refine (C1.out _ _ sx).mono ?_
            rintro e w30 ⟨rfl, hb⟩
            have hk := hk.trans (hb.mono hk.size)
            have sy := sy.below hb
            have ty := ty.on hb
            clear hb x0 x1 x2 k2 sx tx
            have y0 := ty.c0
            have y1 := ty.c1
            have y2 := ty.c2
            go_wp2_with fail
            with_reducible refine (C2.out _ _ sy).mono ?_
            rintro e w31 ⟨rfl, hb⟩
            have hk := hk.trans (hb.mono hk.size)
            go_wp2_with fail
            go_ret
            exact ⟨by first | rfl | simp, hk⟩
end Go.Proofs.Ythhlofcmhnkcmaa
