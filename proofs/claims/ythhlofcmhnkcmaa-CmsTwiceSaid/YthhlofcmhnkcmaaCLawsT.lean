/- The statements' walks, stage 8: CmsTwice. -/
import Derived.Test.YthhlofcmhnkcmaaCItm
namespace Go.Proofs.Ythhlofcmhnkcmaa
open Go.RowKit

set_option maxHeartbeats 8000000 in
set_option maxRecDepth 100000 in
theorem lawTwice8_any (x0 x1 : Int) (L : List (Nat × Nat)) (v : Value) (h : Nat) (w : World) (hv : ItmSl w v L) (hn : L.length ≤ maxLen) (hl : ∀ x ∈ L, x.1 ≤ topN ∧ x.2 ≤ topN) (hh : h ≤ topN) :
    Calls Try.prog 9 #[.int .i64 x0, .int .i64 x1, v, nV h] w fun e w' => e = .returned (.bool true) ∧ Below w.heap.size w w' := by
  unfold maxLen at hn
  obtain ⟨n, hnn⟩ : ∃ n, n = L.length := ⟨_, rfl⟩
  obtain ⟨m, q1, q2, q3, q4⟩ := min_of 100 100 rfl n
  have q5 : min (n : Int) 100 = (m : Int) := by have := q4.out; omega
  have htake := fun W (hs : ItmSl W v L) => itm_take hs m (by omega)
  obtain ⟨src, hr, hs⟩ := htake w hv
  have hlm := itm_mem (k := m) hl
  have hlen : (L.take m).length ≤ 1000 := by rw [List.length_take]; omega
  obtain ⟨ao, cp, rfl, _⟩ := hv.shape
  obtain ⟨l, hl0⟩ : ∃ l, l = L.take m := ⟨_, rfl⟩
  rw [← hnn] at hr ⊢
  rw [← hl0] at hs hlm hlen
  have HS := Lib.hid hs
  obtain ⟨a0, n0, c0, rfl⟩ : ∃ a n c, src = .slice a n c := by obtain ⟨a, c, h, _⟩ := hs.shape; exact ⟨_, _, _, h⟩
  clear hs hv hl hl0 htake hnn
  go_enter Try.func9, Try.ntmps9
  go_wp2_with fail
  with_reducible refine (shown8_any _).mono ?_
  rintro e w1 ⟨rfl, hk⟩
  have hs1 := HS.out.below hk
  rcases okC_or x0 x1 with hbad | ⟨a, b, rfl, rfl, hab⟩
  · have O1 := Lib.hid (kOf_bad hbad l _ w1 hs1 hlen)
    unfold cV at O1
    clear hs1
    go_wp2_with fail
    with_reducible refine (O1.out).mono ?_
    rintro e w2 ⟨⟨v2, rfl, z2⟩, hb⟩
    obtain ⟨a2, n2, c2, rfl⟩ := z2.form
    obtain ⟨w3, hw3, hb3, hz3, _⟩ := atM_new w2 0 0 (.slice a2 n2 c2)
    have hk3 := (hk.trans (hb.mono hk.size)).trans (hb3.mono (hk.trans (hb.mono hk.size)).size)
    go_wp2_with fail
    go_ret
    exact ⟨rfl, hk3⟩
  · have O1 := Lib.hid (kOf8 hab l _ w1 hs1 hlen hlm)
    have N1 := Lib.hid (fun W => kNew8 hab W)
    have M1 := Lib.hid (fun u v W hu hv => kMerge8 hab l l u v W hu hv)
    have M2 := Lib.hid (fun u v W hu hv => kMerge8 hab [] l u v W hu hv)
    have C1 := Lib.hid (fun v W hv => kCount8 hab l h hh v W hv)
    have C2 := Lib.hid (fun v W hv => kCount8 hab (l ++ l) h hh v W hv)
    have S1 := Lib.hid (fun u v W hu hv => kSame8 hab ([] ++ l) l rfl u v W hu hv)
    have R1 := Lib.hid (fun v W hv => kRight8 hab (l ++ l) v W hv)
    obtain ⟨y, hy⟩ : ∃ y, y = countL b (ofI a b l) h a := ⟨_, rfl⟩
    have hy1 : y ≤ topN := by rw [hy]; exact countL_le b _ h a
    have P1 := Lib.hid (fun W => pPlus_any y y W hy1)
    have hb0 : 0 < b := by have := hab.2.2; omega
    have htw := count_twice a b hb0 l h a (Nat.le_refl _)
    rw [← hy] at htw
    rw [htw] at C2
    rw [← hy] at C1
    obtain ⟨z, hz⟩ : ∃ z, z = plusS y y := ⟨_, rfl⟩
    rw [← hz] at P1 C2
    unfold cV at O1 N1 M1 M2 C1 C2 S1 R1
    clear hs1 hz htw hy hy1 hb0 hlm hlen
    go_wp2_with fail
    with_reducible refine (O1.out).mono ?_
    rintro e w2 ⟨⟨v2, rfl, z2⟩, hb⟩
    obtain ⟨a2, n2, c2, rfl⟩ := z2.form
    have hk := hk.trans (hb.mono hk.size)
    obtain ⟨w3, hw3, hb3, hz3, x3⟩ := atM_new w2 a b (.slice a2 n2 c2)
    have hk := hk.trans (hb3.mono hk.size)
    have sx := z2.sl.below hb3
    clear hb hb3 z2
    go_wp2_with fail
    with_reducible refine (N1.out _).mono ?_
    rintro e w4 ⟨⟨v4, rfl, z4⟩, hb⟩
    obtain ⟨a4, n4, c4, rfl⟩ := z4.form
    have hk := hk.trans (hb.mono hk.size)
    obtain ⟨w5, hw5, hb5, hz5, y5⟩ := atM_new w4 a b (.slice a4 n4 c4)
    have hk := hk.trans (hb5.mono hk.size)
    have sx := (sx.below hb).below hb5
    have x5 := (x3.on hb).on hb5
    have sy := z4.sl.below hb5
    clear hb hb5 z4 x3
    have k0 := x5.c0
    have k1 := x5.c1
    have k2 := x5.c2
    go_wp2_with fail
    with_reducible refine (M1.out _ _ _ sx sx).mono ?_
    rintro e w6 ⟨⟨v6, rfl, z6⟩, hb⟩
    obtain ⟨a6, n6, c6, rfl⟩ := z6.form
    have hk := hk.trans (hb.mono hk.size)
    obtain ⟨w7, hw7, hb7, hz7, t7⟩ := atM_new w6 a b (.slice a6 n6 c6)
    have hk := hk.trans (hb7.mono hk.size)
    have sx := (sx.below hb).below hb7
    have sy := (sy.below hb).below hb7
    have x7 := (x5.on hb).on hb7
    have y7 := (y5.on hb).on hb7
    have st := z6.sl.below hb7
    clear hb hb7 z6 x5 y5 k0 k1 k2
    have k0 := x7.c0
    have k1 := x7.c1
    have k2 := x7.c2
    have k3 := y7.c0
    have k4 := y7.c1
    have k5 := y7.c2
    go_wp2_with fail
    with_reducible refine (M2.out _ _ _ sy sx).mono ?_
    rintro e w8 ⟨⟨v8, rfl, z8⟩, hb⟩
    obtain ⟨a8, n8, c8, rfl⟩ := z8.form
    have hk := hk.trans (hb.mono hk.size)
    obtain ⟨w9, hw9, hb9, hz9, r9⟩ := atM_new w8 a b (.slice a8 n8 c8)
    have hk := hk.trans (hb9.mono hk.size)
    have sx := (sx.below hb).below hb9
    have st := (st.below hb).below hb9
    have x9 := (x7.on hb).on hb9
    have t9 := (t7.on hb).on hb9
    have sr := z8.sl.below hb9
    clear hb hb9 z8 x7 y7 t7 sy k0 k1 k2 k3 k4 k5
    have k0 := x9.c0
    have k1 := x9.c1
    have k2 := x9.c2
    go_wp2_with fail
    with_reducible refine (C1.out _ _ sx).mono ?_
    rintro e w10 ⟨rfl, hb⟩
    have hk := hk.trans (hb.mono hk.size)
    have sx := sx.below hb
    have st := st.below hb
    have sr := sr.below hb
    have x10 := x9.on hb
    have t10 := t9.on hb
    have r10 := r9.on hb
    clear hb x9 t9 r9 k0 k1 k2
    have k0 := t10.c0
    have k1 := t10.c1
    have k2 := t10.c2
    go_wp2_with fail
    with_reducible refine (C2.out _ _ st).mono ?_
    rintro e w11 ⟨rfl, hb⟩
    have hk := hk.trans (hb.mono hk.size)
    have sx := sx.below hb
    have st := st.below hb
    have sr := sr.below hb
    have x11 := x10.on hb
    have t11 := t10.on hb
    have r11 := r10.on hb
    clear hb x10 t10 r10 k0 k1 k2
    go_wp2_with fail
    with_reducible refine (P1.out _).mono ?_
    rintro e w12 ⟨rfl, hw12⟩
    rw [← hw12]
    clear hw12 w12
    have k0 := r11.c0
    have k1 := r11.c1
    have k2 := r11.c2
    have k3 := x11.c0
    have k4 := x11.c1
    have k5 := x11.c2
    go_wp2_with fail
    with_reducible refine (S1.out _ _ _ sr sx).mono ?_
    rintro e w13 ⟨rfl, hb⟩
    have hk := hk.trans (hb.mono hk.size)
    have st := st.below hb
    have t13 := t11.on hb
    clear hb r11 x11 t11 sr sx k0 k1 k2 k3 k4 k5
    have k0 := t13.c0
    have k1 := t13.c1
    have k2 := t13.c2
    go_wp2_with fail
    with_reducible refine (R1.out _ _ st).mono ?_
    rintro e w14 ⟨rfl, hb⟩
    have hk := hk.trans (hb.mono hk.size)
    go_wp2_with fail
    go_ret
    exact ⟨rfl, hk⟩
end Go.Proofs.Ythhlofcmhnkcmaa
