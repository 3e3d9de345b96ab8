/- The statements' walks, stage 8: shown. -/
import Derived.Test.YthhlofcmhnkcmaaCLaws
namespace Go.Proofs.Ythhlofcmhnkcmaa
open Go.RowKit

theorem okN24 : OkN 2 4 := ⟨by decide, by decide, .inl rfl⟩
theorem sh8_a : colCm 2 4 (ofI 2 4 []) 0 21474836483 = 1 := by decide +kernel
theorem sh8_b : colCm 2 4 (ofI 2 4 []) 1 21474836483 = 0 := by decide +kernel
theorem sh8_c : countL 4 (ofI 2 4 ([] ++ [(21474836483, 7)])) 21474836483 2 = 7 := by decide +kernel
set_option maxHeartbeats 4000000 in
set_option maxRecDepth 100000 in
theorem shown8_any (w : World) : Calls Try.prog 10 #[] w fun e w' => e = .returned (.bool true) ∧ Below w.heap.size w w' := by
  have N1 := Lib.hid (fun W => kNew8 okN24 W)
  have N2 := Lib.hid (fun W => kNew_bad (r := 2) (c := 5) (by decide) W)
  have A1 := Lib.hid (fun v W hv => kAdd8 okN24 [] 21474836483 7 (by decide) (by decide) v W hv)
  have C1 := Lib.hid (fun v W (hv : NumSl W v (ofI 2 4 [])) => by have := cCol_any 2 4 _ v 0 21474836483 W hv (okN24.len []) (by decide); rw [sh8_a] at this; exact this)
  have C2 := Lib.hid (fun v W (hv : NumSl W v (ofI 2 4 [])) => by have := cCol_any 2 4 _ v 1 21474836483 W hv (okN24.len []) (by decide); rw [sh8_b] at this; exact this)
  have T1 := Lib.hid (fun v W hv => by have := kCount8 okN24 ([] ++ [(21474836483, 7)]) 21474836483 (by decide) v W hv; rw [sh8_c] at this; exact this)
  simp only [cV, nV, show ((2 : Nat) : Int) = 2 from rfl, show ((4 : Nat) : Int) = 4 from rfl, show ((7 : Nat) : Int) = 7 from rfl, show ((1 : Nat) : Int) = 1 from rfl, show ((0 : Nat) : Int) = 0 from rfl, show ((21474836483 : Nat) : Int) = 21474836483 from rfl] at N1 N2 A1 C1 C2 T1
  go_enter Try.func10, Try.ntmps10
  go_wp2_with fail
  with_reducible refine (N1.out _).mono ?_
  rintro e w1 ⟨⟨v1, rfl, z1⟩, hk⟩
  obtain ⟨a1, n1, c1, rfl⟩ := z1.form
  obtain ⟨w2, hw2, hb2, hz2, at2⟩ := atM_new w1 2 4 (.slice a1 n1 c1)
  have hk := hk.trans (hb2.mono hk.size)
  have s2 := z1.sl.below hb2
  have k0 := at2.c0
  have k1 := at2.c1
  have k2 := at2.c2
  clear z1 hb2
  go_wp2_with fail
  with_reducible refine (A1.out _ _ s2).mono ?_
  rintro e w3 ⟨⟨v3, rfl, z3⟩, hb⟩
  have hk := hk.trans (hb.mono hk.size)
  have s3 := s2.below hb
  have at3 := at2.on hb
  obtain ⟨a3, n3, c3, rfl⟩ := z3.form
  obtain ⟨w4, hw4, hb4, hz4, bt4⟩ := atM_new w3 2 4 (.slice a3 n3 c3)
  have hk := hk.trans (hb4.mono hk.size)
  have s4 := s3.below hb4
  have y4 := z3.sl.below hb4
  have at4 := at3.on hb4
  clear hb k0 k1 k2 hb4 s2 s3 at2 at3 z3
  go_wp2_with fail
  with_reducible refine (N2.out _).mono ?_
  rintro e w5 ⟨⟨v5, rfl, z5⟩, hb⟩
  obtain ⟨a5, n5, c5, rfl⟩ := z5.form
  have hk := hk.trans (hb.mono hk.size)
  have s5 := s4.below hb
  have y5 := y4.below hb
  have at5 := at4.on hb
  have bt5 := bt4.on hb
  obtain ⟨w6, hw6, hb6, hz6, _⟩ := atM_new w5 0 0 (.slice a5 n5 c5)
  have hk := hk.trans (hb6.mono hk.size)
  have s6 := s5.below hb6
  have y6 := y5.below hb6
  have at6 := at5.on hb6
  have bt6 := bt5.on hb6
  have k0 := at6.c0
  have k1 := at6.c1
  have k2 := at6.c2
  clear hb hb6 s4 s5 y4 y5 at4 at5 bt4 bt5
  go_wp2_with fail
  with_reducible refine (C1.out _ _ s6).mono ?_
  rintro e w7 ⟨rfl, hb⟩
  have hk := hk.trans (hb.mono hk.size)
  have s7 := s6.below hb
  have y7 := y6.below hb
  have at7 := at6.on hb
  have bt7 := bt6.on hb
  clear hb s6 y6 at6 bt6 k0 k1 k2
  have k0 := at7.c0
  have k1 := at7.c1
  have k2 := at7.c2
  go_wp2_with fail
  with_reducible refine (C2.out _ _ s7).mono ?_
  rintro e w8 ⟨rfl, hb⟩
  have hk := hk.trans (hb.mono hk.size)
  have y8 := y7.below hb
  have bt8 := bt7.on hb
  clear hb s7 y7 at7 bt7 k0 k1 k2
  have k0 := bt8.c0
  have k1 := bt8.c1
  have k2 := bt8.c2
  go_wp2_with fail
  with_reducible refine (T1.out _ _ y8).mono ?_
  rintro e w9 ⟨rfl, hb⟩
  have hk := hk.trans (hb.mono hk.size)
  go_wp2_with fail
  go_ret
  exact ⟨rfl, hk⟩
end Go.Proofs.Ythhlofcmhnkcmaa
