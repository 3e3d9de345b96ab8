/- The statements' walks, stage 9: shown. -/
import Derived.Test.YtpdedogdffolnaaGLaws
namespace Go.Proofs.Ytpdedogdffolnaa
open Go.RowKit

theorem sh9_a : boundsI 2 15 = (12, 13, true) := by decide +kernel
theorem sh9_b : bucketI 2 13 = 15 := by decide +kernel
theorem sh9_c : min (cntG 2 (fun _ => true) ([] ++ [(13, 5)])) topN = 5 := by decide +kernel
theorem gok_nil (f : Int) (h : smallI f) : GOk f [] := ⟨h, Nat.zero_le _, fun x hx => by cases hx⟩
set_option maxHeartbeats 4000000 in
set_option maxRecDepth 100000 in
theorem shown9_any (w : World) : Calls Try.prog 11 #[] w fun e w' => e = .returned (.bool true) ∧ Below w.heap.size w w' := by
  have B1 := Lib.hid (fun W => by have := gBounds_any 2 15 W ⟨by decide, by decide⟩ ⟨by decide, by decide⟩; rw [sh9_a] at this; exact this)
  have A1 := Lib.hid (fun W => kAdd9 (n := 2) (by decide) ItOk.nil 13 5 (by decide) (by decide) (.slice none 0 0) W (BinSl.nil W))
  have A2 := Lib.hid (fun W => gAdd_any 4 [] (.slice none 0 0) 13 5 W (gok_nil 4 ⟨by decide, by decide⟩) (BinSl.nil W) (by decide) (by decide))
  rw [show addG 4 [] 13 5 = badG from rfl] at A2
  have K1 := Lib.hid (fun W => by have := gBucket_any 2 13 W ⟨by decide, by decide⟩ (by decide); rw [sh9_b] at this; exact this)
  have T1 := Lib.hid (fun v W hv => by have := kTotal9 (n := 2) (by decide) (ItOk.snoc ItOk.nil (by decide) (x := 13) (c := 5) (by decide) (by decide)) v W hv; rw [sh9_c] at this; exact this)
  unfold GX badG at A2
  simp only [hgV, bndV, gV, show ((2 : Nat) : Int) = 2 from rfl, show ((90 : Nat) : Int) = 90 from rfl, show ((12 : Nat) : Int) = 12 from rfl, show ((13 : Nat) : Int) = 13 from rfl, show ((5 : Nat) : Int) = 5 from rfl, show ((15 : Nat) : Int) = 15 from rfl] at B1 A1 A2 K1 T1
  go_enter Try.func11, Try.ntmps11
  go_wp2_with fail
  with_reducible refine (B1.out _).mono ?_
  rintro e w1 ⟨rfl, hk⟩
  go_wp2_with fail
  with_reducible refine (A1.out _).mono ?_
  rintro e w2 ⟨⟨v2, rfl, z2⟩, hb⟩
  obtain ⟨a2, n2, c2, rfl⟩ := z2.form
  obtain ⟨w3, hw3, hb3, hz3, at3⟩ := atG_new w2 2 (.slice a2 n2 c2)
  replace hk := (hk.trans (hb.mono hk.size)).trans (hb3.mono (hk.trans (hb.mono hk.size)).size)
  have s3 := z2.below hb3
  clear z2 hb hb3
  go_wp2_with fail
  with_reducible refine (A2.out _).mono ?_
  rintro e w4 ⟨⟨v4, rfl, z4⟩, hb⟩
  obtain ⟨a4, n4, c4, rfl⟩ := z4.form
  obtain ⟨w5, hw5, hb5, hz5, _⟩ := atG_new w4 0 (.slice a4 n4 c4)
  replace hk := (hk.trans (hb.mono hk.size)).trans (hb5.mono (hk.trans (hb.mono hk.size)).size)
  replace s3 := (s3.below hb).below hb5
  replace at3 := (at3.on hb).on hb5
  clear z4 hb hb5
  go_wp2_with fail
  with_reducible refine (K1.out _).mono ?_
  rintro e w6 ⟨rfl, hb⟩
  replace hk := hk.trans (hb.mono hk.size)
  replace s3 := s3.below hb
  replace at3 := at3.on hb
  have k0 := at3.c0
  have k1 := at3.c1
  clear hb
  go_wp2_with fail
  with_reducible refine (T1.out _ _ s3).mono ?_
  rintro e w7 ⟨rfl, hb⟩
  replace hk := hk.trans (hb.mono hk.size)
  go_wp2_with fail
  go_ret
  exact ⟨rfl, hk⟩
end Go.Proofs.Ytpdedogdffolnaa
