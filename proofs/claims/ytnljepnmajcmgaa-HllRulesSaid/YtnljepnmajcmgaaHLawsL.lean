/- The statements' walks: HllLowers. -/
import Derived.Test.YtnljepnmajcmgaaHLawsP
namespace Go.Proofs.Ytnljepnmajcmgaa
open Go.RowKit

set_option maxHeartbeats 16000000 in
set_option maxRecDepth 100000 in
theorem lawLowers7_any (b : Int) (l1 l2 : List Nat) (v1 v2 : Value) (w : World) (h1 : NumSl w v1 l1) (h2 : NumSl w v2 l2) (hn1 : l1.length ≤ maxLen) (hn2 : l2.length ≤ maxLen) (hl1 : ∀ x ∈ l1, x < 18446744073709551616) (hl2 : ∀ x ∈ l2, x < 18446744073709551616) :
    Calls Try.prog 6 #[.int .i64 b, v1, v2] w fun e w' => e = .returned (.bool true) ∧ Below w.heap.size w w' := by
  have HV1 := Lib.hid h1
  have HV2 := Lib.hid h2
  have F1 := Lib.hid (fun W h => few7_any l1 v1 W h hn1)
  have F2 := Lib.hid (fun W h => few7_any l2 v2 W h hn2)
  have lU : (l1.take 100).length ≤ 200 := by rw [List.length_take]; omega
  have lV : (l2.take 100).length ≤ 200 := by rw [List.length_take]; omega
  have hlU : ∀ x ∈ l1.take 100, x < 18446744073709551616 := fun x hx => hl1 x (List.mem_of_mem_take hx)
  have hlV : ∀ x ∈ l2.take 100, x < 18446744073709551616 := fun x hx => hl2 x (List.mem_of_mem_take hx)
  obtain ⟨V, hV⟩ : ∃ V, l2.take 100 = V := ⟨_, rfl⟩
  obtain ⟨U, hU⟩ : ∃ U, l1.take 100 = U := ⟨_, rfl⟩
  rw [hU] at F1 lU hlU
  rw [hV] at F2 lV hlV
  obtain ⟨a1, c1, rfl, _⟩ := h1.shape
  obtain ⟨a2, c2, rfl, _⟩ := h2.shape
  obtain ⟨n1, hnn1⟩ : ∃ n, n = l1.length := ⟨_, rfl⟩
  obtain ⟨n2, hnn2⟩ : ∃ n, n = l2.length := ⟨_, rfl⟩
  rw [← hnn1] at F1 HV1 ⊢
  rw [← hnn2] at F2 HV2 ⊢
  have HL1 := Lib.hid hlU
  have HL2 := Lib.hid hlV
  clear h1 h2 hn1 hn2 hnn1 hnn2 hU hV hl1 hl2 hlU hlV
  by_cases h4 : b < 4
  · go_enter Try.func6, Try.ntmps6
    go_wp2_with fail
    with_reducible refine (shown7_any _).mono ?_
    rintro e w1 ⟨rfl, hk⟩
    go_wp2_with fail
    go_ret
    exact ⟨rfl, hk⟩
  by_cases h9 : 8 < b
  · go_enter Try.func6, Try.ntmps6
    go_wp2_with fail
    with_reducible refine (shown7_any _).mono ?_
    rintro e w1 ⟨rfl, hk⟩
    go_wp2_with fail
    go_ret
    exact ⟨rfl, hk⟩
  obtain ⟨n, rfl⟩ : ∃ n : Nat, b = (n : Int) := ⟨b.toNat, by omega⟩
  have g4 : 4 ≤ n := by omega
  have g8 : n ≤ 8 := by omega
  have O1 := Lib.hid (fun W v h => kOf (n := n) (by omega) g8 U lU HL1.out v W h)
  have O2 := Lib.hid (fun W v h => kOf (n := n) (by omega) g8 V lV HL2.out v W h)
  have O3 := Lib.hid (fun W v h => kOf (n := n - 1) (by omega) (by omega) U lU HL1.out v W h)
  have L1 := Lib.hid (fun W => kLower g4 g8 U W)
  have L2 := Lib.hid (fun W => kLower g4 g8 V W)
  have M1 := Lib.hid (fun W => kMerge (n := n) (by omega) g8 U V W)
  have L3 := Lib.hid (fun W => kLower g4 g8 (U ++ V) W)
  have M2 := Lib.hid (fun W => kMerge (n := n - 1) (by omega) (by omega) U V W)
  obtain ⟨S, hS⟩ : ∃ S, regS (ofR n U) = S := ⟨_, rfl⟩
  obtain ⟨T, hT'⟩ : ∃ S, regS (ofR n V) = S := ⟨_, rfl⟩
  obtain ⟨E, hE⟩ : ∃ S, regS (ofR n (U ++ V)) = S := ⟨_, rfl⟩
  have hqn : ((n : Int) - 1) = ((n - 1 : Nat) : Int) := by omega
  obtain ⟨q, hq⟩ : ∃ q, n - 1 = q := ⟨_, rfl⟩
  rw [hq] at O3 L1 L2 L3 M2 hqn
  obtain ⟨SL, hSL⟩ : ∃ S, regS (ofR q U) = S := ⟨_, rfl⟩
  obtain ⟨TL, hTL⟩ : ∃ S, regS (ofR q V) = S := ⟨_, rfl⟩
  obtain ⟨EL, hEL⟩ : ∃ S, regS (ofR q (U ++ V)) = S := ⟨_, rfl⟩
  simp only [hS, hT', hE, hSL, hTL, hEL] at O1 O2 O3 L1 L2 L3 M1 M2
  clear hS hT' hE hSL hTL hEL hq
  go_enter Try.func6, Try.ntmps6
  go_wp2_with fail
  with_reducible refine (shown7_any _).mono ?_
  rintro e w1 ⟨rfl, hk⟩
  go_wp2_with fail
  with_reducible refine (F1.out _ (HV1.out.below hk)).mono ?_
  rintro e w2 ⟨s2, rfl, hs2, rfl⟩
  go_wp2_with fail
  with_reducible refine (O1.out _ _ hs2).mono ?_
  rintro e x1 ⟨rfl, hb⟩
  have hk := hk.trans (hb.mono hk.size)
  obtain ⟨u1, hu1, hbu1, at1⟩ := atH_new x1 (n : Int) S
  have hk := hk.trans (hbu1.mono hk.size)
  clear hb hbu1
  go_wp2_with fail
  with_reducible refine (F2.out _ (HV2.out.below hk)).mono ?_
  rintro e w3 ⟨s3, rfl, hs3, rfl⟩
  go_wp2_with fail
  with_reducible refine (O2.out _ _ hs3).mono ?_
  rintro e x2 ⟨rfl, hb⟩
  have hk := hk.trans (hb.mono hk.size)
  have at1 := at1.on hb
  obtain ⟨u2, hu2, hbu2, at2⟩ := atH_new x2 (n : Int) T
  have hk := hk.trans (hbu2.mono hk.size)
  have at1 := at1.on hbu2
  clear hb hbu2
  have p1 := at1.c0
  have q1 := at1.c1
  go_wp2_with fail
  with_reducible refine (L1.out _).mono ?_
  rintro e x3 ⟨rfl, hb⟩
  have hk := hk.trans (hb.mono hk.size)
  have at1 := at1.on hb
  have at2 := at2.on hb
  obtain ⟨u3, hu3, hbu3, at3⟩ := atH_new x3 (q : Int) SL
  have hk := hk.trans (hbu3.mono hk.size)
  have at1 := at1.on hbu3
  have at2 := at2.on hbu3
  clear hb hbu3
  clear p1 q1
  go_wp2_with fail
  with_reducible refine (F1.out _ (HV1.out.below hk)).mono ?_
  rintro e w4 ⟨s4, rfl, hs4, rfl⟩
  go_wp2_with fail
  with_reducible refine (O3.out _ _ hs4).mono ?_
  rintro e x4 ⟨rfl, hb⟩
  have hk := hk.trans (hb.mono hk.size)
  have at1 := at1.on hb
  have at2 := at2.on hb
  have at3 := at3.on hb
  obtain ⟨u4, hu4, hbu4, at4⟩ := atH_new x4 (q : Int) SL
  have hk := hk.trans (hbu4.mono hk.size)
  have at1 := at1.on hbu4
  have at2 := at2.on hbu4
  have at3 := at3.on hbu4
  clear hb hbu4
  have p2 := at2.c0
  have q2 := at2.c1
  go_wp2_with fail
  with_reducible refine (L2.out _).mono ?_
  rintro e x5 ⟨rfl, hb⟩
  have hk := hk.trans (hb.mono hk.size)
  have at1 := at1.on hb
  have at2 := at2.on hb
  have at3 := at3.on hb
  have at4 := at4.on hb
  obtain ⟨u5, hu5, hbu5, at5⟩ := atH_new x5 (q : Int) TL
  have hk := hk.trans (hbu5.mono hk.size)
  have at1 := at1.on hbu5
  have at2 := at2.on hbu5
  have at3 := at3.on hbu5
  have at4 := at4.on hbu5
  clear hb hbu5
  clear p2 q2
  have p1 := at1.c0
  have q1 := at1.c1
  have p2 := at2.c0
  have q2 := at2.c1
  go_wp2_with fail
  with_reducible refine (M1.out _).mono ?_
  rintro e x6 ⟨rfl, hb⟩
  have hk := hk.trans (hb.mono hk.size)
  have at1 := at1.on hb
  have at2 := at2.on hb
  have at3 := at3.on hb
  have at4 := at4.on hb
  have at5 := at5.on hb
  obtain ⟨u6, hu6, hbu6, at6⟩ := atH_new x6 (n : Int) E
  have hk := hk.trans (hbu6.mono hk.size)
  have at1 := at1.on hbu6
  have at2 := at2.on hbu6
  have at3 := at3.on hbu6
  have at4 := at4.on hbu6
  have at5 := at5.on hbu6
  clear hb hbu6
  clear p1 q1 p2 q2
  have p6 := at6.c0
  have q6 := at6.c1
  go_wp2_with fail
  with_reducible refine (L3.out _).mono ?_
  rintro e x7 ⟨rfl, hb⟩
  have hk := hk.trans (hb.mono hk.size)
  have at1 := at1.on hb
  have at2 := at2.on hb
  have at3 := at3.on hb
  have at4 := at4.on hb
  have at5 := at5.on hb
  have at6 := at6.on hb
  obtain ⟨u7, hu7, hbu7, at7⟩ := atH_new x7 (q : Int) EL
  have hk := hk.trans (hbu7.mono hk.size)
  have at1 := at1.on hbu7
  have at2 := at2.on hbu7
  have at3 := at3.on hbu7
  have at4 := at4.on hbu7
  have at5 := at5.on hbu7
  have at6 := at6.on hbu7
  clear hb hbu7
  clear p6 q6
  have p3 := at3.c0
  have q3 := at3.c1
  have p5 := at5.c0
  have q5 := at5.c1
  go_wp2_with fail
  with_reducible refine (M2.out _).mono ?_
  rintro e x8 ⟨rfl, hb⟩
  have hk := hk.trans (hb.mono hk.size)
  have at1 := at1.on hb
  have at2 := at2.on hb
  have at3 := at3.on hb
  have at4 := at4.on hb
  have at5 := at5.on hb
  have at6 := at6.on hb
  have at7 := at7.on hb
  obtain ⟨u8, hu8, hbu8, at8⟩ := atH_new x8 (q : Int) EL
  have hk := hk.trans (hbu8.mono hk.size)
  have at1 := at1.on hbu8
  have at2 := at2.on hbu8
  have at3 := at3.on hbu8
  have at4 := at4.on hbu8
  have at5 := at5.on hbu8
  have at6 := at6.on hbu8
  have at7 := at7.on hbu8
  clear hb hbu8
  clear p3 q3 p5 q5
  have p3 := at3.c0
  have q3 := at3.c1
  have p4 := at4.c0
  have q4 := at4.c1
  have p7 := at7.c0
  have q7 := at7.c1
  have p8 := at8.c0
  have q8 := at8.c1
  go_wp2_with fail
  go_ret
  exact ⟨by simp, hk⟩
end Go.Proofs.Ytnljepnmajcmgaa
