/- The statements' walks: HllRules. -/
import Derived.Test.YtnljepnmajcmgaaHLawsL
namespace Go.Proofs.Ytnljepnmajcmgaa
open Go.RowKit

set_option maxHeartbeats 16000000 in
set_option maxRecDepth 100000 in
theorem lawRules7_any (b : Int) (l1 l2 l3 : List Nat) (v1 v2 v3 : Value) (w : World) (h1 : NumSl w v1 l1) (h2 : NumSl w v2 l2) (h3 : NumSl w v3 l3) (hn1 : l1.length ≤ maxLen) (hn2 : l2.length ≤ maxLen) (hn3 : l3.length ≤ maxLen)
    (hl1 : ∀ x ∈ l1, x < 18446744073709551616) (hl2 : ∀ x ∈ l2, x < 18446744073709551616) (hl3 : ∀ x ∈ l3, x < 18446744073709551616) :
    Calls Try.prog 9 #[.int .i64 b, v1, v2, v3] w fun e w' => e = .returned (.bool true) ∧ Below w.heap.size w w' := by
  have HV1 := Lib.hid h1
  have F1 := Lib.hid (fun W h => few7_any l1 v1 W h hn1)
  have lU : (l1.take 100).length ≤ 200 := by rw [List.length_take]; omega
  have hlU : ∀ x ∈ l1.take 100, x < 18446744073709551616 := fun x hx => hl1 x (List.mem_of_mem_take hx)
  obtain ⟨U, hU⟩ : ∃ V, l1.take 100 = V := ⟨_, rfl⟩
  rw [hU] at F1 lU hlU
  obtain ⟨a1, c1, rfl, _⟩ := h1.shape
  obtain ⟨n1, hnn1⟩ : ∃ n, n = l1.length := ⟨_, rfl⟩
  rw [← hnn1] at F1 HV1 ⊢
  have HL1 := Lib.hid hlU
  clear h1 hn1 hnn1 hU hl1 hlU
  have HV2 := Lib.hid h2
  have F2 := Lib.hid (fun W h => few7_any l2 v2 W h hn2)
  have lV : (l2.take 100).length ≤ 200 := by rw [List.length_take]; omega
  have hlV : ∀ x ∈ l2.take 100, x < 18446744073709551616 := fun x hx => hl2 x (List.mem_of_mem_take hx)
  obtain ⟨V, hV⟩ : ∃ V, l2.take 100 = V := ⟨_, rfl⟩
  rw [hV] at F2 lV hlV
  obtain ⟨a2, c2, rfl, _⟩ := h2.shape
  obtain ⟨n2, hnn2⟩ : ∃ n, n = l2.length := ⟨_, rfl⟩
  rw [← hnn2] at F2 HV2 ⊢
  have HL2 := Lib.hid hlV
  clear h2 hn2 hnn2 hV hl2 hlV
  have HV3 := Lib.hid h3
  have F3 := Lib.hid (fun W h => few7_any l3 v3 W h hn3)
  have lZ : (l3.take 100).length ≤ 200 := by rw [List.length_take]; omega
  have hlZ : ∀ x ∈ l3.take 100, x < 18446744073709551616 := fun x hx => hl3 x (List.mem_of_mem_take hx)
  obtain ⟨Z, hZ⟩ : ∃ V, l3.take 100 = V := ⟨_, rfl⟩
  rw [hZ] at F3 lZ hlZ
  obtain ⟨a3, c3, rfl, _⟩ := h3.shape
  obtain ⟨n3, hnn3⟩ : ∃ n, n = l3.length := ⟨_, rfl⟩
  rw [← hnn3] at F3 HV3 ⊢
  have HL3 := Lib.hid hlZ
  clear h3 hn3 hnn3 hZ hl3 hlZ
  cases hq : okB b with
  | false =>
    have hbb := not_okB hq
    have O1 := Lib.hid (fun W v h => kOf_bad hq U lU HL1.out v W h)
    have O2 := Lib.hid (fun W v h => kOf_bad hq V lV HL2.out v W h)
    have O3 := Lib.hid (fun W v h => kOf_bad hq Z lZ HL3.out v W h)
    clear hq
    go_enter Try.func9, Try.ntmps9
    go_wp2_with fail
    with_reducible refine (shown7_any _).mono ?_
    rintro e w1 ⟨rfl, hk⟩
    go_wp2_with fail
    with_reducible refine (F1.out _ (HV1.out.below hk)).mono ?_
    rintro e w2 ⟨s2, rfl, hs2, rfl⟩
    go_wp2_with fail
    with_reducible refine (O1.out _ _ hs2).mono ?_
    rintro e x1 ⟨rfl, hb⟩
    have hk := (hk.trans (hb.mono hk.size)).alloc (hk.trans (hb.mono hk.size)).size (Obj.cells #[.int .i64 0, .string { data := #[] }] 23)
    clear hb
    go_wp2_with fail
    with_reducible refine (F2.out _ (HV2.out.below hk)).mono ?_
    rintro e w3 ⟨s3, rfl, hs3, rfl⟩
    go_wp2_with fail
    with_reducible refine (O2.out _ _ hs3).mono ?_
    rintro e x2 ⟨rfl, hb⟩
    have hk := (hk.trans (hb.mono hk.size)).alloc (hk.trans (hb.mono hk.size)).size (Obj.cells #[.int .i64 0, .string { data := #[] }] 23)
    clear hb
    go_wp2_with fail
    with_reducible refine (F3.out _ (HV3.out.below hk)).mono ?_
    rintro e w4 ⟨s4, rfl, hs4, rfl⟩
    go_wp2_with fail
    with_reducible refine (O3.out _ _ hs4).mono ?_
    rintro e x3 ⟨rfl, hb⟩
    have hk := (hk.trans (hb.mono hk.size)).alloc (hk.trans (hb.mono hk.size)).size (Obj.cells #[.int .i64 0, .string { data := #[] }] 23)
    clear hb
    by_cases hb3 : b < 3
    · go_wp2_with fail
      go_ret
      exact ⟨by simp; try omega, hk⟩
    · have hb8 : 8 < b := by omega
      go_wp2_with fail
      go_ret
      exact ⟨by simp; try omega, hk⟩
  | true =>
    obtain ⟨n, rfl, g3, g8⟩ := okB_nat hq
    clear hq
    have O1 := Lib.hid (fun W v h => kOf g3 g8 U lU HL1.out v W h)
    have O2 := Lib.hid (fun W v h => kOf g3 g8 V lV HL2.out v W h)
    have O3 := Lib.hid (fun W v h => kOf g3 g8 Z lZ HL3.out v W h)
    have O4 : Hid (∀ W v, NumSl W v U → Calls Try.prog 12 #[.int .i64 3, v] W fun e w' => e = .returned (.tuple #[.agg #[.int .i64 3, .string (regS (ofR 3 U))], .int .i64 0]) ∧ Below W.heap.size W w') := fun W v h => kOf (n := 3) (by decide) (by decide) U lU HL1.out v W h
    have M1 := Lib.hid (fun W => kMerge g3 g8 U V W)
    have M2 := Lib.hid (fun W => kMerge g3 g8 (U ++ V) Z W)
    have M3 := Lib.hid (fun W => kMerge g3 g8 V Z W)
    have M4 := Lib.hid (fun W => kMerge g3 g8 U (V ++ Z) W)
    rw [← List.append_assoc] at M4
    have L1 := Lib.hid (fun j (h4 : 4 ≤ j) (hjn : j ≤ n) W => kLower h4 (Nat.le_trans hjn g8) U W)
    obtain ⟨S1, hS1⟩ : ∃ S, regS (ofR n U) = S := ⟨_, rfl⟩
    obtain ⟨S2, hS2⟩ : ∃ S, regS (ofR n V) = S := ⟨_, rfl⟩
    obtain ⟨S3, hS3⟩ : ∃ S, regS (ofR n Z) = S := ⟨_, rfl⟩
    obtain ⟨A, hA⟩ : ∃ S, regS (ofR n (U ++ V)) = S := ⟨_, rfl⟩
    obtain ⟨B, hB⟩ : ∃ S, regS (ofR n (U ++ V ++ Z)) = S := ⟨_, rfl⟩
    obtain ⟨C, hC⟩ : ∃ S, regS (ofR n (V ++ Z)) = S := ⟨_, rfl⟩
    have HS1 := Lib.hid hS1
    simp only [hS1, hS2, hS3, hA, hB, hC] at O1 O2 O3 M1 M2 M3 M4
    clear hS1 hS2 hS3 hA hB hC
    go_enter Try.func9, Try.ntmps9
    go_wp2_with fail
    with_reducible refine (shown7_any _).mono ?_
    rintro e w1 ⟨rfl, hk⟩
    go_wp2_with fail
    with_reducible refine (F1.out _ (HV1.out.below hk)).mono ?_
    rintro e w2 ⟨s2, rfl, hs2, rfl⟩
    go_wp2_with fail
    with_reducible refine (O1.out _ _ hs2).mono ?_
    rintro e x1 ⟨rfl, hb⟩
    have hk := hk.trans (hb.mono hk.size)
    have hwx : w.heap.size ≤ x1.heap.size := hk.size
    obtain ⟨u1, hu1, hbu1, at1⟩ := atH_new x1 (n : Int) S1
    have hk := hk.trans (hbu1.mono hk.size)
    clear hb hbu1
    go_wp2_with fail
    with_reducible refine (F2.out _ (HV2.out.below hk)).mono ?_
    rintro e w3 ⟨s3, rfl, hs3, rfl⟩
    go_wp2_with fail
    with_reducible refine (O2.out _ _ hs3).mono ?_
    rintro e x2 ⟨rfl, hb⟩
    have hk := hk.trans (hb.mono hk.size)
    have at1 := at1.on hb
    obtain ⟨u2, hu2, hbu2, at2⟩ := atH_new x2 (n : Int) S2
    have hk := hk.trans (hbu2.mono hk.size)
    have at1 := at1.on hbu2
    clear hb hbu2
    go_wp2_with fail
    with_reducible refine (F3.out _ (HV3.out.below hk)).mono ?_
    rintro e w4 ⟨s4, rfl, hs4, rfl⟩
    go_wp2_with fail
    with_reducible refine (O3.out _ _ hs4).mono ?_
    rintro e x3 ⟨rfl, hb⟩
    have hk := hk.trans (hb.mono hk.size)
    have at1 := at1.on hb
    have at2 := at2.on hb
    obtain ⟨u3, hu3, hbu3, at3⟩ := atH_new x3 (n : Int) S3
    have hk := hk.trans (hbu3.mono hk.size)
    have at1 := at1.on hbu3
    have at2 := at2.on hbu3
    clear hb hbu3
    have p1 := at1.c0
    have q1 := at1.c1
    have p2 := at2.c0
    have q2 := at2.c1
    go_wp2_with fail
    with_reducible refine (M1.out _).mono ?_
    rintro e x4 ⟨rfl, hb⟩
    have hk := hk.trans (hb.mono hk.size)
    have at1 := at1.on hb
    have at2 := at2.on hb
    have at3 := at3.on hb
    obtain ⟨u4, hu4, hbu4, at4⟩ := atH_new x4 (n : Int) A
    have hk := hk.trans (hbu4.mono hk.size)
    have at1 := at1.on hbu4
    have at2 := at2.on hbu4
    have at3 := at3.on hbu4
    clear hb hbu4
    clear p1 q1 p2 q2
    have p4 := at4.c0
    have q4 := at4.c1
    have p3 := at3.c0
    have q3 := at3.c1
    go_wp2_with fail
    with_reducible refine (M2.out _).mono ?_
    rintro e x5 ⟨rfl, hb⟩
    have hk := hk.trans (hb.mono hk.size)
    have at1 := at1.on hb
    have at2 := at2.on hb
    have at3 := at3.on hb
    have at4 := at4.on hb
    have hlx5 : x1.heap.size < x5.heap.size := HasC.lt at1
    obtain ⟨u5, hu5, hbu5, at5⟩ := atH_new x5 (n : Int) B
    have hk := hk.trans (hbu5.mono hk.size)
    have at1 := at1.on hbu5
    have at2 := at2.on hbu5
    have at3 := at3.on hbu5
    have at4 := at4.on hbu5
    clear hb hbu5
    clear p4 q4 p3 q3
    have p2 := at2.c0
    have q2 := at2.c1
    have p3 := at3.c0
    have q3 := at3.c1
    go_wp2_with fail
    with_reducible refine (M3.out _).mono ?_
    rintro e x6 ⟨rfl, hb⟩
    have hk := hk.trans (hb.mono hk.size)
    have at1 := at1.on hb
    have at2 := at2.on hb
    have at3 := at3.on hb
    have at4 := at4.on hb
    have at5 := at5.on hb
    obtain ⟨u6, hu6, hbu6, at6⟩ := atH_new x6 (n : Int) C
    have hk := hk.trans (hbu6.mono hk.size)
    have at1 := at1.on hbu6
    have at2 := at2.on hbu6
    have at3 := at3.on hbu6
    have at4 := at4.on hbu6
    have at5 := at5.on hbu6
    clear hb hbu6
    clear p2 q2 p3 q3
    have p1 := at1.c0
    have q1 := at1.c1
    have p6 := at6.c0
    have q6 := at6.c1
    go_wp2_with fail
    with_reducible refine (M4.out _).mono ?_
    rintro e x7 ⟨rfl, hb⟩
    have hk := hk.trans (hb.mono hk.size)
    have at1 := at1.on hb
    have at2 := at2.on hb
    have at3 := at3.on hb
    have at4 := at4.on hb
    have at5 := at5.on hb
    have at6 := at6.on hb
    have hlx7 : x1.heap.size < x7.heap.size := HasC.lt at1
    obtain ⟨u7, hu7, hbu7, at7⟩ := atH_new x7 (n : Int) B
    have hk := hk.trans (hbu7.mono hk.size)
    have at1 := at1.on hbu7
    have at2 := at2.on hbu7
    have at3 := at3.on hbu7
    have at4 := at4.on hbu7
    have at5 := at5.on hbu7
    have at6 := at6.on hbu7
    clear hb hbu7
    clear p1 q1 p6 q6
    go_wp2_with fail
    go_loopw [24] (fun i wr => ∃ j : Nat, 3 ≤ j ∧ j ≤ n ∧ i = .int .i64 j ∧ AtH wr x1.heap.size (j : Int) (regS (ofR j U)) ∧ AtH wr x5.heap.size (n : Int) B ∧ AtH wr x7.heap.size (n : Int) B ∧ Below w.heap.size w wr) (fun i _ => (intOf i).toNat)
    case atStart => exact ⟨n, g3, Nat.le_refl _, rfl, by rw [HS1.out]; exact at1, at5, at7, hk⟩
    case round =>
      obtain ⟨j, hj3, hjn, rfl, hx, h5, h7, hbel⟩ := hrel
      clear at1 at2 at3 at4 at5 at6 at7 hk
      have hl5 := HasC.lt h5
      have hlx := HasC.lt hx
      by_cases hj : 3 < j
      · have K1 := Lib.hid (L1.out j (by omega) hjn)
        obtain ⟨T, hT'⟩ : ∃ S, regS (ofR j U) = S := ⟨_, rfl⟩
        obtain ⟨T2, hT2⟩ : ∃ S, regS (ofR (j - 1) U) = S := ⟨_, rfl⟩
        rw [hT', hT2] at K1
        rw [hT'] at hx
        have HT2 := Lib.hid hT2
        obtain ⟨q, hq⟩ : ∃ q, q = j - 1 := ⟨_, rfl⟩
        have hqj : ((j : Int) - 1) = (q : Int) := by omega
        rw [← hq] at K1
        have HQ := Lib.hid hq
        have hj' : (3 : Int) < (j : Int) := by omega
        have p1 := hx.c0
        have q1 := hx.c1
        clear hT' hT2 hq
        go_wp2_with fail
        with_reducible refine (K1.out _).mono ?_
        rintro e y1 ⟨rfl, hb⟩
        have hx := hx.on hb
        have h5 := h5.on hb
        have h7 := h7.on hb
        have hbel := hbel.trans (hb.mono hbel.size)
        have hly : x1.heap.size < y1.heap.size := HasC.lt hx
        obtain ⟨y2, hy2, hby, aty⟩ := atH_new y1 (q : Int) T2
        have hx := hx.on hby
        have h5 := h5.on hby
        have h7 := h7.on hby
        have hbel := hbel.trans (hby.mono hbel.size)
        have r0 := aty.c0
        have r1 := aty.c1
        have z0 := HasC.frozen hx 0
        have z1 := HasC.frozen hx 1
        have t0 := hx.c0
        have t1 := hx.c1
        have hx6 : AtH ((y2.setCell ⟨x1.heap.size, 0, none⟩ (.int .i64 (q : Int))).setCell ⟨x1.heap.size, 1, none⟩ (.string T2)) x1.heap.size (q : Int) T2 := ((HasC.set hx 0 (.int .i64 (q : Int))).set 1 (.string T2)).eq rfl
        have h56 : AtH ((y2.setCell ⟨x1.heap.size, 0, none⟩ (.int .i64 (q : Int))).setCell ⟨x1.heap.size, 1, none⟩ (.string T2)) x5.heap.size (n : Int) B := (HasC.far h5 ⟨x1.heap.size, 0, none⟩ (.int .i64 (q : Int)) (by simp; omega)).far ⟨x1.heap.size, 1, none⟩ (.string T2) (by simp; omega)
        have h76 : AtH ((y2.setCell ⟨x1.heap.size, 0, none⟩ (.int .i64 (q : Int))).setCell ⟨x1.heap.size, 1, none⟩ (.string T2)) x7.heap.size (n : Int) B := (HasC.far h7 ⟨x1.heap.size, 0, none⟩ (.int .i64 (q : Int)) (by simp; omega)).far ⟨x1.heap.size, 1, none⟩ (.string T2) (by simp; omega)
        have hb6 := (hbel.setCell (p := ⟨x1.heap.size, 0, none⟩) (by simp; omega) (.int .i64 (q : Int))).setCell (p := ⟨x1.heap.size, 1, none⟩) (by simp; omega) (.string T2)
        have X6 := Lib.hid hx6
        have X5 := Lib.hid h56
        have X7 := Lib.hid h76
        have XB := Lib.hid hb6
        clear hx6 h56 h76 hb6 hx h5 h7 hbel p1 q1 hb hby aty
        go_wp2_with fail
        go_roundw
        case rel => exact ⟨q, by have := HQ.out; omega, by have := HQ.out; omega, by go_num, by have := HT2.out; rw [← HQ.out] at this; rw [this]; exact X6.out, X5.out, X7.out, XB.out⟩
        case measure => simp [intOf]; have := HQ.out; omega
      · have hj3' : j = 3 := by omega
        subst hj3'
        obtain ⟨T, hT'⟩ : ∃ S, regS (ofR 3 U) = S := ⟨_, rfl⟩
        rw [hT'] at hx
        have K4 := Lib.hid O4.out
        rw [hT'] at K4
        clear hT'
        have hk := hbel
        have at1 := hx
        have at5 := h5
        have at7 := h7
        clear hx h5 h7 hbel
        go_wp2_with fail
        with_reducible refine (F1.out _ (HV1.out.below hk)).mono ?_
        rintro e w5 ⟨s5, rfl, hs5, rfl⟩
        go_wp2_with fail
        with_reducible refine (K4.out _ _ hs5).mono ?_
        rintro e x8 ⟨rfl, hb⟩
        have hk := hk.trans (hb.mono hk.size)
        have at1 := at1.on hb
        have at5 := at5.on hb
        have at7 := at7.on hb
        obtain ⟨u8, hu8, hbu8, at8⟩ := atH_new x8 (3 : Int) T
        have hk := hk.trans (hbu8.mono hk.size)
        have at1 := at1.on hbu8
        have at5 := at5.on hbu8
        have at7 := at7.on hbu8
        clear hb hbu8
        have p1 := at1.c0
        have q1 := at1.c1
        have p5 := at5.c0
        have q5 := at5.c1
        have p7 := at7.c0
        have q7 := at7.c1
        have p8 := at8.c0
        have q8 := at8.c1
        go_wp2_with fail
        go_ret
        exact ⟨by simp, hk⟩
end Go.Proofs.Ytnljepnmajcmgaa
