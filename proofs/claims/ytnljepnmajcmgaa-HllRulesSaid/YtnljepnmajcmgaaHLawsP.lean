/- The statements' walks: HllParts. -/
import Derived.Test.YtnljepnmajcmgaaHLaws
namespace Go.Proofs.Ytnljepnmajcmgaa
open Go.RowKit

theorem clamp_of (x : Int) (n : Nat) : ∃ m : Int, (if (n : Int) < x then (n : Int) else x) = m ∧ ∃ k : Nat, (if (0 : Int) < m then m else 0) = (k : Int) ∧ k ≤ n := by
  refine ⟨_, rfl, (if (0 : Int) < (if (n : Int) < x then (n : Int) else x) then (if (n : Int) < x then (n : Int) else x) else 0).toNat, ?_, ?_⟩
  · by_cases h1 : (n : Int) < x
    · rw [if_pos h1]
      by_cases h2 : (0 : Int) < n
      · rw [if_pos h2]; omega
      · rw [if_neg h2]; rfl
    · rw [if_neg h1]
      by_cases h2 : (0 : Int) < x
      · rw [if_pos h2]; omega
      · rw [if_neg h2]; rfl
  · by_cases h1 : (n : Int) < x
    · rw [if_pos h1]
      by_cases h2 : (0 : Int) < n
      · rw [if_pos h2]; omega
      · rw [if_neg h2]; simp
    · rw [if_neg h1]
      by_cases h2 : (0 : Int) < x
      · rw [if_pos h2]; omega
      · rw [if_neg h2]; simp
theorem not_okB {b : Int} (h : okB b = false) : b < 3 ∨ 8 < b := by
  unfold okB at h
  by_cases h1 : 3 ≤ b
  · by_cases h2 : b ≤ 8
    · rw [decide_eq_true h1, decide_eq_true h2] at h; cases h
    · exact .inr (by omega)
  · exact .inl (by omega)
set_option maxHeartbeats 16000000 in
set_option maxRecDepth 100000 in
theorem lawParts7_any (b : Int) (l : List Nat) (v : Value) (x0 : Int) (w : World) (h : NumSl w v l) (hn : l.length ≤ maxLen) (hl : ∀ x ∈ l, x < 18446744073709551616) :
    Calls Try.prog 5 #[.int .i64 b, v, .int .i64 x0] w fun e w' => e = .returned (.bool true) ∧ Below w.heap.size w w' := by
  have HV := Lib.hid h
  have FB := Lib.hid (fun W h => few7_any l v W h hn)
  have lU : (l.take 100).length ≤ 100 := by rw [List.length_take]; omega
  have hlU : ∀ x ∈ l.take 100, x < 18446744073709551616 := fun x hx => hl x (List.mem_of_mem_take hx)
  obtain ⟨U, hU⟩ : ∃ U, l.take 100 = U := ⟨_, rfl⟩
  rw [hU] at FB lU hlU
  obtain ⟨a1, c1, rfl, _⟩ := h.shape
  obtain ⟨n1, hn1⟩ : ∃ n, n = l.length := ⟨_, rfl⟩
  rw [← hn1] at FB HV ⊢
  have HL := Lib.hid hlU
  clear h hn hU hn1 hl hlU
  cases hq : okB b with
  | true =>
    obtain ⟨n, rfl, h3, h8⟩ := okB_nat hq
    clear hq
    go_enter Try.func5, Try.ntmps5
    go_wp2_with fail
    with_reducible refine (shown7_any _).mono ?_
    rintro e w1 ⟨rfl, hk⟩
    go_wp2_with fail
    with_reducible refine (FB.out _ (HV.out.below hk)).mono ?_
    rintro e w2 ⟨s2, rfl, hs2, rfl⟩
    obtain ⟨m, hmU⟩ : ∃ m, m = U.length := ⟨_, rfl⟩
    obtain ⟨m0, hcm, k, hck, hkn⟩ := clamp_of x0 m
    have hcmm : min x0 (m : Int) = m0 := by rw [← hcm]; split <;> omega
    have hckk : max 0 m0 = (k : Int) := by rw [← hck]; split <;> omega
    obtain ⟨src1, hr1, hs1⟩ := num_take hs2 k (by omega)
    obtain ⟨src2, hr2, hs3⟩ := num_drop hs2 k (by omega)
    have O1 := Lib.hid (fun W v h => kOf h3 h8 U (by omega) HL.out v W h)
    have O2 := Lib.hid (fun W v h => kOf h3 h8 (U.take k) (by rw [List.length_take]; omega) (fun x hx => HL.out x (List.mem_of_mem_take hx)) v W h)
    have O3 := Lib.hid (fun W v h => kOf h3 h8 (U.drop k) (by rw [List.length_drop]; omega) (fun x hx => HL.out x (List.mem_of_mem_drop hx)) v W h)
    have M1 := Lib.hid (fun W => kMerge h3 h8 (U.take k) (U.drop k) W)
    have M2 := Lib.hid (fun W => kMerge h3 h8 (U.drop k) (U.take k) W)
    have M3 := Lib.hid (fun W => kMerge h3 h8 U U W)
    rw [List.take_append_drop] at M1
    rw [of_comm, List.take_append_drop] at M2
    rw [of_same] at M3
    obtain ⟨S, hS⟩ : ∃ S, regS (ofR n U) = S := ⟨_, rfl⟩
    obtain ⟨S1, hS1⟩ : ∃ S, regS (ofR n (U.take k)) = S := ⟨_, rfl⟩
    obtain ⟨S2, hS2⟩ : ∃ S, regS (ofR n (U.drop k)) = S := ⟨_, rfl⟩
    simp only [hS, hS1, hS2] at O1 O2 O3 M1 M2 M3
    obtain ⟨ao, ac, rfl, _⟩ := hs2.shape
    have HS := Lib.hid hs2
    have HS1 := Lib.hid hs1
    have HS3 := Lib.hid hs3
    have HMU := Lib.hid hmU
    rw [← hmU] at hr1 hr2 HS lU ⊢
    have hk2 := Below.refl w2.heap.size w2
    clear hs1 hs2 hs3 hmU hS hS1 hS2
    go_wp2_with fail
    with_reducible refine (O1.out _ _ HS.out).mono ?_
    rintro e x1 ⟨rfl, hb⟩
    have hk := hk.trans (hb.mono hk.size)
    have hk2 := hk2.trans (hb.mono hk2.size)
    obtain ⟨u1, hu1, hbu1, at1⟩ := atH_new x1 (n : Int) S
    have hk := hk.trans (hbu1.mono hk.size)
    have hk2 := hk2.trans (hbu1.mono hk2.size)
    clear hb hbu1
    go_wp2_with fail
    with_reducible refine (O2.out _ _ (HS1.out.below hk2)).mono ?_
    rintro e x2 ⟨rfl, hb⟩
    have hk := hk.trans (hb.mono hk.size)
    have hk2 := hk2.trans (hb.mono hk2.size)
    have at1 := at1.on hb
    obtain ⟨u2, hu2, hbu2, at2⟩ := atH_new x2 (n : Int) S1
    have hk := hk.trans (hbu2.mono hk.size)
    have hk2 := hk2.trans (hbu2.mono hk2.size)
    have at1 := at1.on hbu2
    clear hb hbu2
    go_wp2_with fail
    with_reducible refine (O3.out _ _ (HS3.out.below hk2)).mono ?_
    rintro e x3 ⟨rfl, hb⟩
    have hk := hk.trans (hb.mono hk.size)
    have hk2 := hk2.trans (hb.mono hk2.size)
    have at1 := at1.on hb
    have at2 := at2.on hb
    obtain ⟨u3, hu3, hbu3, at3⟩ := atH_new x3 (n : Int) S2
    have hk := hk.trans (hbu3.mono hk.size)
    have hk2 := hk2.trans (hbu3.mono hk2.size)
    have at1 := at1.on hbu3
    have at2 := at2.on hbu3
    clear hb hbu3
    have p2 := at2.c0
    have q2 := at2.c1
    have p3 := at3.c0
    have q3 := at3.c1
    go_wp2_with fail
    with_reducible refine (M1.out _).mono ?_
    rintro e x4 ⟨rfl, hb⟩
    have hk := hk.trans (hb.mono hk.size)
    have hk2 := hk2.trans (hb.mono hk2.size)
    have at1 := at1.on hb
    have at2 := at2.on hb
    have at3 := at3.on hb
    obtain ⟨u4, hu4, hbu4, at4⟩ := atH_new x4 (n : Int) S
    have hk := hk.trans (hbu4.mono hk.size)
    have hk2 := hk2.trans (hbu4.mono hk2.size)
    have at1 := at1.on hbu4
    have at2 := at2.on hbu4
    have at3 := at3.on hbu4
    clear hb hbu4
    clear p2 q2 p3 q3
    have p2 := at2.c0
    have q2 := at2.c1
    have p3 := at3.c0
    have q3 := at3.c1
    go_wp2_with fail
    with_reducible refine (M2.out _).mono ?_
    rintro e x5 ⟨rfl, hb⟩
    have hk := hk.trans (hb.mono hk.size)
    have hk2 := hk2.trans (hb.mono hk2.size)
    have at1 := at1.on hb
    have at2 := at2.on hb
    have at3 := at3.on hb
    have at4 := at4.on hb
    obtain ⟨u5, hu5, hbu5, at5⟩ := atH_new x5 (n : Int) S
    have hk := hk.trans (hbu5.mono hk.size)
    have hk2 := hk2.trans (hbu5.mono hk2.size)
    have at1 := at1.on hbu5
    have at2 := at2.on hbu5
    have at3 := at3.on hbu5
    have at4 := at4.on hbu5
    clear hb hbu5
    clear p2 q2 p3 q3
    have p4 := at4.c0
    have q4 := at4.c1
    go_wp2_with fail
    with_reducible refine (M3.out _).mono ?_
    rintro e x6 ⟨rfl, hb⟩
    have hk := hk.trans (hb.mono hk.size)
    have hk2 := hk2.trans (hb.mono hk2.size)
    have at1 := at1.on hb
    have at2 := at2.on hb
    have at3 := at3.on hb
    have at4 := at4.on hb
    have at5 := at5.on hb
    obtain ⟨u6, hu6, hbu6, at6⟩ := atH_new x6 (n : Int) S
    have hk := hk.trans (hbu6.mono hk.size)
    have hk2 := hk2.trans (hbu6.mono hk2.size)
    have at1 := at1.on hbu6
    have at2 := at2.on hbu6
    have at3 := at3.on hbu6
    have at4 := at4.on hbu6
    have at5 := at5.on hbu6
    clear hb hbu6
    clear p4 q4
    have p1 := at1.c0
    have q1 := at1.c1
    have p4 := at4.c0
    have q4 := at4.c1
    have p5 := at5.c0
    have q5 := at5.c1
    have p6 := at6.c0
    have q6 := at6.c1
    go_wp2_with fail
    go_ret
    exact ⟨by simp, hk⟩
  | false =>
    have hbb := not_okB hq
    go_enter Try.func5, Try.ntmps5
    go_wp2_with fail
    with_reducible refine (shown7_any _).mono ?_
    rintro e w1 ⟨rfl, hk⟩
    go_wp2_with fail
    with_reducible refine (FB.out _ (HV.out.below hk)).mono ?_
    rintro e w2 ⟨s2, rfl, hs2, rfl⟩
    obtain ⟨m, hmU⟩ : ∃ m, m = U.length := ⟨_, rfl⟩
    obtain ⟨m0, hcm, k, hck, hkn⟩ := clamp_of x0 m
    have hcmm : min x0 (m : Int) = m0 := by rw [← hcm]; split <;> omega
    have hckk : max 0 m0 = (k : Int) := by rw [← hck]; split <;> omega
    obtain ⟨src1, hr1, hs1⟩ := num_take hs2 k (by omega)
    obtain ⟨src2, hr2, hs3⟩ := num_drop hs2 k (by omega)
    have O1 := Lib.hid (fun W v h => kOf_bad hq U (by omega) HL.out v W h)
    have O2 := Lib.hid (fun W v h => kOf_bad hq (U.take k) (by rw [List.length_take]; omega) (fun x hx => HL.out x (List.mem_of_mem_take hx)) v W h)
    have O3 := Lib.hid (fun W v h => kOf_bad hq (U.drop k) (by rw [List.length_drop]; omega) (fun x hx => HL.out x (List.mem_of_mem_drop hx)) v W h)
    obtain ⟨ao, ac, rfl, _⟩ := hs2.shape
    have HS := Lib.hid hs2
    have HS1 := Lib.hid hs1
    have HS3 := Lib.hid hs3
    have HMU := Lib.hid hmU
    rw [← hmU] at hr1 hr2 HS lU ⊢
    have hk2 := Below.refl w2.heap.size w2
    clear hs1 hs2 hs3 hmU hq
    go_wp2_with fail
    with_reducible refine (O1.out _ _ HS.out).mono ?_
    rintro e x1 ⟨rfl, hb⟩
    have hk := (hk.trans (hb.mono hk.size)).alloc (hk.trans (hb.mono hk.size)).size (Obj.cells #[.int .i64 0, .string { data := #[] }] 23)
    have hk2 := (hk2.trans (hb.mono hk2.size)).alloc (hk2.trans (hb.mono hk2.size)).size (Obj.cells #[.int .i64 0, .string { data := #[] }] 23)
    clear hb
    go_wp2_with fail
    with_reducible refine (O2.out _ _ (HS1.out.below hk2)).mono ?_
    rintro e x2 ⟨rfl, hb⟩
    have hk := (hk.trans (hb.mono hk.size)).alloc (hk.trans (hb.mono hk.size)).size (Obj.cells #[.int .i64 0, .string { data := #[] }] 23)
    have hk2 := (hk2.trans (hb.mono hk2.size)).alloc (hk2.trans (hb.mono hk2.size)).size (Obj.cells #[.int .i64 0, .string { data := #[] }] 23)
    clear hb
    go_wp2_with fail
    with_reducible refine (O3.out _ _ (HS3.out.below hk2)).mono ?_
    rintro e x3 ⟨rfl, hb⟩
    have hk := (hk.trans (hb.mono hk.size)).alloc (hk.trans (hb.mono hk.size)).size (Obj.cells #[.int .i64 0, .string { data := #[] }] 23)
    have hk2 := (hk2.trans (hb.mono hk2.size)).alloc (hk2.trans (hb.mono hk2.size)).size (Obj.cells #[.int .i64 0, .string { data := #[] }] 23)
    clear hb
    by_cases hb3 : b < 3
    · go_wp2_with fail
      go_ret
      exact ⟨by simp; try omega, hk⟩
    · have hb8 : 8 < b := by omega
      go_wp2_with fail
      go_ret
      exact ⟨by simp; try omega, hk⟩
end Go.Proofs.Ytnljepnmajcmgaa
