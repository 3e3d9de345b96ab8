/- Package hll: Lower. -/
import Derived.Test.YtnljepnmajcmgaaHCMg
namespace Go.Proofs.Ytnljepnmajcmgaa
open Go.RowKit Go.Shelf

/-- All registers but the first. -/
theorem regS_tail (R : List Nat) (h : 0 < R.length) : (regS R).extract 1 (regS R).size = regS (R.drop 1) := by
  cases R with
  | nil => simp at h
  | cons r t =>
    have e1 : (regS (r :: t)).extract 1 (regS (r :: t)).size = ⟨((regS (r :: t)).data.extract 1 (regS (r :: t)).size)⟩ := by
      apply ByteArray.ext
      simp
    rw [e1]
    apply ByteArray.ext
    simp [regS, ByteArray.size]
    exact List.take_of_length_le (by simp)
theorem pair_low (R : List Nat) (m : Nat) (h : R.length = 2 * m) : (pairL 2 m R (R.drop 1)).map (fun p => lowC p.1 p.2) = lowR R := by
  unfold lowR
  rw [h, Nat.mul_div_cancel_left _ (by decide : 0 < 2)]
  unfold pairL
  rw [List.map_map]
  refine List.map_congr_left fun i hi => ?_
  have hi : i < m := List.mem_range.1 hi
  simp only [Function.comp]
  rw [List.getD_eq_getElem?_getD (l := R.drop 1), List.getElem?_drop, Nat.add_comm 1 (2 * i), ← List.getD_eq_getElem?_getD]
theorem low_byte {R : List Nat} (hR : ∀ r ∈ R, r < 255) : byteL (lowR R) := by
  intro r hr
  obtain ⟨i, hi, rfl⟩ := List.mem_map.1 hr
  have h1 : ∀ j, R.getD j 0 < 255 := fun j => by
    rw [List.getD_eq_getElem?_getD]
    cases hj : R[j]? with
    | none => simp
    | some x => simp only [Option.getD_some]; exact hR x (List.mem_of_getElem? hj)
  have := h1 (2 * i)
  unfold lowC
  split <;> split <;> omega
set_option maxHeartbeats 4000000 in
set_option maxRecDepth 100000 in
theorem lower_any (b : Int) (R : List Nat) (w : World) (hR : byteL R) (hn : R.length ≤ 300) :
    Calls Try.prog 38 #[.agg #[.int .i64 b, .string (regS R)]] w fun e w' => (∃ x u, e = .returned (.tuple #[x, u]) ∧ ResV (rightR b R && decide (b ≠ 3)) (b - 1) (lowR R) x u) ∧ Below w.heap.size w w' := by
  obtain ⟨W0, hW0⟩ : ∃ W0, W0 = (w.alloc (Obj.cells #[.int .i64 b, .string (regS R)] 23)).alloc (Obj.cells #[.int .i64 0, .string { data := #[] }] 23) := ⟨_, rfl⟩
  have hz0 : W0.heap.size = w.heap.size + 2 := by rw [hW0]; simp
  have hb0 : Below w.heap.size w W0 := by rw [hW0]; exact ((Below.refl w.heap.size w).alloc (Nat.le_refl _) _).alloc (by simp) _
  have hx0 : HasC W0 w.heap.size 23 #[.int .i64 b, .string (regS R)] := by rw [hW0]; exact (HasC.new w _ _).alloc _
  have hr0 : HasC W0 (w.heap.size + 1) 23 #[.int .i64 0, .string { data := #[] }] := by rw [hW0]; exact HasC.at_ _ _ _ (by simp)
  have C1 := Lib.hid (check1_any b R W0 hR hn)
  have HB := Lib.hid (hb0.alloc (by omega) (Obj.cells #[.int .i64 b, .string (regS R)] 23))
  have HX := Lib.hid (hx0.alloc (Obj.cells #[.int .i64 b, .string (regS R)] 23))
  have HR := Lib.hid (hr0.alloc (Obj.cells #[.int .i64 b, .string (regS R)] 23))
  have HZ := Lib.hid hz0
  rw [hz0] at C1
  subst hW0
  clear hb0 hx0 hr0 hz0
  cases hq : rightR b R with
  | false =>
    rw [hq] at C1
    clear hq
    go_enter Try.func38, Try.ntmps38
    go_wp2_with fail
    with_reducible refine (C1.out).mono ?_
    rintro e w2 ⟨⟨u, rfl, hu⟩, hb⟩
    rcases hu with ⟨hu, _⟩ | ⟨_, s, rfl⟩
    · cases hu
    have hb2 := HB.out.trans (hb.mono (by omega))
    have hr2 := HR.out.below hb (by omega)
    have c0 := hr2.cell 0
    have c1 := hr2.cell 1
    have z0 := hr2.frozen 0
    have z1 := hr2.frozen 1
    have HR2 := Lib.hid hr2
    clear hb hr2
    go_wp2_with fail
    refine bodyPost_ret (results_hll rfl _ _ (w.heap.size + 1) _ _ rfl (((HR2.out.set 0 (.int .i64 0)).set 1 (.string { data := #[] })).eq (cs' := #[.int .i64 0, .string { data := #[] }]) rfl)) rfl ?_
    exact ⟨⟨_, _, rfl, .inr ⟨rfl, rfl, _, rfl⟩⟩, (hb2.setCell (p := ⟨w.heap.size + 1, 0, none⟩) (by simp) _).setCell (p := ⟨w.heap.size + 1, 1, none⟩) (by simp) _⟩
  | true =>
    rw [hq] at C1
    by_cases hn3 : b = 3
    · rw [show decide (b ≠ 3) = false from decide_eq_false (by simp [hn3])]
      have hne : (b == 3) = true := by simp [hn3]
      clear hq hn3
      go_enter Try.func38, Try.ntmps38
      go_wp2_with fail
      with_reducible refine (C1.out).mono ?_
      rintro e w2 ⟨⟨u, rfl, hu⟩, hb⟩
      rcases hu with ⟨_, rfl⟩ | ⟨hu, _⟩
      case inr => cases hu
      have hb2 := HB.out.trans (hb.mono (by omega))
      have hr2 := HR.out.below hb (by omega)
      have hx2 := HX.out.below hb (by omega)
      have c0 := hr2.cell 0
      have c1 := hr2.cell 1
      have z0 := hr2.frozen 0
      have z1 := hr2.frozen 1
      have d0 := hx2.cell 0
      have HR2 := Lib.hid hr2
      clear hb hr2 hx2
      go_wp2_with fail
      refine bodyPost_ret (results_hll rfl _ _ (w.heap.size + 1) _ _ rfl (((HR2.out.set 0 (.int .i64 0)).set 1 (.string { data := #[] })).eq (cs' := #[.int .i64 0, .string { data := #[] }]) rfl)) rfl ?_
      exact ⟨⟨_, _, rfl, .inr ⟨rfl, rfl, _, rfl⟩⟩, (hb2.setCell (p := ⟨w.heap.size + 1, 0, none⟩) (by simp) _).setCell (p := ⟨w.heap.size + 1, 1, none⟩) (by simp) _⟩
    · obtain ⟨n, rfl, h3, h8, hlen, hle⟩ := right_parts7 hq
      obtain ⟨n1, hn1⟩ : ∃ n1, n = n1 + 1 := ⟨n - 1, by omega⟩
      have hne : ((n : Int) == 3) = false := by simp; omega
      have hsub : ((n : Int) - 1) = (n1 : Int) := by omega
      rw [show decide ((n : Int) ≠ 3) = true from decide_eq_true (by omega), hsub]
      have hlm : R.length = 2 * 2 ^ n1 := by rw [hlen, hn1, Nat.pow_succ, Nat.mul_comm]
      obtain ⟨m, hm⟩ : ∃ m, m = 2 ^ n1 := ⟨_, rfl⟩
      rw [← hm] at hlm
      have hm1 : 1 ≤ m := by rw [hm]; exact Nat.two_pow_pos _
      have hle' : ∀ r ∈ R, r < 255 := fun r hr => by have := hle r hr; omega
      have HLE := Lib.hid hle'
      have HLM := Lib.hid hlm
      have HM1 := Lib.hid hm1
      have hw1 : wrap64 ((n : Int) - 1) = (n1 : Int) := by unfold wrap64; omega
      clear hq hlen hle hlm hm hm1 hle' hsub hn1 hn3 h3 h8
      go_enter Try.func38, Try.ntmps38
      go_wp2_with fail
      with_reducible refine (C1.out).mono ?_
      rintro e w2 ⟨⟨u, rfl, hu⟩, hb⟩
      rcases hu with ⟨_, rfl⟩ | ⟨hu, _⟩
      case inr => cases hu
      have hb2 := HB.out.trans (hb.mono (by omega))
      have hr2 := HR.out.below hb (by omega)
      have hx2 := HX.out.below hb (by omega)
      have c0 := hx2.cell 0
      have d1 := (hx2.alloc (.cells #[.int .i64 n1, .string { data := #[] }, .slice none 0 0, fLowered] 63)).cell 1
      have hst := store_lowered w2 (n1 : Int) { data := #[] } (.slice none 0 0)
      have hlt2 : w.heap.size + 1 < w2.heap.size := hr2.lt
      have HR2 := Lib.hid hr2
      have HX2 := Lib.hid hx2
      have HB2 := Lib.hid hb2
      have HL2 := Lib.hid hlt2
      clear hb hr2 hb2 hx2 hlt2
      obtain ⟨W5, hW5⟩ : ∃ W5, W5 = w2.alloc (.cells #[.int .i64 n1, .string { data := #[] }, .slice none 0 0, fLowered] 63) := ⟨_, rfl⟩
      have h5 : W5.heap.size = w2.heap.size + 1 := by rw [hW5]; simp
      have hk5 : WkC W5 w2.heap.size (n1 : Int) { data := #[] } (.slice none 0 0) fLowered := by rw [hW5]; exact HasC.new w2 _ _
      have hb5 : Below w2.heap.size w2 W5 := by rw [hW5]; exact (Below.refl _ w2).alloc (Nat.le_refl _) _
      have HW5 := Lib.hid hW5
      have HS5 := Lib.hid h5
      have HK5 := Lib.hid hk5
      have HB5 := Lib.hid hb5
      rw [← hW5] at d1
      clear hW5 h5 hk5 hb5
      go_wp2_with fail
      rw [← HW5.out]
      have E1 : ∀ i : InC (DrN W5), i.w.cell? ⟨w.heap.size, 1, none⟩ = some (.string (regS R)) := fun ⟨_, _, h⟩ => by subst h; exact d1
      have hsz : 1 ≤ (regS R).size := by rw [regS_size]; have := HLM.out; have := HM1.out; omega
      refine region_tail 5 (DrN W5) (by kernel_rfl) (by kernel_rfl) ⟨1, rfl⟩ ?_
      intro hne2
      simp only [List.take_succ_cons, List.take_zero]
      repeat (go_big_quiet_step (fail))
      refine wpQuiet_nil ?_
      rw [regS_tail R (by have := HLM.out; have := HM1.out; omega)]
      obtain ⟨S, hSd⟩ : ∃ S, R.drop 1 = S := ⟨_, rfl⟩
      rw [hSd]
      have HSD := Lib.hid hSd
      clear hSd
      intro i
      simp only [List.drop_succ_cons, List.drop_zero]
      obtain ⟨V5, dn, hV5⟩ := i
      have h5 : V5.heap.size = w2.heap.size + 1 := by rw [hV5]; exact HS5.out
      have hk5 : WkC V5 w2.heap.size (n1 : Int) { data := #[] } (.slice none 0 0) fLowered := by rw [hV5]; exact HK5.out
      have hb5 : Below w2.heap.size w2 V5 := by rw [hV5]; exact bel_drewN HB5.out dn
      dsimp only
      clear hV5 E1 d1 hne2 hst
      have P0 : Calls Try.prog 46 #[.string (regS R), .string (regS S), .int .i64 2] V5 _ := pairs_any (regS R) (regS S) 2 V5
      obtain ⟨W6, hW6⟩ : ∃ W6, W6 = ((V5.alloc (.cells #[.string (regS R)] 9)).alloc (.cells #[.string (regS S)] 9)).alloc (.cells #[.int .i64 ((2 : Nat) : Int)] 3) := ⟨_, rfl⟩
      have h6 : W6.heap.size = V5.heap.size + 3 := by rw [hW6]; simp
      have hb6 : Below V5.heap.size V5 W6 := by rw [hW6]; exact (((Below.refl _ V5).alloc (Nat.le_refl _) _).alloc (by simp) _).alloc (by simp; omega) _
      have hbox := fun V h => pairs_boxes V5 V (regS R) (regS S) 2 h
      rw [← hW6] at P0 hbox
      have hdl : S.length = R.length - 1 := by rw [← HSD.out, List.length_drop]
      have hmm : ∀ i, i < m ↔ 2 * i < min R.length S.length := fun i => by have := HLM.out; have := HM1.out; omega
      have hbd : byteL S := fun r hr => hR r (List.mem_of_mem_drop (by rw [HSD.out]; exact hr))
      have hfn : ∀ p ∈ pairL 2 m R S, ∀ W, Calls Try.prog 47 #[.int .u8 (p.1 : Int), .int .u8 (p.2 : Int)] W fun e w' => e = .returned (.int .u8 ((lowC p.1 p.2 : Nat) : Int)) ∧ w' = W := fun p hp W => by
        refine lowered_any p.1 p.2 W ?_
        obtain ⟨i, _, rfl⟩ := List.mem_map.1 hp
        show R.getD (2 * i) 0 < 255
        rw [List.getD_eq_getElem?_getD]
        cases hj : R[2 * i]? with
        | none => simp
        | some x => simp only [Option.getD_some]; exact HLE.out x (List.mem_of_getElem? hj)
      have J0 := join_any w2.heap.size (n1 : Int) { data := #[] } #[.pointer (some ⟨V5.heap.size, 0, none⟩), .pointer (some ⟨V5.heap.size + 1, 0, none⟩), .pointer (some ⟨V5.heap.size + 2, 0, none⟩)] (pairL 2 m R S) _ (each_pairs V5.heap.size (V5.heap.size + 1) (V5.heap.size + 2) 2 m R S hR hbd (by decide) (by decide) hn hmm)
        47 lowC hfn (enters_of Try.func47 (by kernel_rfl) rfl) W6 (hk5.below hb6 (by omega)) (fun V hV => hbox V fun j h1 h2 => hV j (by omega) (by omega)) (by rw [pair_len]; have := HLM.out; omega)
      rw [pair_len, show (pairL 2 m R S).map (fun p => lowC p.1 p.2) = lowR R by rw [← HSD.out]; exact pair_low R m HLM.out] at J0
      obtain ⟨B1, hB1⟩ : ∃ B1, B1 = V5.heap.size := ⟨_, rfl⟩
      obtain ⟨B2, hB2⟩ : ∃ B2, B2 = V5.heap.size + 1 := ⟨_, rfl⟩
      obtain ⟨B3, hB3⟩ : ∃ B3, B3 = V5.heap.size + 2 := ⟨_, rfl⟩
      rw [← hB3, ← hB2, ← hB1] at P0 J0
      have HP := Lib.hid P0
      have HJ := Lib.hid J0
      have hl2 := HL2.out
      have hr6 := (HR2.out.below hb5 (by omega)).below hb6 (by omega)
      have hb26 : Below w.heap.size w W6 := (HB2.out.trans (hb5.mono (by omega))).trans (hb6.mono (by omega))
      have HR6 := Lib.hid hr6
      have HB6 := Lib.hid hb26
      have HS6 : Hid (w2.heap.size + 4 = W6.heap.size) := by show _ = _; omega
      clear hk5 hb5 hb6 h5 h6 hbox hmm P0 J0 hB1 hB2 hB3 hW6 hr6 hb26 hl2 hdl hbd hfn
      go_wp2_with fail
      with_reducible refine (HP.out).mono ?_
      rintro e w3 ⟨rfl, rfl⟩
      go_wp2_with fail
      with_reducible refine (HJ.out).mono ?_
      rintro e w4 ⟨⟨u, rfl⟩, ⟨v, hwk, hown⟩, hoth, hsz4, hb4⟩
      obtain ⟨hml, g, cap, rfl, hgB, hrow⟩ := bytC_owns hown (by have := HM1.out; omega)
      have hl2 := HL2.out
      have hs6 := HS6.out
      have hr4 : HasC w4 (w.heap.size + 1) 23 #[.int .i64 0, .string { data := #[] }] := (hoth _ (by omega) (by omega)).trans HR6.out
      have hbw4 : Below w.heap.size w w4 := HB6.out.trans (hb4.mono (by omega))
      have HD := Lib.hid (done_row (n1 : Int) { data := #[] } fLowered w2.heap.size g m cap (lowR R) w4 hwk hrow (low_byte HLE.out) hml)
      have HR4 := Lib.hid hr4
      have HB4 := Lib.hid hbw4
      clear hr4 hbw4 hwk hown hoth hsz4 hb4 hrow hgB hl2 hs6 hml
      go_wp2_with fail
      with_reducible refine (HD.out).mono ?_
      rintro e w7 ⟨rfl, hb7⟩
      have hl2 := HL2.out
      have hr7 := HR4.out.below hb7 (by omega)
      have hbw7 : Below w.heap.size w w7 := HB4.out.trans (hb7.mono (by omega))
      have c0 := hr7.cell 0
      have c1 := hr7.cell 1
      have z0 := hr7.frozen 0
      have z1 := hr7.frozen 1
      have HR7 := Lib.hid hr7
      clear hr7 hb7 hl2
      unfold hV
      go_wp2_with fail
      refine bodyPost_ret (results_hll rfl _ _ (w.heap.size + 1) _ _ rfl (((HR7.out.set 0 (.int .i64 n1)).set 1 (.string (regS (lowR R)))).eq (cs' := #[.int .i64 n1, .string (regS (lowR R))]) rfl)) rfl ?_
      exact ⟨⟨_, _, rfl, .inl ⟨rfl, rfl, rfl⟩⟩, (hbw7.setCell (p := ⟨w.heap.size + 1, 0, none⟩) (by simp) _).setCell (p := ⟨w.heap.size + 1, 1, none⟩) (by simp) _⟩
set_option maxHeartbeats 4000000 in
set_option maxRecDepth 100000 in
theorem hLower_any (b : Int) (R : List Nat) (w : World) (hR : byteL R) (hn : R.length ≤ 300) :
    Calls Try.prog 25 #[.agg #[.int .i64 b, .string (regS R)]] w fun e w' => e = .returned (hT (lowerH b R)) ∧ Below w.heap.size w w' := by
  have hb0 := ((Below.refl w.heap.size w).alloc (Nat.le_refl _) (Obj.cells #[.int .i64 b, .string (regS R)] 23)).alloc (by simp) (Obj.cells #[.int .i64 0, .string { data := #[] }] 23)
  have hr0 : HasC ((w.alloc (Obj.cells #[.int .i64 b, .string (regS R)] 23)).alloc (Obj.cells #[.int .i64 0, .string { data := #[] }] 23)) (w.heap.size + 1) 23 #[.int .i64 0, .string { data := #[] }] := HasC.at_ _ _ _ (by simp)
  have A1 := lower_any b R ((w.alloc (Obj.cells #[.int .i64 b, .string (regS R)] 23)).alloc (Obj.cells #[.int .i64 0, .string { data := #[] }] 23)) hR hn
  have hP : lowerH b R = if (rightR b R && decide (b ≠ 3)) then ((b - 1, lowR R), 0) else badR := rfl
  rw [hP]
  obtain ⟨ok, hok⟩ : ∃ ok, (rightR b R && decide (b ≠ 3)) = ok := ⟨_, rfl⟩
  obtain ⟨T, hT'⟩ : ∃ T, lowR R = T := ⟨_, rfl⟩
  rw [hok, hT'] at A1
  rw [hok, hT']
  have HB := Lib.hid hb0
  have HR := Lib.hid hr0
  have HA := Lib.hid A1
  have HT := Lib.hid (told_any ok (b - 1) T)
  obtain ⟨P, hPP⟩ : ∃ P, (if ok then ((b - 1, T), 0) else badR) = P := ⟨_, rfl⟩
  rw [hPP] at HT ⊢
  obtain ⟨pc, ps, pe, hpp⟩ := hT_parts P
  rw [hpp] at HT ⊢
  clear hb0 hr0 A1 hP hok hT' hR hn hPP hpp
  go_enter Try.func25, Try.ntmps25
  go_wp2_with fail
  with_reducible refine (HA.out).mono ?_
  rintro e w2 ⟨⟨xv, uv, rfl, hres⟩, hb⟩
  obtain ⟨⟨sc, ss, rfl⟩, hu⟩ := hres.shape
  have HT2 := Lib.hid (HT.out _ _ hres w2)
  have hb2 := HB.out.trans (hb.mono HB.out.size)
  have hr2 := HR.out.below hb HR.out.lt
  have HR2 := Lib.hid hr2
  have HB2 := Lib.hid hb2
  clear hb hres hr2 hb2
  have fin : ∀ w3, Below w2.heap.size w2 w3 → HasC w3 (w.heap.size + 1) 23 #[.int .i64 0, .string { data := #[] }] ∧ Below w.heap.size w w3 := fun w3 hb => ⟨HR2.out.below hb HR2.out.lt, HB2.out.trans (hb.mono HB2.out.size)⟩
  have FIN := Lib.hid fin
  clear fin
  rcases hu with rfl | ⟨s, rfl⟩
  all_goals
    go_wp2_with fail
    with_reducible refine (HT2.out).mono ?_
    rintro e w3 ⟨rfl, hb⟩
    obtain ⟨hr3, hb3⟩ := FIN.out w3 hb
    have c0 := hr3.cell 0
    have c1 := hr3.cell 1
    have z0 := hr3.frozen 0
    have z1 := hr3.frozen 1
    have HR3 := Lib.hid hr3
    clear hr3 hb
    go_wp2_with fail
    refine bodyPost_ret (results_hll rfl _ _ (w.heap.size + 1) _ _ rfl (((HR3.out.set 0 (.int .i64 pc)).set 1 (.string ps)).eq (cs' := #[.int .i64 pc, .string ps]) rfl)) rfl ?_
    exact ⟨rfl, (hb3.setCell (p := ⟨w.heap.size + 1, 0, none⟩) (by simp) _).setCell (p := ⟨w.heap.size + 1, 1, none⟩) (by simp) _⟩
end Go.Proofs.Ytnljepnmajcmgaa
