/- Package hll: Merge. -/
import Derived.Test.YtnljepnmajcmgaaHCJn
namespace Go.Proofs.Ytnljepnmajcmgaa
open Go.RowKit Go.Shelf

theorem join_any (gW : Nat) (b : Int) (s : ByteArray) (caps : Array Value) (L : List (Nat × Nat)) (G : World → Prop) (hit : IterOk 51 caps encP L G)
    (fn : Nat) (Fm : Nat → Nat → Nat) (hfn : ∀ p ∈ L, ∀ W, Calls Try.prog fn #[.int .u8 (p.1 : Int), .int .u8 (p.2 : Int)] W fun e w' => e = .returned (.int .u8 (Fm p.1 p.2 : Int)) ∧ w' = W)
    (heg : ∀ args w, (callFunc fn args).run Try.prog w = .ok (.enter fn args) w)
    (w : World) (hW : WkC w gW b s (.slice none 0 0) (.func (.func fn) #[] #[])) (hG : ∀ W, (∀ j, j < w.heap.size → j ≠ gW → W.heap[j]? = w.heap[j]?) → G W) (hLn : L.length ≤ 1000) :
    Calls Try.prog 45 #[.pointer (some ⟨gW, 0, none⟩), .func (.func 51) #[] caps] w fun e w' => (∃ u, e = .returned u) ∧ (∃ v, WkC w' gW b s v (.func (.func fn) #[] #[]) ∧ w'.ownsRow w.heap.size 5 1 v L.length (rowB (L.map fun p => Fm p.1 p.2))) ∧ (∀ j, j < w.heap.size → j ≠ gW → w'.heap[j]? = w.heap[j]?) ∧ w.heap.size ≤ w'.heap.size ∧ Below gW w w' :=
  callsIn_wide.1 (join_in 5 (by decide) gW b s caps L G hit fn Fm hfn heg w hW hG hLn)
/-- A row of ranks of one's own, as a row of bytes. -/
theorem bytC_owns {w : World} {B : Nat} {v : Value} {k : Nat} {X : List Nat} (h : w.ownsRow B 5 1 v k (rowB X)) (hk : 0 < k) : k = X.length ∧ ∃ g cap, v = .slice (some ⟨g, 0, none⟩) k cap ∧ B ≤ g ∧ BytC w g X := by
  have hlen : k = X.length := by
    have := h.1
    rw [rowB_len, Nat.mul_one] at this
    exact this.symm
  refine ⟨hlen, ?_⟩
  rcases h.2 with ⟨_, h0⟩ | ⟨g, cap, cur, hv, hB, hg, _, _, _, htk⟩
  · omega
  · refine ⟨g, cap, hv, hB, (Array.getElem?_eq_some_iff.1 hg).1, fun j hj => ⟨?_, by simp [World.frozen?, hg]⟩⟩
    rw [cell_of_row w g j cur 5 (0, 0) hg]
    have h1 : (rowB X)[j]? = some (.int .u8 (X[j] : Int)) := by simp [rowB, hj]
    rw [← htk, List.getElem?_take, if_pos (by omega)] at h1
    simpa using h1
theorem pair_max (R S : List Nat) (h : R.length = S.length) : (pairL 1 R.length R S).map (fun p => max p.1 p.2) = maxR R S := by
  unfold maxR
  refine List.ext_getElem (by simp [pair_len, h]) fun i h1 h2 => ?_
  have hi : i < R.length := by simpa [pair_len] using h1
  have hi2 : i < S.length := by omega
  rw [List.getElem_map, List.getElem_zipWith]
  have : (pairL 1 R.length R S)[i]'(by rw [pair_len]; exact hi) = (R.getD (1 * i) 0, S.getD (1 * i) 0) := pair_at 1 R.length R S i (by rw [pair_len]; exact hi)
  rw [this, Nat.one_mul, List.getD_eq_getElem?_getD, List.getD_eq_getElem?_getD, List.getElem?_eq_getElem hi, List.getElem?_eq_getElem hi2, Option.getD_some, Option.getD_some]
theorem max_byte {R S : List Nat} (hR : byteL R) (hS : byteL S) : byteL (maxR R S) := by
  intro r hr
  obtain ⟨i, hi, rfl⟩ := List.mem_iff_getElem.1 hr
  have hl : i < R.length ∧ i < S.length := by
    have : i < min R.length S.length := by simpa [maxR] using hi
    omega
  have h1 := hR _ (List.getElem_mem hl.1)
  have h2 := hS _ (List.getElem_mem hl.2)
  simp only [maxR, List.getElem_zipWith]
  omega
/-- The cells that pairs read. -/
theorem pairs_boxes (W V : World) (s t : ByteArray) (st : Nat)
    (h : ∀ j, W.heap.size ≤ j → j < W.heap.size + 3 → V.heap[j]? = (((W.alloc (.cells #[.string s] 9)).alloc (.cells #[.string t] 9)).alloc (.cells #[.int .i64 (st : Int)] 3)).heap[j]?) :
    V.cell? ⟨W.heap.size, 0, none⟩ = some (.string s) ∧ V.cell? ⟨W.heap.size + 1, 0, none⟩ = some (.string t) ∧ V.cell? ⟨W.heap.size + 2, 0, none⟩ = some (.int .i64 (st : Int)) := by
  have a1 : HasC (((W.alloc (.cells #[.string s] 9)).alloc (.cells #[.string t] 9)).alloc (.cells #[.int .i64 (st : Int)] 3)) W.heap.size 9 #[.string s] := ((HasC.new W _ _).alloc _).alloc _
  have a2 : HasC (((W.alloc (.cells #[.string s] 9)).alloc (.cells #[.string t] 9)).alloc (.cells #[.int .i64 (st : Int)] 3)) (W.heap.size + 1) 9 #[.string t] := (HasC.at_ _ _ _ (by simp)).alloc _
  have a3 : HasC (((W.alloc (.cells #[.string s] 9)).alloc (.cells #[.string t] 9)).alloc (.cells #[.int .i64 (st : Int)] 3)) (W.heap.size + 2) 3 #[.int .i64 (st : Int)] := HasC.at_ _ _ _ (by simp)
  exact ⟨(World.cell?_of_block (a := ⟨W.heap.size, 0, none⟩) (h W.heap.size (by omega) (by omega))).trans (a1.cell 0), (World.cell?_of_block (a := ⟨W.heap.size + 1, 0, none⟩) (h (W.heap.size + 1) (by omega) (by omega))).trans (a2.cell 0), (World.cell?_of_block (a := ⟨W.heap.size + 2, 0, none⟩) (h (W.heap.size + 2) (by omega) (by omega))).trans (a3.cell 0)⟩
set_option maxHeartbeats 4000000 in
set_option maxRecDepth 100000 in
theorem merge_any (b : Int) (R : List Nat) (c : Int) (S : List Nat) (w : World) (hR : byteL R) (hS : byteL S) (hn : R.length ≤ 300) (hm : S.length ≤ 300) :
    Calls Try.prog 37 #[.agg #[.int .i64 b, .string (regS R)], .agg #[.int .i64 c, .string (regS S)]] w fun e w' => (∃ x u, e = .returned (.tuple #[x, u]) ∧ ResV (rightR b R && (rightR c S && decide (b = c))) b (maxR R S) x u) ∧ Below w.heap.size w w' := by
  obtain ⟨W0, hW0⟩ : ∃ W0, W0 = ((w.alloc (Obj.cells #[.int .i64 b, .string (regS R)] 23)).alloc (Obj.cells #[.int .i64 c, .string (regS S)] 23)).alloc (Obj.cells #[.int .i64 0, .string { data := #[] }] 23) := ⟨_, rfl⟩
  have hz0 : W0.heap.size = w.heap.size + 3 := by rw [hW0]; simp
  have hb0 : Below w.heap.size w W0 := by rw [hW0]; exact (((Below.refl w.heap.size w).alloc (Nat.le_refl _) _).alloc (by simp) _).alloc (by simp; omega) _
  have hx0 : HasC W0 w.heap.size 23 #[.int .i64 b, .string (regS R)] := by rw [hW0]; exact ((HasC.new w _ _).alloc _).alloc _
  have hy0 : HasC W0 (w.heap.size + 1) 23 #[.int .i64 c, .string (regS S)] := by rw [hW0]; exact (HasC.at_ _ _ _ (by simp)).alloc _
  have hr0 : HasC W0 (w.heap.size + 2) 23 #[.int .i64 0, .string { data := #[] }] := by rw [hW0]; exact HasC.at_ _ _ _ (by simp)
  have C1 := Lib.hid (check2_any b R c S W0 hR hn hS hm)
  have HB := Lib.hid (hb0.alloc (by omega) (Obj.cells #[.int .i64 b, .string (regS R), .int .i64 c, .string (regS S)] 23))
  have HX := Lib.hid (hx0.alloc (Obj.cells #[.int .i64 b, .string (regS R), .int .i64 c, .string (regS S)] 23))
  have HY := Lib.hid (hy0.alloc (Obj.cells #[.int .i64 b, .string (regS R), .int .i64 c, .string (regS S)] 23))
  have HR := Lib.hid (hr0.alloc (Obj.cells #[.int .i64 b, .string (regS R), .int .i64 c, .string (regS S)] 23))
  have HZ := Lib.hid hz0
  rw [hz0] at C1
  subst hW0
  clear hb0 hx0 hy0 hr0 hz0
  cases hq : (rightR b R && (rightR c S && decide (b = c))) with
  | false =>
    rw [hq] at C1
    clear hq
    go_enter Try.func37, Try.ntmps37
    go_wp2_with fail
    with_reducible refine (C1.out).mono ?_
    rintro e w2 ⟨⟨u, rfl, hu⟩, hb⟩
    rcases hu with ⟨hu, _⟩ | ⟨_, s, rfl⟩
    · cases hu
    have hb2 := HB.out.trans (hb.mono (by omega))
    have hr2 := HR.out.below hb (by omega)
    have c0 := hr2.cell 0
    have c1 := hr2.cell 1
    have z0 := hr2.frozen 0
    have z1 := hr2.frozen 1
    have HR2 := Lib.hid hr2
    clear hb hr2
    go_wp2_with fail
    refine bodyPost_ret (results_hll rfl _ _ (w.heap.size + 2) _ _ rfl (((HR2.out.set 0 (.int .i64 0)).set 1 (.string { data := #[] })).eq (cs' := #[.int .i64 0, .string { data := #[] }]) rfl)) rfl ?_
    exact ⟨⟨_, _, rfl, .inr ⟨rfl, rfl, _, rfl⟩⟩, (hb2.setCell (p := ⟨w.heap.size + 2, 0, none⟩) (by simp) _).setCell (p := ⟨w.heap.size + 2, 1, none⟩) (by simp) _⟩
  | true =>
    rw [hq] at C1
    obtain ⟨hq1, hq23⟩ := (Bool.and_eq_true _ _).mp hq
    obtain ⟨hq2, hq3⟩ := (Bool.and_eq_true _ _).mp hq23
    have hbc : b = c := of_decide_eq_true hq3
    subst hbc
    obtain ⟨n, rfl, h3, h8, hlen, _⟩ := right_parts7 hq1
    obtain ⟨n', hnn, _, _, hlen2, _⟩ := right_parts7 hq2
    obtain rfl : n = n' := by omega
    have hll : R.length = S.length := by rw [hlen, hlen2]
    have hp8 : 8 ≤ R.length := by rw [hlen]; exact Nat.pow_le_pow_right (show 0 < 2 by decide) h3
    have HLL := Lib.hid hll
    have HP8 := Lib.hid hp8
    clear hq hq1 hq23 hq2 hq3 hlen hlen2 hnn hll hp8 h3 h8
    go_enter Try.func37, Try.ntmps37
    go_wp2_with fail
    with_reducible refine (C1.out).mono ?_
    rintro e w2 ⟨⟨u, rfl, hu⟩, hb⟩
    rcases hu with ⟨_, rfl⟩ | ⟨hu, _⟩
    case inr => cases hu
    have hb2 := HB.out.trans (hb.mono (by omega))
    have hr2 := HR.out.below hb (by omega)
    have hx2 := HX.out.below hb (by omega)
    have hy2 := HY.out.below hb (by omega)
    have c0 := hx2.cell 0
    have c1 := hx2.cell 1
    have d1 := (hx2.alloc (.cells #[.int .i64 n, .string { data := #[] }, .slice none 0 0, fGreater] 63)).cell 1
    have d3 := (hy2.alloc (.cells #[.int .i64 n, .string { data := #[] }, .slice none 0 0, fGreater] 63)).cell 1
    have hst := store_greater w2 (n : Int) { data := #[] } (.slice none 0 0)
    have hlt2 : w.heap.size + 2 < w2.heap.size := hr2.lt
    have HR2 := Lib.hid hr2
    have HB2 := Lib.hid hb2
    have HL2 := Lib.hid hlt2
    clear hb hr2 hb2 hx2 hy2 hlt2
    obtain ⟨W5, hW5⟩ : ∃ W5, W5 = w2.alloc (.cells #[.int .i64 n, .string { data := #[] }, .slice none 0 0, fGreater] 63) := ⟨_, rfl⟩
    have h5 : W5.heap.size = w2.heap.size + 1 := by rw [hW5]; simp
    have hk5 : WkC W5 w2.heap.size (n : Int) { data := #[] } (.slice none 0 0) fGreater := by rw [hW5]; exact HasC.new w2 _ _
    have hb5 : Below w2.heap.size w2 W5 := by rw [hW5]; exact (Below.refl _ w2).alloc (Nat.le_refl _) _
    have P0 : Calls Try.prog 46 #[.string (regS R), .string (regS S), .int .i64 1] W5 _ := pairs_any (regS R) (regS S) 1 W5
    obtain ⟨W6, hW6⟩ : ∃ W6, W6 = ((W5.alloc (.cells #[.string (regS R)] 9)).alloc (.cells #[.string (regS S)] 9)).alloc (.cells #[.int .i64 ((1 : Nat) : Int)] 3) := ⟨_, rfl⟩
    have h6 : W6.heap.size = W5.heap.size + 3 := by rw [hW6]; simp
    have hb6 : Below W5.heap.size W5 W6 := by rw [hW6]; exact (((Below.refl _ W5).alloc (Nat.le_refl _) _).alloc (by simp) _).alloc (by simp; omega) _
    have hbox := fun V h => pairs_boxes W5 V (regS R) (regS S) 1 h
    rw [← hW6] at P0 hbox
    have hmm : ∀ i, i < R.length ↔ 1 * i < min R.length S.length := fun i => by have := HLL.out; omega
    have J0 := join_any w2.heap.size (n : Int) { data := #[] } #[.pointer (some ⟨W5.heap.size, 0, none⟩), .pointer (some ⟨W5.heap.size + 1, 0, none⟩), .pointer (some ⟨W5.heap.size + 2, 0, none⟩)] (pairL 1 R.length R S) _ (each_pairs W5.heap.size (W5.heap.size + 1) (W5.heap.size + 2) 1 R.length R S hR hS (by decide) (by decide) hn hmm)
      41 max (fun p _ W => greater_any p.1 p.2 W) (enters_of Try.func41 (by kernel_rfl) rfl) W6 (hk5.below hb6 (by omega)) (fun V hV => hbox V fun j h1 h2 => hV j (by omega) (by omega)) (by rw [pair_len]; omega)
    rw [pair_len, pair_max R S HLL.out] at J0
    obtain ⟨B1, hB1⟩ : ∃ B1, B1 = W5.heap.size := ⟨_, rfl⟩
    obtain ⟨B2, hB2⟩ : ∃ B2, B2 = W5.heap.size + 1 := ⟨_, rfl⟩
    obtain ⟨B3, hB3⟩ : ∃ B3, B3 = W5.heap.size + 2 := ⟨_, rfl⟩
    rw [← hB3, ← hB2, ← hB1] at P0 J0
    have HP := Lib.hid P0
    have HJ := Lib.hid J0
    have hl2 := HL2.out
    have hr6 := (HR2.out.below hb5 (by omega)).below hb6 (by omega)
    have hb26 : Below w.heap.size w W6 := (HB2.out.trans (hb5.mono (by omega))).trans (hb6.mono (by omega))
    have HR6 := Lib.hid hr6
    have HB6 := Lib.hid hb26
    have HW5 := Lib.hid hW5
    have HS6 : Hid (w2.heap.size + 4 = W6.heap.size) := by show _ = _; omega
    clear hk5 hb5 hb6 h5 h6 hbox hmm P0 J0 hB1 hB2 hB3 hW6 hr6 hb26 hl2 hW5
    go_wp2_with fail
    rw [← HW5.out]
    with_reducible refine (HP.out).mono ?_
    rintro e w3 ⟨rfl, rfl⟩
    clear hst c0 c1 d1 d3
    go_wp2_with fail
    with_reducible refine (HJ.out).mono ?_
    rintro e w4 ⟨⟨u, rfl⟩, ⟨v, hwk, hown⟩, hoth, hsz, hb4⟩
    obtain ⟨_, g, cap, rfl, hgB, hrow⟩ := bytC_owns hown (by have := HP8.out; omega)
    have hl2 := HL2.out
    have hs6 := HS6.out
    have hr4 : HasC w4 (w.heap.size + 2) 23 #[.int .i64 0, .string { data := #[] }] := (hoth _ (by omega) (by omega)).trans HR6.out
    have hbw4 : Below w.heap.size w w4 := HB6.out.trans (hb4.mono (by omega))
    have HD := Lib.hid (done_row (n : Int) { data := #[] } fGreater w2.heap.size g R.length cap (maxR R S) w4 hwk hrow (max_byte hR hS) (by have := HLL.out; simp [maxR]; omega))
    have HR4 := Lib.hid hr4
    have HB4 := Lib.hid hbw4
    clear hr4 hbw4 hwk hown hoth hsz hb4 hrow hgB hl2 hs6
    go_wp2_with fail
    with_reducible refine (HD.out).mono ?_
    rintro e w7 ⟨rfl, hb7⟩
    have hl2 := HL2.out
    have hr7 := HR4.out.below hb7 (by omega)
    have hbw7 : Below w.heap.size w w7 := HB4.out.trans (hb7.mono (by omega))
    have c0 := hr7.cell 0
    have c1 := hr7.cell 1
    have z0 := hr7.frozen 0
    have z1 := hr7.frozen 1
    have HR7 := Lib.hid hr7
    clear hr7 hb7 hl2
    unfold hV
    go_wp2_with fail
    refine bodyPost_ret (results_hll rfl _ _ (w.heap.size + 2) _ _ rfl (((HR7.out.set 0 (.int .i64 n)).set 1 (.string (regS (maxR R S)))).eq (cs' := #[.int .i64 n, .string (regS (maxR R S))]) rfl)) rfl ?_
    exact ⟨⟨_, _, rfl, .inl ⟨rfl, rfl, rfl⟩⟩, (hbw7.setCell (p := ⟨w.heap.size + 2, 0, none⟩) (by simp) _).setCell (p := ⟨w.heap.size + 2, 1, none⟩) (by simp) _⟩
set_option maxHeartbeats 4000000 in
set_option maxRecDepth 100000 in
theorem hMerge_any (b : Int) (R : List Nat) (c : Int) (S : List Nat) (w : World) (hR : byteL R) (hS : byteL S) (hn : R.length ≤ 300) (hm : S.length ≤ 300) :
    Calls Try.prog 23 #[.agg #[.int .i64 b, .string (regS R)], .agg #[.int .i64 c, .string (regS S)]] w fun e w' => e = .returned (hT (mergeH b R c S)) ∧ Below w.heap.size w w' := by
  have hb0 := (((Below.refl w.heap.size w).alloc (Nat.le_refl _) (Obj.cells #[.int .i64 b, .string (regS R)] 23)).alloc (by simp) (Obj.cells #[.int .i64 c, .string (regS S)] 23)).alloc (by simp; omega) (Obj.cells #[.int .i64 0, .string { data := #[] }] 23)
  have hr0 : HasC (((w.alloc (Obj.cells #[.int .i64 b, .string (regS R)] 23)).alloc (Obj.cells #[.int .i64 c, .string (regS S)] 23)).alloc (Obj.cells #[.int .i64 0, .string { data := #[] }] 23)) (w.heap.size + 2) 23 #[.int .i64 0, .string { data := #[] }] := HasC.at_ _ _ _ (by simp)
  have A1 := merge_any b R c S (((w.alloc (Obj.cells #[.int .i64 b, .string (regS R)] 23)).alloc (Obj.cells #[.int .i64 c, .string (regS S)] 23)).alloc (Obj.cells #[.int .i64 0, .string { data := #[] }] 23)) hR hS hn hm
  have hP : mergeH b R c S = if (rightR b R && (rightR c S && decide (b = c))) then ((b, maxR R S), 0) else badR := rfl
  rw [hP]
  obtain ⟨ok, hok⟩ : ∃ ok, (rightR b R && (rightR c S && decide (b = c))) = ok := ⟨_, rfl⟩
  obtain ⟨T, hT'⟩ : ∃ T, maxR R S = T := ⟨_, rfl⟩
  rw [hok, hT'] at A1
  rw [hok, hT']
  have HB := Lib.hid hb0
  have HR := Lib.hid hr0
  have HA := Lib.hid A1
  have HT := Lib.hid (told_any ok b T)
  obtain ⟨P, hPP⟩ : ∃ P, (if ok then ((b, T), 0) else badR) = P := ⟨_, rfl⟩
  rw [hPP] at HT ⊢
  obtain ⟨pc, ps, pe, hpp⟩ := hT_parts P
  rw [hpp] at HT ⊢
  clear hb0 hr0 A1 hP hok hT' hR hS hn hm hPP hpp
  go_enter Try.func23, Try.ntmps23
  go_wp2_with fail
  with_reducible refine (HA.out).mono ?_
  rintro e w2 ⟨⟨xv, uv, rfl, hres⟩, hb⟩
  obtain ⟨⟨sc, ss, rfl⟩, hu⟩ := hres.shape
  have HT2 := Lib.hid (HT.out _ _ hres w2)
  have hb2 := HB.out.trans (hb.mono HB.out.size)
  have hr2 := HR.out.below hb HR.out.lt
  have HR2 := Lib.hid hr2
  have HB2 := Lib.hid hb2
  clear hb hres hr2 hb2
  have fin : ∀ w3, Below w2.heap.size w2 w3 → HasC w3 (w.heap.size + 2) 23 #[.int .i64 0, .string { data := #[] }] ∧ Below w.heap.size w w3 := fun w3 hb => ⟨HR2.out.below hb HR2.out.lt, HB2.out.trans (hb.mono HB2.out.size)⟩
  have FIN := Lib.hid fin
  clear fin
  rcases hu with rfl | ⟨s, rfl⟩
  all_goals
    go_wp2_with fail
    with_reducible refine (HT2.out).mono ?_
    rintro e w3 ⟨rfl, hb⟩
    obtain ⟨hr3, hb3⟩ := FIN.out w3 hb
    have c0 := hr3.cell 0
    have c1 := hr3.cell 1
    have z0 := hr3.frozen 0
    have z1 := hr3.frozen 1
    have HR3 := Lib.hid hr3
    clear hr3 hb
    go_wp2_with fail
    refine bodyPost_ret (results_hll rfl _ _ (w.heap.size + 2) _ _ rfl (((HR3.out.set 0 (.int .i64 pc)).set 1 (.string ps)).eq (cs' := #[.int .i64 pc, .string ps]) rfl)) rfl ?_
    exact ⟨rfl, (hb3.setCell (p := ⟨w.heap.size + 2, 0, none⟩) (by simp) _).setCell (p := ⟨w.heap.size + 2, 1, none⟩) (by simp) _⟩
end Go.Proofs.Ytnljepnmajcmgaa
