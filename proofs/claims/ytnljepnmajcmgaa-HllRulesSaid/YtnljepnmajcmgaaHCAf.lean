/- Package hll: Add, Of: what they answer. -/
import Derived.Test.YtnljepnmajcmgaaHCAe
namespace Go.Proofs.Ytnljepnmajcmgaa
open Go.RowKit Go.Shelf

/-- What told makes of registers and an error. -/
theorem told_any (ok : Bool) (b : Int) (R : List Nat) (x u : Value) (h : ResV ok b R x u) (w : World) :
    Calls Try.prog 30 #[x, u] w fun e w' => e = .returned (hT (if ok then ((b, R), 0) else badR)) ∧ Below w.heap.size w w' := by
  rcases h with ⟨rfl, rfl, rfl⟩ | ⟨rfl, rfl, s, rfl⟩
  · exact told_ok b (regS R) w
  · exact told_bad 0 { data := #[] } s w
/-- What is told, as a number and a text, and the error's number. -/
theorem hT_parts (P : (Int × List Nat) × Nat) : ∃ (c : Int) (s : ByteArray) (e : Int), hT P = .tuple #[.agg #[.int .i64 c, .string s], .int .i64 e] := ⟨_, _, _, rfl⟩
theorem num_one7 (W : World) (x : Nat) : NumSl (W.alloc (Obj.cells #[nV x] 25)) (.slice (some ⟨W.heap.size, 0, none⟩) 1 1) [x] := by
  refine .inr ⟨W.heap.size, 0, 1, rfl, Nat.le_refl _, by simp, fun j hj => ?_⟩
  obtain rfl : j = 0 := by simpa using hj
  exact (World.cell?_alloc_at _ _ _ _ rfl).trans rfl
theorem ResV.shape {ok : Bool} {b : Int} {R : List Nat} {x u : Value} (h : ResV ok b R x u) : (∃ c s, x = .agg #[.int .i64 c, .string s]) ∧ (u = .nilIface ∨ ∃ s, u = .iface 66 (.string s)) := by
  rcases h with ⟨_, rfl, rfl⟩ | ⟨_, rfl, s, rfl⟩
  · exact ⟨⟨_, _, rfl⟩, .inl rfl⟩
  · exact ⟨⟨_, _, rfl⟩, .inr ⟨_, rfl⟩⟩
set_option maxHeartbeats 4000000 in
set_option maxRecDepth 100000 in
theorem hAdd_any (b : Int) (R : List Nat) (x : Nat) (w : World) (hR : byteL R) (hn : R.length ≤ 300) (hx : x < 18446744073709551616) :
    Calls Try.prog 15 #[.agg #[.int .i64 b, .string (regS R)], nV x] w fun e w' => e = .returned (hT (addH b R x)) ∧ Below w.heap.size w w' := by
  have hb0 := (((Below.refl w.heap.size w).alloc (Nat.le_refl _) (Obj.cells #[.int .i64 b, .string (regS R)] 23)).alloc (by simp) (Obj.cells #[.int .i64 0, .string { data := #[] }] 23)).alloc (by simp; omega) (Obj.cells #[nV x] 25)
  have hr0 : HasC (((w.alloc (Obj.cells #[.int .i64 b, .string (regS R)] 23)).alloc (Obj.cells #[.int .i64 0, .string { data := #[] }] 23)).alloc (Obj.cells #[nV x] 25)) (w.heap.size + 1) 23 #[.int .i64 0, .string { data := #[] }] := (HasC.at_ _ _ _ (by simp)).alloc _
  have A1 := add_any b R [x] _ _ hR hn (num_one7 ((w.alloc (Obj.cells #[.int .i64 b, .string (regS R)] 23)).alloc (Obj.cells #[.int .i64 0, .string { data := #[] }] 23)) x) (by simp) (fun y hy => (List.mem_singleton.1 hy).symm ▸ hx)
  rw [show ((w.alloc (Obj.cells #[.int .i64 b, .string (regS R)] 23)).alloc (Obj.cells #[.int .i64 0, .string { data := #[] }] 23)).heap.size = w.heap.size + 2 by simp] at A1
  have hP : addH b R x = if rightR b R then ((b, tellR b.toNat R [x]), 0) else badR := rfl
  rw [hP]
  obtain ⟨ok, hok⟩ : ∃ ok, rightR b R = ok := ⟨_, rfl⟩
  obtain ⟨T, hT'⟩ : ∃ T, tellR b.toNat R [x] = T := ⟨_, rfl⟩
  rw [hok, hT'] at A1
  rw [hok, hT']
  have HB := Lib.hid hb0
  have HR := Lib.hid hr0
  have HA := Lib.hid A1
  have HT := Lib.hid (told_any ok b T)
  obtain ⟨P, hPP⟩ : ∃ P, (if ok then ((b, T), 0) else badR) = P := ⟨_, rfl⟩
  rw [hPP] at HT ⊢
  obtain ⟨pc, ps, pe, hpp⟩ := hT_parts P
  rw [hpp] at HT ⊢
  clear hb0 hr0 A1 hP hok hT' hR hn hx hPP hpp
  go_enter Try.func15, Try.ntmps15
  go_wp2_with fail
  with_reducible refine (HA.out).mono ?_
  rintro e w2 ⟨⟨xv, uv, rfl, hres⟩, hb⟩
  obtain ⟨⟨sc, ss, rfl⟩, hu⟩ := hres.shape
  have HT2 := Lib.hid (HT.out _ _ hres w2)
  have hb2 := HB.out.trans (hb.mono HB.out.size)
  have hr2 := HR.out.below hb HR.out.lt
  have HR2 := Lib.hid hr2
  have HB2 := Lib.hid hb2
  clear hb hres hr2 hb2
  have fin : ∀ w3, Below w2.heap.size w2 w3 → HasC w3 (w.heap.size + 1) 23 #[.int .i64 0, .string { data := #[] }] ∧ Below w.heap.size w w3 := fun w3 hb => ⟨HR2.out.below hb HR2.out.lt, HB2.out.trans (hb.mono HB2.out.size)⟩
  have FIN := Lib.hid fin
  clear fin
  rcases hu with rfl | ⟨s, rfl⟩
  all_goals
    go_wp2_with fail
    with_reducible refine (HT2.out).mono ?_
    rintro e w3 ⟨rfl, hb⟩
    obtain ⟨hr3, hb3⟩ := FIN.out w3 hb
    have c0 := hr3.cell 0
    have c1 := hr3.cell 1
    have z0 := hr3.frozen 0
    have z1 := hr3.frozen 1
    have HR3 := Lib.hid hr3
    clear hr3 hb
    go_wp2_with fail
    refine bodyPost_ret (results_hll rfl _ _ (w.heap.size + 1) _ _ rfl (((HR3.out.set 0 (.int .i64 pc)).set 1 (.string ps)).eq (cs' := #[.int .i64 pc, .string ps]) rfl)) rfl ?_
    exact ⟨rfl, (hb3.setCell (p := ⟨w.heap.size + 1, 0, none⟩) (by simp) _).setCell (p := ⟨w.heap.size + 1, 1, none⟩) (by simp) _⟩
set_option maxHeartbeats 4000000 in
set_option maxRecDepth 100000 in
theorem hOf_any (b : Int) (L : List Nat) (v : Value) (w : World) (hv : NumSl w v L) (hn : L.length ≤ 200) (hL : ∀ x ∈ L, x < 18446744073709551616) :
    Calls Try.prog 12 #[.int .i64 b, v] w fun e w' => e = .returned (hT (ofH b L)) ∧ Below w.heap.size w w' := by
  have hb0 := (Below.refl w.heap.size w).alloc (Nat.le_refl _) (Obj.cells #[.int .i64 0, .string { data := #[] }] 23)
  have E1 := Lib.hid (empty_any b (w.alloc (Obj.cells #[.int .i64 0, .string { data := #[] }] 23)))
  have HX := Lib.hid (HasC.new w 23 #[.int .i64 0, .string { data := #[] }])
  have HB := Lib.hid hb0
  have HN := Lib.hid hv
  obtain ⟨ao, c, rfl, _⟩ := hv.at_
  obtain ⟨m, hm⟩ : ∃ m, m = L.length := ⟨_, rfl⟩
  rw [← hm] at HN
  rw [← hm]
  clear hb0 hv
  cases hq : okB b with
  | false =>
    have hv : newH b = badR := by unfold newH; rw [hq]; rfl
    rw [hq, hv] at E1
    rw [ofH_bad hq]
    clear hq hv hm
    unfold badR hV at E1
    rw [regS_nil] at E1
    go_enter Try.func12, Try.ntmps12
    go_wp2_with fail
    with_reducible refine (E1.out).mono ?_
    rintro e w1 ⟨⟨u, rfl, hu⟩, hb⟩
    have hx1 := HX.out.below hb (by simp)
    have hb1 := HB.out.trans (hb.mono (by simp))
    rcases hu with ⟨hu, _⟩ | ⟨_, s, rfl⟩
    · cases hu
    have T1 := Lib.hid (told_bad 0 { data := #[] } s (w1.alloc (.cells #[.int .i64 0, .string { data := #[] }] 23)))
    have HX1 := Lib.hid (hx1.alloc (.cells #[.int .i64 0, .string { data := #[] }] 23))
    have HB1 := Lib.hid (hb1.alloc (by have := hx1.lt; omega) (.cells #[.int .i64 0, .string { data := #[] }] 23))
    clear hb hx1 hb1
    go_wp2_with fail
    with_reducible refine (T1.out).mono ?_
    rintro e w2 ⟨rfl, hb⟩
    have hx2 := HX1.out.below hb HX1.out.lt
    have hb2 := HB1.out.trans (hb.mono HB1.out.size)
    have c0 := hx2.cell 0
    have c1 := hx2.cell 1
    have z0 := hx2.frozen 0
    have z1 := hx2.frozen 1
    have HX2 := Lib.hid hx2
    clear hb hx2
    go_wp2_with fail
    refine bodyPost_ret (results_hll rfl _ _ w.heap.size _ _ rfl (((HX2.out.set 0 (.int .i64 0)).set 1 (.string { data := #[] })).eq (cs' := #[.int .i64 0, .string { data := #[] }]) rfl)) rfl ?_
    exact ⟨rfl, (hb2.setCell (p := ⟨w.heap.size, 0, none⟩) (Nat.le_refl _) _).setCell (p := ⟨w.heap.size, 1, none⟩) (Nat.le_refl _) _⟩
  | true =>
    rw [hq] at E1
    obtain ⟨n, rfl, h3, h8⟩ := okB_nat hq
    have hv : newH (n : Int) = (((n : Int), ofR n []), 0) := by unfold newH; rw [hq]; rfl
    rw [hv] at E1
    rw [ofH_ok h3 h8]
    obtain ⟨R, hR⟩ : ∃ R, R = ofR n [] := ⟨_, rfl⟩
    have hRb : byteL R := by rw [hR]; exact byteL_of []
    have hRl : R.length ≤ 300 := by
      rw [hR, of_size]
      have := Nat.pow_le_pow_right (show 0 < 2 by decide) h8
      omega
    have hrr : rightR (n : Int) R = true := by rw [hR]; exact right_ofR h3 h8 []
    have htl : tellR n R L = ofR n L := by rw [hR, tell_of]; rfl
    have A1 := Lib.hid (fun W (h : NumSl W (.slice ao m c) L) => add_any (n : Int) R L (.slice ao m c) W hRb hRl h (by omega) hL)
    rw [Int.toNat_natCast, hrr, htl] at A1
    rw [← hR] at E1
    obtain ⟨T, hT'⟩ : ∃ T, T = ofR n L := ⟨_, rfl⟩
    rw [← hT'] at A1 ⊢
    clear hq hv hR hRb hRl hrr htl hT' h3 h8 hm hn hL
    unfold hV at E1
    unfold hT hV
    go_enter Try.func12, Try.ntmps12
    go_wp2_with fail
    with_reducible refine (E1.out).mono ?_
    rintro e w1 ⟨⟨u, rfl, hu⟩, hb⟩
    have hx1 := HX.out.below hb (by simp)
    have hb1 := HB.out.trans (hb.mono (by simp))
    rcases hu with ⟨_, rfl⟩ | ⟨hu, _⟩
    case inr => cases hu
    have HX1 := Lib.hid (hx1.alloc (.cells #[.int .i64 n, .string (regS R)] 23))
    have hb2 := hb1.alloc (by have := hx1.lt; omega) (.cells #[.int .i64 n, .string (regS R)] 23)
    have A2 := Lib.hid (A1.out _ (HN.out.below hb2))
    have HB2 := Lib.hid hb2
    clear hb hx1 hb1 hb2
    go_wp2_with fail
    with_reducible refine (A2.out).mono ?_
    rintro e w2 ⟨⟨xv, uv, rfl, hres⟩, hb⟩
    have hx2 := HX1.out.below hb HX1.out.lt
    have hb2 := HB2.out.trans (hb.mono HB2.out.size)
    rcases hres with ⟨_, rfl, rfl⟩ | ⟨h, _⟩
    case inr => cases h
    have T1 := Lib.hid (told_ok (n : Int) (regS T) w2)
    have HX2 := Lib.hid hx2
    have HB3 := Lib.hid hb2
    clear hb hx2 hb2
    go_wp2_with fail
    with_reducible refine (T1.out).mono ?_
    rintro e w3 ⟨rfl, hb⟩
    have hx3 := HX2.out.below hb HX2.out.lt
    have hb3 := HB3.out.trans (hb.mono HB3.out.size)
    have c0 := hx3.cell 0
    have c1 := hx3.cell 1
    have z0 := hx3.frozen 0
    have z1 := hx3.frozen 1
    have HX3 := Lib.hid hx3
    clear hb hx3
    go_wp2_with fail
    refine bodyPost_ret (results_hll rfl _ _ w.heap.size _ _ rfl (((HX3.out.set 0 (.int .i64 n)).set 1 (.string (regS T))).eq (cs' := #[.int .i64 n, .string (regS T)]) rfl)) rfl ?_
    exact ⟨rfl, (hb3.setCell (p := ⟨w.heap.size, 0, none⟩) (Nat.le_refl _) _).setCell (p := ⟨w.heap.size, 1, none⟩) (Nat.le_refl _) _⟩
end Go.Proofs.Ytnljepnmajcmgaa
