/- Package hll: New, Add, Of. -/
import Derived.Test.YtnljepnmajcmgaaHCTl
namespace Go.Proofs.Ytnljepnmajcmgaa
open Go.RowKit Go.Shelf

theorem tell_any (nb gW gR cap : Nat) (s : ByteArray) (R L : List Nat) (ao : Option Addr) (c : Nat) (w : World) (h3b : 3 ≤ nb) (h8b : nb ≤ 8)
    (hW : WkC w gW (nb : Int) s (.slice (some ⟨gR, 0, none⟩) R.length cap) fGreater) (hRow : BytC w gR R) (hlt : gR < gW) (hRn : R.length = 2 ^ nb) (hRb : byteL R)
    (hN : NumAt gR ao L w) (hLn : L.length ≤ 1000) (hLx : ∀ x ∈ L, x < 18446744073709551616) :
    Calls Try.prog 42 #[.pointer (some ⟨gW, 0, none⟩), .slice ao L.length c] w fun e w' => (∃ u, e = .returned u) ∧ BytC w' gR (tellR nb R L) ∧ WkC w' gW (nb : Int) s (.slice (some ⟨gR, 0, none⟩) R.length cap) fGreater ∧ (∀ k, gR < k → k < w.heap.size → w'.heap[k]? = w.heap[k]?) ∧ Below gR w w' :=
  callsIn_wide.1 (tell_in 5 (by decide) nb gW gR cap s R L ao c w h3b h8b hW hRow hlt hRn hRb hN hLn hLx)
/-- The closure that tells what two ranks come to in a register of one digit less. -/
abbrev fLowered : Value := .func (.func 47) #[] #[]
set_option maxRecDepth 100000 in
/-- A function laid into the field of a new block. -/
theorem store_nil (W : World) (b : Int) (s : ByteArray) (v : Value) : (store ⟨W.heap.size, 3, none⟩ .nilFunc).run Try.prog (W.alloc (.cells #[.int .i64 b, .string s, v, .nilFunc] 63)) = .ok () (W.alloc (.cells #[.int .i64 b, .string s, v, .nilFunc] 63)) := by
  rw [run_store Try.prog _ _ _ _ (by rfl), World.cell?_alloc_at _ _ _ _ rfl, World.frozen?_alloc_at _ _ _ _ rfl, World.setCell_alloc_at (hn := rfl)]
  rfl
set_option maxRecDepth 100000 in
theorem store_greater (W : World) (b : Int) (s : ByteArray) (v : Value) : (store ⟨W.heap.size, 3, none⟩ fGreater).run Try.prog (W.alloc (.cells #[.int .i64 b, .string s, v, .nilFunc] 63)) = .ok () (W.alloc (.cells #[.int .i64 b, .string s, v, fGreater] 63)) := by
  rw [run_store Try.prog _ _ _ _ (by rfl), World.cell?_alloc_at _ _ _ _ rfl, World.frozen?_alloc_at _ _ _ _ rfl, World.setCell_alloc_at (hn := rfl)]
  rfl
set_option maxRecDepth 100000 in
theorem store_lowered (W : World) (b : Int) (s : ByteArray) (v : Value) : (store ⟨W.heap.size, 3, none⟩ fLowered).run Try.prog (W.alloc (.cells #[.int .i64 b, .string s, v, .nilFunc] 63)) = .ok () (W.alloc (.cells #[.int .i64 b, .string s, v, fLowered] 63)) := by
  rw [run_store Try.prog _ _ _ _ (by rfl), World.cell?_alloc_at _ _ _ _ rfl, World.frozen?_alloc_at _ _ _ _ rfl, World.setCell_alloc_at (hn := rfl)]
  rfl
/-- The registers, as they are by now: those in the row. -/
theorem done_row (b : Int) (s : ByteArray) (f : Value) (gW gR p cap : Nat) (R : List Nat) (W : World) (hW : WkC W gW b s (.slice (some ⟨gR, 0, none⟩) p cap) f) (hR : BytC W gR R) (hb : byteL R) (hp : p = R.length) :
    Calls Try.prog 40 #[.pointer (some ⟨gW, 0, none⟩)] W fun e w' => e = .returned (hV b R) ∧ Below gW W w' := by
  refine (done_any b s _ f gW R W hW fun W' hW' => ?_).mono fun e w' h => ⟨h.1, h.2.2.2⟩
  refine bytC_back (R := R) ?_ hb p cap hp
  have hg := hW' gR hR.1
  refine ⟨?_, fun j hj => ⟨(World.cell?_of_block (a := ⟨gR, j, none⟩) hg).trans (hR.2 j hj).1, (World.frozen?_of_block (a := ⟨gR, j, none⟩) hg).trans (hR.2 j hj).2⟩⟩
  rw [Array.getElem?_eq_getElem hR.1] at hg
  exact (Array.getElem?_eq_some_iff.1 hg).1
set_option maxHeartbeats 2000000 in
set_option maxRecDepth 100000 in
/-- Registers of nothing, and an error. -/
theorem empty_any (b : Int) (w : World) :
    Calls Try.prog 29 #[.int .i64 b] w fun e w' => (∃ u, e = .returned (.tuple #[hV (newH b).1.1 (newH b).1.2, u]) ∧ ErrV (okB b) u) ∧ Below w.heap.size w w' := by
  obtain ⟨i0, hi, hz0, hz1, hz2⟩ := partsE infoU8
  have i1 := Lib.hid hi
  have i2 := Lib.hid hz0
  have i3 := Lib.hid hz1
  have i4 := Lib.hid hz2
  clear hi hz0 hz1 hz2
  have B1 := Lib.hid (fun W => digits_any b W)
  have hx0 := HasC.new w 23 #[.int .i64 0, .string { data := #[] }]
  have hb0 := (Below.refl w.heap.size w).alloc (Nat.le_refl _) (Obj.cells #[.int .i64 0, .string { data := #[] }] 23)
  have HX := Lib.hid hx0
  have HB := Lib.hid hb0
  clear hx0 hb0
  cases hq : okB b with
  | false =>
    rw [hq] at B1
    have hv : newH b = badR := by unfold newH; rw [hq]; rfl
    have HV := Lib.hid hv
    clear hq hv
    go_enter Try.func29, Try.ntmps29
    go_wp2_with fail
    with_reducible refine (B1.out _).mono ?_
    rintro e w1 ⟨⟨u, rfl, hu⟩, rfl⟩
    rcases hu with ⟨hu, _⟩ | ⟨_, s, rfl⟩
    · cases hu
    go_wp2_with fail
    refine bodyPost_ret (results_hll rfl _ _ w.heap.size _ _ rfl HX.out) rfl ?_
    rw [HV.out]
    exact ⟨⟨_, rfl, .inr ⟨rfl, _, rfl⟩⟩, HB.out⟩
  | true =>
    rw [hq] at B1
    obtain ⟨n, rfl, h3, h8⟩ := okB_nat hq
    obtain ⟨p, hp, hpw, hp8, hp256⟩ := pow_wrap h3 h8
    have hv : newH (n : Int) = (((n : Int), List.replicate p 0), 0) := by unfold newH; rw [hq, if_pos rfl, Int.toNat_natCast, of_nil, hp]
    have HV := Lib.hid hv
    clear hq hv hp
    go_enter Try.func29, Try.ntmps29
    go_wp2_with fail
    with_reducible refine (B1.out _).mono ?_
    rintro e w1 ⟨⟨u, rfl, hu⟩, rfl⟩
    rcases hu with ⟨_, rfl⟩ | ⟨hu, _⟩
    case inr => cases hu
    go_wp2_with (at_make; go_loud (refine wpList_make_full _ rfl (.tmp 15) (.tmp 15) 52 rfl w.heap.size 5 i0 (.int .u8 0) 1 Try.underlying52 i1.out i2.out i3.out .i64 .i64 _ _ p rfl rfl hpw hpw (by rw [i4.out]; omega) (by unfold maxLen; omega) (by simp) ?_; intro w2 hown2 hgrow2; have hb12 := HB.out.grown hgrow2 (by simp) (fun k hk => by cases hk); have hx2 := HX.out.below ((Below.refl _ _).grown hgrow2 (Nat.le_refl _) (fun k hk => by cases hk)) (by simp); have hbc := bytC_made hown2; have hst := store_nil w2 (n : Int) { data := #[] } (.slice (some ⟨w.heap.size + 1, 0, none⟩) p p); have HX2 := Lib.hid hx2; have HBC := Lib.hid hbc; have HB12 := Lib.hid hb12; clear hown2 hgrow2 hx2 hbc hb12))
    have hDone := Lib.hid (done_row (n : Int) { data := #[] } .nilFunc w2.heap.size (w.heap.size + 1) p p (List.replicate p 0) (w2.alloc (.cells #[.int .i64 n, .string { data := #[] }, .slice (some ⟨w.heap.size + 1, 0, none⟩) p p, .nilFunc] 63)) (HasC.new w2 _ _) (by have := HBC.out; rw [World.size_alloc] at this; exact this.below ((Below.refl _ w2).alloc (Nat.le_refl _) _)) (fun r hr => by rw [(List.mem_replicate.1 hr).2]; decide) (by simp))
    with_reducible refine (hDone.out).mono ?_
    rintro e w3 ⟨rfl, hb⟩
    have hlt2 := HX2.out.lt
    have hx3 := (HX2.out.alloc (.cells #[.int .i64 n, .string { data := #[] }, .slice (some ⟨w.heap.size + 1, 0, none⟩) p p, .nilFunc] 63)).below hb hlt2
    have hb3 : Below w.heap.size w w3 := (HB12.out.alloc (by omega) _).trans (hb.mono (by omega))
    have c0 := hx3.cell 0
    have c1 := hx3.cell 1
    have z0 := hx3.frozen 0
    have z1 := hx3.frozen 1
    have HX3 := Lib.hid hx3
    clear hb hst hlt2 hx3
    go_wp2_with fail
    refine bodyPost_ret (results_hll rfl _ _ w.heap.size _ _ rfl (((HX3.out.set 0 (.int .i64 n)).set 1 (.string (regS (List.replicate p 0)))).eq (cs' := #[.int .i64 n, .string (regS (List.replicate p 0))]) rfl)) rfl ?_
    rw [HV.out]
    exact ⟨⟨_, rfl, .inl ⟨rfl, rfl⟩⟩, (hb3.setCell (p := ⟨w.heap.size, 0, none⟩) (Nat.le_refl _) _).setCell (p := ⟨w.heap.size, 1, none⟩) (Nat.le_refl _) _⟩
set_option maxHeartbeats 2000000 in
set_option maxRecDepth 100000 in
theorem hNew_any (b : Int) (w : World) : Calls Try.prog 19 #[.int .i64 b] w fun e w' => e = .returned (hT (newH b)) ∧ Below w.heap.size w w' := by
  have hx0 := HasC.new w 23 #[.int .i64 0, .string { data := #[] }]
  have hb0 := (Below.refl w.heap.size w).alloc (Nat.le_refl _) (Obj.cells #[.int .i64 0, .string { data := #[] }] 23)
  have E1 := Lib.hid (empty_any b (w.alloc (Obj.cells #[.int .i64 0, .string { data := #[] }] 23)))
  have HX := Lib.hid hx0
  have HB := Lib.hid hb0
  clear hx0 hb0
  cases hq : okB b with
  | false =>
    have hv : newH b = badR := by unfold newH; rw [hq]; rfl
    rw [hq, hv] at E1
    rw [hv]
    clear hq hv
    unfold badR at E1
    go_enter Try.func19, Try.ntmps19
    go_wp2_with fail
    with_reducible refine (E1.out).mono ?_
    rintro e w1 ⟨⟨u, rfl, hu⟩, hb⟩
    have hx1 := HX.out.below hb (by simp)
    have hb1 := HB.out.trans (hb.mono (by simp))
    rcases hu with ⟨hu, _⟩ | ⟨_, s, rfl⟩
    · cases hu
    have T1 := Lib.hid (told_bad 0 { data := #[] } s w1)
    clear hb
    unfold hV
    rw [regS_nil]
    go_wp2_with fail
    with_reducible refine (T1.out).mono ?_
    rintro e w2 ⟨rfl, hb⟩
    have hlt := hx1.lt
    have hx2 := hx1.below hb hlt
    have hb2 := hb1.trans (hb.mono (by omega))
    have c0 := hx2.cell 0
    have c1 := hx2.cell 1
    have z0 := hx2.frozen 0
    have z1 := hx2.frozen 1
    have HX2 := Lib.hid hx2
    clear hb hx2 hlt
    go_wp2_with fail
    refine bodyPost_ret (results_hll rfl _ _ w.heap.size _ _ rfl (((HX2.out.set 0 (.int .i64 0)).set 1 (.string { data := #[] })).eq (cs' := #[.int .i64 0, .string { data := #[] }]) rfl)) rfl ?_
    exact ⟨rfl, (hb2.setCell (p := ⟨w.heap.size, 0, none⟩) (Nat.le_refl _) _).setCell (p := ⟨w.heap.size, 1, none⟩) (Nat.le_refl _) _⟩
  | true =>
    have hv : newH b = ((b, ofR b.toNat []), 0) := by unfold newH; rw [hq]; rfl
    rw [hq, hv] at E1
    rw [hv]
    obtain ⟨R, hR⟩ : ∃ R, R = ofR b.toNat [] := ⟨_, rfl⟩
    rw [← hR] at E1 ⊢
    clear hq hv hR
    unfold hV at E1
    go_enter Try.func19, Try.ntmps19
    go_wp2_with fail
    with_reducible refine (E1.out).mono ?_
    rintro e w1 ⟨⟨u, rfl, hu⟩, hb⟩
    have hx1 := HX.out.below hb (by simp)
    have hb1 := HB.out.trans (hb.mono (by simp))
    rcases hu with ⟨_, rfl⟩ | ⟨hu, _⟩
    case inr => cases hu
    have T1 := Lib.hid (told_ok b (regS R) w1)
    clear hb
    go_wp2_with fail
    with_reducible refine (T1.out).mono ?_
    rintro e w2 ⟨rfl, hb⟩
    have hlt := hx1.lt
    have hx2 := hx1.below hb hlt
    have hb2 := hb1.trans (hb.mono (by omega))
    have c0 := hx2.cell 0
    have c1 := hx2.cell 1
    have z0 := hx2.frozen 0
    have z1 := hx2.frozen 1
    have HX2 := Lib.hid hx2
    clear hb hx2 hlt
    go_wp2_with fail
    refine bodyPost_ret (results_hll rfl _ _ w.heap.size _ _ rfl (((HX2.out.set 0 (.int .i64 b)).set 1 (.string (regS R))).eq (cs' := #[.int .i64 b, .string (regS R)]) rfl)) rfl ?_
    exact ⟨rfl, (hb2.setCell (p := ⟨w.heap.size, 0, none⟩) (Nat.le_refl _) _).setCell (p := ⟨w.heap.size, 1, none⟩) (Nat.le_refl _) _⟩
end Go.Proofs.Ytnljepnmajcmgaa
