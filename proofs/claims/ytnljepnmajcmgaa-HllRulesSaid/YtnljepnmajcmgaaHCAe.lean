/- Package hll: Add, Of. -/
import Derived.Test.YtnljepnmajcmgaaHCAd
import Derived.Test.YtnljepnmajcmgaaHRef3
namespace Go.Proofs.Ytnljepnmajcmgaa
open Go.RowKit Go.Shelf

theorem NumAt.mono {n0 n1 : Nat} {ao : Option Addr} {L : List Nat} {w : World} (h : NumAt n0 ao L w) (hn : n0 ≤ n1) : NumAt n1 ao L w := fun j hj => by
  obtain ⟨g, o, h1, h2, h3⟩ := h j hj
  exact ⟨g, o, h1, by omega, h3⟩
/-- Registers, or none and an error. -/
def ResV (ok : Bool) (b : Int) (R : List Nat) (x u : Value) : Prop := (ok = true ∧ x = .agg #[.int .i64 b, .string (regS R)] ∧ u = .nilIface) ∨ (ok = false ∧ x = .agg #[.int .i64 0, .string { data := #[] }] ∧ ∃ s, u = .iface 66 (.string s))
set_option maxHeartbeats 4000000 in
set_option maxRecDepth 100000 in
theorem add_any (b : Int) (R L : List Nat) (v : Value) (w : World) (hR : byteL R) (hn : R.length ≤ 300) (hv : NumSl w v L) (hLn : L.length ≤ 1000) (hLx : ∀ x ∈ L, x < 18446744073709551616) :
    Calls Try.prog 31 #[.agg #[.int .i64 b, .string (regS R)], v] w fun e w' => (∃ x u, e = .returned (.tuple #[x, u]) ∧ ResV (rightR b R) b (tellR b.toNat R L) x u) ∧ Below w.heap.size w w' := by
  have hb0 := ((Below.refl w.heap.size w).alloc (Nat.le_refl _) (Obj.cells #[.int .i64 b, .string (regS R)] 23)).alloc (by simp) (Obj.cells #[.int .i64 0, .string { data := #[] }] 23)
  have hx0 : HasC ((w.alloc (Obj.cells #[.int .i64 b, .string (regS R)] 23)).alloc (Obj.cells #[.int .i64 0, .string { data := #[] }] 23)) w.heap.size 23 #[.int .i64 b, .string (regS R)] := (HasC.new w _ _).alloc _
  have hr0 : HasC ((w.alloc (Obj.cells #[.int .i64 b, .string (regS R)] 23)).alloc (Obj.cells #[.int .i64 0, .string { data := #[] }] 23)) (w.heap.size + 1) 23 #[.int .i64 0, .string { data := #[] }] := HasC.at_ _ _ _ (by simp)
  have C1 := Lib.hid (check1_any b R ((w.alloc (Obj.cells #[.int .i64 b, .string (regS R)] 23)).alloc (Obj.cells #[.int .i64 0, .string { data := #[] }] 23)) hR hn)
  have hb1 := hb0.alloc (by simp; omega) (Obj.cells #[.int .i64 b, .string (regS R)] 23)
  have hx1 := hx0.alloc (Obj.cells #[.int .i64 b, .string (regS R)] 23)
  have hr1 := hr0.alloc (Obj.cells #[.int .i64 b, .string (regS R)] 23)
  rw [show ((w.alloc (Obj.cells #[.int .i64 b, .string (regS R)] 23)).alloc (Obj.cells #[.int .i64 0, .string { data := #[] }] 23)).heap.size = w.heap.size + 2 by simp] at C1
  have HB := Lib.hid hb1
  have HX := Lib.hid hx1
  have HR := Lib.hid hr1
  have HN := Lib.hid hv
  obtain ⟨ao, c, rfl, hNA⟩ := hv.at_
  have HNA := Lib.hid hNA
  obtain ⟨m, hm⟩ : ∃ m, m = L.length := ⟨_, rfl⟩
  have HM := Lib.hid hm
  rw [← hm] at HN hLn
  rw [← hm]
  clear hb0 hx0 hr0 hb1 hx1 hr1 hNA hm
  cases hq : rightR b R with
  | false =>
    rw [hq] at C1
    clear hq
    go_enter Try.func31, Try.ntmps31
    go_wp2_with fail
    with_reducible refine (C1.out).mono ?_
    rintro e w2 ⟨⟨u, rfl, hu⟩, hb⟩
    rcases hu with ⟨hu, _⟩ | ⟨_, s, rfl⟩
    · cases hu
    have hb2 := HB.out.trans (hb.mono (by omega))
    have hr2 := HR.out.below hb (by omega)
    have c0 := hr2.cell 0
    have c1 := hr2.cell 1
    have z0 := hr2.frozen 0
    have z1 := hr2.frozen 1
    have HR2 := Lib.hid hr2
    clear hb hr2
    go_wp2_with fail
    refine bodyPost_ret (results_hll rfl _ _ (w.heap.size + 1) _ _ rfl (((HR2.out.set 0 (.int .i64 0)).set 1 (.string { data := #[] })).eq (cs' := #[.int .i64 0, .string { data := #[] }]) rfl)) rfl ?_
    exact ⟨⟨_, _, rfl, .inr ⟨rfl, rfl, _, rfl⟩⟩, (hb2.setCell (p := ⟨w.heap.size + 1, 0, none⟩) (by simp) _).setCell (p := ⟨w.heap.size + 1, 1, none⟩) (by simp) _⟩
  | true =>
    rw [hq] at C1
    obtain ⟨n, rfl, h3, h8, hlen, _⟩ := right_parts7 hq
    rw [Int.toNat_natCast]
    clear hq
    go_enter Try.func31, Try.ntmps31
    go_wp2_with fail
    with_reducible refine (C1.out).mono ?_
    rintro e w2 ⟨⟨u, rfl, hu⟩, hb⟩
    rcases hu with ⟨_, rfl⟩ | ⟨hu, _⟩
    case inr => cases hu
    have hb2 := HB.out.trans (hb.mono (by omega))
    have hr2 := HR.out.below hb (by omega)
    have hx2 := HX.out.below hb (by omega)
    have c0 := hx2.cell 0
    have c1 := hx2.cell 1
    obtain ⟨cap, V, hcv, hbV, hbc⟩ := bytC_of R hR w2
    have hst := store_greater V (n : Int) (regS R) (.slice (some ⟨w2.heap.size, 0, none⟩) R.length cap)
    have HRV := Lib.hid (hr2.below hbV hr2.lt)
    have HBV := Lib.hid (hb2.trans (hbV.mono hb2.size))
    have HBC := Lib.hid hbc
    have HHV := Lib.hid hbc.1
    have HLEN := Lib.hid hlen
    have hlt2 : w.heap.size ≤ w2.heap.size := hb2.size
    have hlt3 := hr2.lt
    obtain ⟨p, hp⟩ : ∃ p, p = R.length := ⟨_, rfl⟩
    have HP := Lib.hid hp
    rw [← hp] at hcv hst
    clear hb hr2 hx2 hb2 hbV hbc hlen hp
    go_wp2_with fail
    have hbA : Below V.heap.size V (V.alloc (.cells #[.int .i64 n, .string (regS R), .slice (some ⟨w2.heap.size, 0, none⟩) p cap, fGreater] 63)) := (Below.refl _ V).alloc (Nat.le_refl _) _
    have hT := tell_any n V.heap.size w2.heap.size cap (regS R) R L ao c (V.alloc (.cells #[.int .i64 n, .string (regS R), .slice (some ⟨w2.heap.size, 0, none⟩) p cap, fGreater] 63)) h3 h8 (by rw [← HP.out]; exact HasC.new V _ _) (HBC.out.below hbA) HHV.out HLEN.out hR
      ((HNA.out.below (HBV.out.trans (hbA.mono HBV.out.size))).mono hlt2) (by rw [← HM.out]; exact hLn) hLx
    rw [← HM.out, ← HP.out] at hT
    have HT := Lib.hid hT
    clear hT hcv hst c0 c1
    with_reducible refine (HT.out).mono ?_
    rintro e w3 ⟨⟨u, rfl⟩, hrow, hwk, _, hb3⟩
    have hlV := HHV.out
    have hr3 := (HRV.out.below hbA HRV.out.lt).below hb3 (by omega)
    have hbw3 : Below w.heap.size w w3 := (HBV.out.trans (hbA.mono HBV.out.size)).trans (hb3.mono (by omega))
    have hD := done_row (n : Int) (regS R) fGreater V.heap.size w2.heap.size p cap (tellR n R L) w3 hwk hrow (tell_byte L hR) (by rw [tell_size]; exact HP.out)
    have HD := Lib.hid hD
    have HR3 := Lib.hid hr3
    have HB3 := Lib.hid hbw3
    clear hD hr3 hbw3 hrow hwk hb3
    go_wp2_with fail
    with_reducible refine (HD.out).mono ?_
    rintro e w4 ⟨rfl, hb4⟩
    have hr4 := HR3.out.below hb4 (by omega)
    have hbw4 : Below w.heap.size w w4 := HB3.out.trans (hb4.mono (by omega))
    have c0 := hr4.cell 0
    have c1 := hr4.cell 1
    have z0 := hr4.frozen 0
    have z1 := hr4.frozen 1
    have HR4 := Lib.hid hr4
    clear hr4 hb4
    unfold hV
    go_wp2_with fail
    refine bodyPost_ret (results_hll rfl _ _ (w.heap.size + 1) _ _ rfl (((HR4.out.set 0 (.int .i64 n)).set 1 (.string (regS (tellR n R L)))).eq (cs' := #[.int .i64 n, .string (regS (tellR n R L))]) rfl)) rfl ?_
    exact ⟨⟨_, _, rfl, .inl ⟨rfl, rfl, rfl⟩⟩, (hbw4.setCell (p := ⟨w.heap.size + 1, 0, none⟩) (by simp) _).setCell (p := ⟨w.heap.size + 1, 1, none⟩) (by simp) _⟩
end Go.Proofs.Ytnljepnmajcmgaa
