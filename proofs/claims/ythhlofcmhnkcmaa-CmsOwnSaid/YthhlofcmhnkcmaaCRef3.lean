/- The page's own answers for layer 8: Count. -/
import Derived.Test.YthhlofcmhnkcmaaCRef2
namespace Go.Proofs.Ythhlofcmhnkcmaa
open Go.RowKit

theorem wrap_ki (x : Int) (h0 : -9223372036854775808 ≤ x) (h1 : x < 9223372036854775808) : IntKind.i64.wrap x = x := by
  have e : IntKind.i64.wrap x = if 9223372036854775808 ≤ x % 18446744073709551616 then x % 18446744073709551616 - 18446744073709551616 else x % 18446744073709551616 := by simp [IntKind.wrap, IntKind.signed, IntKind.bits]
  rw [e]; split <;> omega
set_option maxHeartbeats 4000000 in
set_option maxRecDepth 100000 in
theorem pCount8_any (r c : Int) (L : List Nat) (v : Value) (h : Nat) (w : World) (hv : NumSl w v L) (hh : h ≤ topN) :
    Calls Try.prog 22 #[cV r c v, nV h] w fun e w' => e = .returned (nV (countCm r c L h)) ∧ Below w.heap.size w w' := by
  have hb0 := (Below.refl w.heap.size w).alloc (Nat.le_refl _) (Obj.cells #[.int .i64 r, .int .i64 c, v] 24)
  have R1 := Lib.hid (pRight8_any r c L v _ (hv.below hb0))
  have HX := Lib.hid ((HasC.new w 24 #[.int .i64 r, .int .i64 c, v]).alloc (Obj.cells #[.int .i64 r, .int .i64 c, v] 24))
  have HB := Lib.hid (hb0.alloc (by simp) (Obj.cells #[.int .i64 r, .int .i64 c, v] 24))
  have K1 := Lib.hid (fun W (row : Int) (hs : NumSl W v L) => pCol_any r c L v row h W hs hh)
  have HS := Lib.hid hv
  obtain ⟨ao, cp, rfl, hcell⟩ := hv.shape
  have HCL := Lib.hid hcell
  obtain ⟨m, hm⟩ : ∃ m, m = L.length := ⟨_, rfl⟩
  have HM := Lib.hid hm
  rw [← hm] at R1 HX HB HS K1 ⊢
  clear hb0 hv hm hcell hh
  unfold cV at R1 K1 ⊢
  cases hq : rightC r c L with
  | false =>
    rw [hq] at R1
    have hv : countCm r c L h = 0 := by unfold countCm; rw [hq]; rfl
    have HV := Lib.hid hv
    clear hq hv
    go_enter Try.func22, Try.ntmps22
    go_wp2_with fail
    with_reducible refine (R1.out).mono ?_
    rintro e w1 ⟨rfl, rfl⟩
    go_wp2_with fail
    go_ret
    exact ⟨by rw [HV.out]; rfl, HB.out⟩
  | true =>
    rw [hq] at R1
    obtain ⟨a, b, rfl, rfl, h1, h2, h3, hlen⟩ := rightC_nat hq
    have hv : countCm (a : Int) (b : Int) L h = countL b L h a := by unfold countCm; rw [hq, if_pos rfl, Int.toNat_natCast, Int.toNat_natCast]
    have hcol : ∀ k : Nat, k < a → colCm (a : Int) (b : Int) L (k : Int) h = colC b k h := fun k hk => by unfold colCm; rw [hq, decide_eq_true (by omega), decide_eq_true (by omega)]; rfl
    have HV := Lib.hid hv
    have HCOL := Lib.hid hcol
    have HLEN := Lib.hid hlen
    have hb32 : b ≤ 32 := by omega
    have hb0 : 0 < b := by omega
    clear hq hv hcol hlen h1 h3
    go_enter Try.func22, Try.ntmps22
    go_wp2_with fail
    with_reducible refine (R1.out).mono ?_
    rintro e w1 ⟨rfl, rfl⟩
    go_wp2_with fail
    have hx0 := HX.out
    have hb0' := HB.out
    obtain ⟨W0, hW0⟩ : ∃ W0, W0 = ((w.alloc (Obj.cells #[.int .i64 (a : Int), .int .i64 (b : Int), .slice ao m cp] 24)).alloc (Obj.cells #[.int .i64 (a : Int), .int .i64 (b : Int), .slice ao m cp] 24)) := ⟨_, rfl⟩
    rw [← hW0] at hx0 hb0' ⊢
    clear hW0
    go_loopw [5, 6] (fun n i wr => ∃ k z : Nat, k ≤ a ∧ n = .int .u64 (z : Int) ∧ Hid (z = countL b L h k) ∧ i = .int .i64 (k : Int) ∧ HasC wr w.heap.size 24 #[.int .i64 (a : Int), .int .i64 (b : Int), .slice ao m cp] ∧ Below w.heap.size w wr) (fun _ i _ => a - (intOf i).toNat)
    case atStart => exact ⟨0, topN, Nat.zero_le _, rfl, rfl, rfl, hx0, hb0'⟩
    case round =>
      obtain ⟨k, z, hk, rfl, hz, rfl, hx, hbel⟩ := hrel
      clear hx0 hb0'
      have k0 := hx.cell 0
      by_cases hlt : k < a
      · have hklt : (k : Int) < (a : Int) := by omega
        have hcl := col_lt hb0 k h
        have hkk : (k + 1) * b ≤ a * b := Nat.mul_le_mul_right _ hlt
        have hab : a * b ≤ 128 := Nat.mul_le_mul h2 hb32
        rw [Nat.add_mul, Nat.one_mul] at hkk
        obtain ⟨d, hd⟩ : ∃ d, d = colC b k h := ⟨_, rfl⟩
        obtain ⟨p, hp⟩ : ∃ p, p = k * b := ⟨_, rfl⟩
        have hidx : p + d < L.length := by rw [HLEN.out, hp, hd]; omega
        obtain ⟨g, o, rfl, hgc⟩ := HCL.out (p + d) hidx
        have C1 := Lib.hid (fun W hs => K1.out W (k : Int) hs)
        rw [HCOL.out k hlt, ← hd] at C1
        have hpw : IntKind.i64.wrap ((k : Int) * (b : Int)) = (p : Int) := by
          have e : ((k : Int) * (b : Int)) = (p : Int) := by rw [hp]; push_cast; rfl
          rw [e]; exact wrap_ki _ (by omega) (by omega)
        obtain ⟨i, hi⟩ : ∃ i, i = p + d := ⟨_, rfl⟩
        have hiw : IntKind.i64.wrap ((p : Int) + (d : Int)) = (i : Int) := by rw [wrap_ki _ (by omega) (by omega)]; omega
        have him : i < m := by have := HM.out; omega
        obtain ⟨y, hy⟩ : ∃ y, y = L[p + d] := ⟨_, rfl⟩
        have hnext : countL b L h (k + 1) = min z y := by
          have e : L.getD (k * b + colC b k h) 0 = y := by rw [← hp, ← hd, hy, List.getD_eq_getElem?_getD, List.getElem?_eq_getElem hidx, Option.getD_some]
          rw [hz.out]
          show min (countL b L h k) (L.getD (k * b + colC b k h) 0) = _
          rw [e]
        have HNX := Lib.hid hnext
        have hE : ∀ W, Below w.heap.size w W → W.cell? ⟨g, o + i, none⟩ = some (nV y) := fun W hb => by rw [hi, hy]; exact hgc W hb
        obtain ⟨D, hD0, hDon, hDk⟩ : ∃ D : World → Prop, D wr ∧ (∀ W W', D W → Below W.heap.size W W' → D W') ∧ ∀ W, D W → HasC W w.heap.size 24 #[.int .i64 (a : Int), .int .i64 (b : Int), .slice (some ⟨g, o, none⟩) m cp] ∧ Below w.heap.size w W :=
          ⟨fun W => HasC W w.heap.size 24 #[.int .i64 (a : Int), .int .i64 (b : Int), .slice (some ⟨g, o, none⟩) m cp] ∧ Below w.heap.size w W, ⟨hx, hbel⟩, fun W W' h hb => ⟨h.1.below hb h.1.lt, h.2.trans (hb.mono h.2.size)⟩, fun _ h => h⟩
        have E1 : ∀ i : InC D, i.w.cell? ⟨w.heap.size, 0, none⟩ = some (.int .i64 (a : Int)) := fun i => (hDk _ i.h).1.cell 0
        have E2 : ∀ i : InC D, i.w.cell? ⟨w.heap.size, 1, none⟩ = some (.int .i64 (b : Int)) := fun i => (hDk _ i.h).1.cell 1
        have E3 : ∀ i : InC D, i.w.cell? ⟨w.heap.size, 2, none⟩ = some (.slice (some ⟨g, o, none⟩) m cp) := fun i => (hDk _ i.h).1.cell 2
        have E4 : ∀ j : InC D, j.w.cell? ⟨g, o + i, none⟩ = some (nV y) := fun j => hE _ (hDk _ j.h).2
        have HD0 := Lib.hid (hDon _ _ hD0 ((Below.refl _ _).drew))
        have HDON := Lib.hid hDon
        have HDK := Lib.hid hDk
        have hmin : (if (y : Int) < (z : Int) then (y : Int) else (z : Int)) = ((min z y : Nat) : Int) := by split <;> omega
        have hmin3 : (if y < z then (y : Int) else (z : Int)) = ((min z y : Nat) : Int) := by split <;> omega
        have hmin2 : min (z : Int) (y : Int) = ((min z y : Nat) : Int) := by omega
        obtain ⟨q, hq⟩ : ∃ q, q = min z y := ⟨_, rfl⟩
        rw [← hq] at hmin hmin2 hmin3 HNX
        clear hD0 hDon hDk hE hgc hnext hcl hkk hab hd hp hidx hi hy hq
        go_wp2_with fail
        refine region_class D (by kernel_rfl) (by kernel_rfl) HD0.out ?_
        intro hne
        repeat (go_big_quiet_step (((with_reducible refine (C1.out _ ?_).mono ?_); exact HS.out.below (HDK.out _ (InC.h _)).2; rintro e w' ⟨rfl, hw⟩; exact ⟨rfl, ⟨_, HDON.out _ _ (InC.h _) hw⟩, rfl⟩)))
        refine wpQuiet_nil ?_
        intro j
        obtain ⟨hx2, hb2⟩ := HDK.out _ j.h
        obtain ⟨W3, hW3⟩ : ∃ W3, j.w = W3 := ⟨_, rfl⟩
        rw [hW3] at hx2 hb2 ⊢
        clear hW3 E1 E2 E3 E4 hne hx hbel k0
        go_wp2_with fail
        go_roundw
        case rel => exact ⟨k + 1, q, by omega, by first | rfl | rw [hmin3] | rw [hmin2] | rw [hmin], HNX.out.symm, by go_num, hx2, hb2⟩
        case measure => simp [intOf]; omega
      · obtain rfl : k = a := by omega
        have hz1 := hz.out
        rw [← hz1] at HV
        clear hz1
        go_wp2_with fail
        go_ret
        exact ⟨by rw [HV.out]; rfl, hbel⟩
end Go.Proofs.Ythhlofcmhnkcmaa
