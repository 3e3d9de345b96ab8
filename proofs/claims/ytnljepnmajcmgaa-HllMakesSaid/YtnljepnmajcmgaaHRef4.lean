/- The page's own answers for layer 7: Of. -/
import Derived.Test.YtnljepnmajcmgaaHRef3
import Derived.Test.YtnljepnmajcmgaaQuiet
namespace Go.Proofs.Ytnljepnmajcmgaa
open Go.RowKit

theorem pNew_bad {b : Int} (hq : okB b = false) (w : World) : Calls Try.prog 20 #[.int .i64 b] w fun e w' => e = .returned (.tuple #[.agg #[.int .i64 0, .string { data := #[] }], .int .i64 70]) ∧ Below w.heap.size w w' := by
  have h := pNew_any b w
  rw [show newH b = badR by unfold newH; rw [hq]; rfl] at h
  exact h
theorem pNew_ok {n : Nat} (h3 : 3 ≤ n) (h8 : n ≤ 8) (w : World) : Calls Try.prog 20 #[.int .i64 (n : Int)] w fun e w' => e = .returned (.tuple #[.agg #[.int .i64 (n : Int), .string (regS (ofR n []))], .int .i64 0]) ∧ Below w.heap.size w w' := by
  have h := pNew_any (n : Int) w
  rw [show newH (n : Int) = (((n : Int), ofR n []), 0) by unfold newH; rw [okB_of h3 h8]; rfl] at h
  exact h
theorem pAdd_ok {n : Nat} (h3 : 3 ≤ n) (h8 : n ≤ 8) (l : List Nat) (x : Nat) (hx : x < 18446744073709551616) (w : World) :
    Calls Try.prog 16 #[.agg #[.int .i64 (n : Int), .string (regS (ofR n l))], nV x] w fun e w' => e = .returned (.tuple #[.agg #[.int .i64 (n : Int), .string (regS (ofR n (l ++ [x])))], .int .i64 0]) ∧ Below w.heap.size w w' := by
  have h := pAdd_any (n : Int) (ofR n l) x w (byteL_of l) (by rw [of_size]; have := pow_le8 h8; omega) hx
  rw [addH_of h3 h8] at h
  exact h
set_option maxHeartbeats 4000000 in
set_option maxRecDepth 100000 in
theorem pOf_any (b : Int) (L : List Nat) (v : Value) (w : World) (hv : NumSl w v L) (hn : L.length ≤ 1000) (hL : ∀ x ∈ L, x < 18446744073709551616) :
    Calls Try.prog 14 #[.int .i64 b, v] w fun e w' => e = .returned (hT (ofH b L)) ∧ Below w.heap.size w w' := by
  obtain ⟨ao, c, rfl, hcells⟩ := hv.shape
  obtain ⟨m, hm⟩ : ∃ m, m = L.length := ⟨_, rfl⟩
  have HM := Lib.hid hm
  have HC := Lib.hid hcells
  have HL := Lib.hid hL
  rw [← hm] at hn ⊢
  clear hm hcells hv hL
  have hx0 := HasC.new w 23 #[.int .i64 0, .string { data := #[] }]
  have hb0 := (Below.refl w.heap.size w).alloc (Nat.le_refl _) (Obj.cells #[.int .i64 0, .string { data := #[] }] 23)
  have HX := Lib.hid hx0
  have HB := Lib.hid hb0
  clear hx0 hb0
  cases hq : okB b with
  | false =>
    have N1 := Lib.hid (fun W => pNew_bad hq W)
    rw [ofH_bad hq]
    clear hq
    go_enter Try.func14, Try.ntmps14
    go_wp2_with fail
    with_reducible refine (N1.out _).mono ?_
    rintro e w1 ⟨rfl, hb⟩
    have hb1 := HB.out.trans (hb.mono HB.out.size)
    have hx1 := HX.out.below hb (by simp)
    have hlt := hx1.lt
    have hx2 := hx1.alloc (Obj.cells #[.int .i64 0, .string { data := #[] }] 23)
    have hb2 := hb1.alloc (by omega) (Obj.cells #[.int .i64 0, .string { data := #[] }] 23)
    have c0 := hx2.cell 0
    have c1 := hx2.cell 1
    have z0 := hx2.frozen 0
    have z1 := hx2.frozen 1
    have HX2 := Lib.hid hx2
    have HB2 := Lib.hid hb2
    clear hb hb1 hx1 hx2 hb2 c0 c1 z0 z1
    go_wp2_with fail
    go_loopw [7, 8] (fun e i wr => e = .int .i64 70 ∧ i = .int .i64 0 ∧ HasC wr w.heap.size 23 #[.int .i64 0, .string { data := #[] }] ∧ HasC wr w1.heap.size 23 #[.int .i64 0, .string { data := #[] }] ∧ Below w.heap.size w wr) (fun _ _ _ => 0)
    case atStart => exact ⟨rfl, rfl, HX2.out, HasC.new w1 _ _, HB2.out⟩
    case round =>
      obtain ⟨rfl, rfl, hx, hy, hbel⟩ := hrel
      have c0 := hx.cell 0
      have c1 := hx.cell 1
      have z0 := hx.frozen 0
      have z1 := hx.frozen 1
      have y0 := hy.cell 0
      have y1 := hy.cell 1
      by_cases h0 : (0 : Int) < (m : Int)
      · go_wp2_with fail
        have hr3 := ((hx.set 0 (.int .i64 0)).set 1 (.string { data := #[] })).eq (cs' := #[.int .i64 0, .string { data := #[] }]) rfl
        refine bodyPost_ret (results_hll rfl _ _ w.heap.size _ _ rfl hr3) rfl ?_
        exact ⟨rfl, (hbel.setCell (p := ⟨w.heap.size, 0, none⟩) (Nat.le_refl _) _).setCell (p := ⟨w.heap.size, 1, none⟩) (Nat.le_refl _) _⟩
      · go_wp2_with fail
        have hr3 := ((hx.set 0 (.int .i64 0)).set 1 (.string { data := #[] })).eq (cs' := #[.int .i64 0, .string { data := #[] }]) rfl
        refine bodyPost_ret (results_hll rfl _ _ w.heap.size _ _ rfl hr3) rfl ?_
        exact ⟨rfl, (hbel.setCell (p := ⟨w.heap.size, 0, none⟩) (Nat.le_refl _) _).setCell (p := ⟨w.heap.size, 1, none⟩) (Nat.le_refl _) _⟩
  | true =>
    obtain ⟨n, rfl, h3, h8⟩ := okB_nat hq
    have N1 := Lib.hid (fun W => pNew_ok h3 h8 W)
    have A1 := Lib.hid (fun l x hx W => pAdd_ok h3 h8 l x hx W)
    rw [ofH_ok h3 h8]
    clear hq
    go_enter Try.func14, Try.ntmps14
    go_wp2_with fail
    with_reducible refine (N1.out _).mono ?_
    rintro e w1 ⟨rfl, hb⟩
    have hb1 := HB.out.trans (hb.mono HB.out.size)
    have hx1 := HX.out.below hb (by simp)
    have hlt := hx1.lt
    have hx2 := hx1.alloc (Obj.cells #[.int .i64 n, .string (regS (ofR n []))] 23)
    have hy2 := HasC.new w1 23 #[.int .i64 n, .string (regS (ofR n []))]
    have hb2 := hb1.alloc (by omega) (Obj.cells #[.int .i64 n, .string (regS (ofR n []))] 23)
    clear hb hb1 hx1
    go_wp2_with fail
    go_loopw [7, 8] (fun e i wr => ∃ k : Nat, k ≤ m ∧ e = .int .i64 0 ∧ i = .int .i64 k ∧ HasC wr w.heap.size 23 #[.int .i64 0, .string { data := #[] }] ∧ HasC wr w1.heap.size 23 #[.int .i64 n, .string (regS (ofR n (L.take k)))] ∧ Below w.heap.size w wr) (fun _ i _ => m - (intOf i).toNat)
    case atStart => exact ⟨0, Nat.zero_le _, rfl, rfl, hx2, by rw [List.take_zero]; exact hy2, hb2⟩
    case round =>
      obtain ⟨k, hk, rfl, rfl, hx, hy, hbel⟩ := hrel
      clear hx2 hy2 hb2
      by_cases hlt : k < m
      · have hkL : k < L.length := by have := HM.out; omega
        have htk : L.take (k + 1) = L.take k ++ [L[k]] := List.take_succ_eq_append_getElem hkL
        obtain ⟨g, o, rfl, hc0⟩ := HC.out k hkL
        have A2 := Lib.hid (A1.out (L.take k) L[k] (HL.out _ (List.getElem_mem hkL)))
        obtain ⟨y, hy'⟩ : ∃ y, L[k] = y := ⟨_, rfl⟩
        rw [hy'] at htk A2 hc0
        rw [← htk] at A2
        obtain ⟨S, hS⟩ : ∃ S, regS (ofR n (L.take k)) = S := ⟨_, rfl⟩
        obtain ⟨S2, hS2⟩ : ∃ S, regS (ofR n (L.take (k + 1))) = S := ⟨_, rfl⟩
        rw [hS] at A2 hy
        rw [hS2] at A2
        have y0 := hy.cell 0
        have y1 := hy.cell 1
        have e3 := hc0 _ hbel
        have HX := Lib.hid hx
        have HY := Lib.hid hy
        have HE := Lib.hid hbel
        have HS2 := Lib.hid hS2
        have hltx := hx.lt
        have hlty := hy.lt
        clear hx hy hbel hc0 htk hy' hS hS2
        go_wp2_with fail
        go_region_with ((go_at_call 16; ((with_reducible refine (A2.out _).mono ?_); rintro e w8 ⟨rfl, hb8⟩; have HK8 : Hid (Below wr.heap.size wr w8) := ((Below.refl wr.heap.size wr).drew).trans (hb8.mono (show wr.heap.size ≤ wr.drew.heap.size from Nat.le_refl _)); have HY8 := Lib.hid (HY.out.below HK8.out hlty); have p0 := HY8.out.cell 0; have p1 := HY8.out.cell 1; have z0 := HY8.out.frozen 0; have z1 := HY8.out.frozen 1; clear hb8)))
        all_goals
          have hx2 := ((HX.out.below HK8.out hltx).far ⟨w1.heap.size, 0, none⟩ (.int .i64 n) (by simp; omega)).far ⟨w1.heap.size, 1, none⟩ (.string S2) (by simp; omega)
          have hy2 := ((HY8.out.set 0 (.int .i64 (n : Int))).set 1 (.string S2)).eq (cs' := #[.int .i64 (n : Int), .string (regS (ofR n (L.take (k + 1))))]) (by rw [HS2.out]; rfl)
          have hb2 := ((HE.out.trans (HK8.out.mono HE.out.size)).setCell (p := ⟨w1.heap.size, 0, none⟩) (by simp; omega) (.int .i64 (n : Int))).setCell (p := ⟨w1.heap.size, 1, none⟩) (by simp; omega) (.string S2)
          have HX2 := Lib.hid hx2
          have HY2 := Lib.hid hy2
          have HB2 := Lib.hid hb2
          clear hx2 hy2 hb2 p0 p1 z0 z1 y0 y1 e3
          go_wp2_with fail
          go_roundw
          case rel => exact ⟨k + 1, by omega, rfl, by go_num, HX2.out, HY2.out, HB2.out⟩
          case measure => simp [intOf]; omega
      · obtain rfl : k = m := by omega
        have hx0 := hx.cell 0
        have hx1 := hx.cell 1
        have z0 := hx.frozen 0
        have z1 := hx.frozen 1
        have y0 := hy.cell 0
        have y1 := hy.cell 1
        have htl : L.take k = L := List.take_of_length_le (by have := HM.out; omega)
        rw [htl] at y1
        go_wp2_with fail
        have hr3 := ((hx.set 0 (.int .i64 (n : Int))).set 1 (.string (regS (ofR n L)))).eq (cs' := #[.int .i64 (n : Int), .string (regS (ofR n L))]) rfl
        refine bodyPost_ret (results_hll rfl _ _ w.heap.size _ _ rfl hr3) rfl ?_
        exact ⟨rfl, (hbel.setCell (p := ⟨w.heap.size, 0, none⟩) (Nat.le_refl _) _).setCell (p := ⟨w.heap.size, 1, none⟩) (Nat.le_refl _) _⟩
end Go.Proofs.Ytnljepnmajcmgaa
