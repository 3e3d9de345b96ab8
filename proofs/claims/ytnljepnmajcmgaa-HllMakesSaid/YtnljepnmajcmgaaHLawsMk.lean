/- The statements' walks: HllMakes. -/
import Derived.Test.YtnljepnmajcmgaaHLawsF
import Derived.Test.YtnljepnmajcmgaaHRef4
namespace Go.Proofs.Ytnljepnmajcmgaa
open Go.RowKit

set_option maxHeartbeats 16000000 in
set_option maxRecDepth 100000 in
theorem lawMakes7_any (bx : Int) (sx : ByteArray) (b : Int) (l : List Nat) (n : Nat) (v : Value) (w : World) (hx : sx.size ≤ maxLen) (h : NumSl w v l) (hn : l.length ≤ maxLen) (hl : ∀ x ∈ l, x < 18446744073709551616) (hnn : n < 18446744073709551616) :
    Calls Try.prog 3 #[.agg #[.int .i64 bx, .string sx], .int .i64 b, v, nV n] w fun e w' => e = .returned (.bool true) ∧ Below w.heap.size w w' := by
  have F1 := Lib.hid (fun W => few7x_any bx sx hx W)
  have nX := cut260_size sx
  obtain ⟨X, hX⟩ : ∃ X, cut260 sx = X := ⟨_, rfl⟩
  rw [hX] at F1 nX
  obtain ⟨R, hRX, hR, hRl⟩ := regS_of X
  have HV := Lib.hid h
  have FB := Lib.hid (fun W h => few7_any l v W h hn)
  have lU : (l.take 100).length ≤ 200 := by rw [List.length_take]; omega
  have hlU : ∀ x ∈ l.take 100, x < 18446744073709551616 := fun x hx => hl x (List.mem_of_mem_take hx)
  obtain ⟨U, hU⟩ : ∃ U, l.take 100 = U := ⟨_, rfl⟩
  rw [hU] at FB lU hlU
  have O1 := Lib.hid (fun v W h => hOf_any b U v W h lU hlU)
  have O2 := Lib.hid (fun v W h => pOf_any b U v W h (by omega) hlU)
  have A1 := Lib.hid (fun W => hAdd_any bx R n W hR (by omega) hnn)
  have A2 := Lib.hid (fun W => pAdd_any bx R n W hR (by omega) hnn)
  have P1 := Lib.hid (fun W => hPlace_any b n W hnn)
  have P2 := Lib.hid (fun W => pPlace_any b n W hnn)
  have N1 := Lib.hid (fun W => hNew_any b W)
  have N2 := Lib.hid (fun W => pNew_any b W)
  have R1 := Lib.hid (fun W => hRight_any bx R W hR (by omega))
  have R2 := Lib.hid (fun W => pRight_any bx R W hR (by omega))
  obtain ⟨⟨⟨ob, orr⟩, oe⟩, hoe⟩ : ∃ P, ofH b U = P := ⟨_, rfl⟩
  obtain ⟨⟨⟨ab, ar⟩, ae⟩, hae⟩ : ∃ P, addH bx R n = P := ⟨_, rfl⟩
  obtain ⟨⟨⟨nb, nr⟩, ne⟩, hne'⟩ : ∃ P, newH b = P := ⟨_, rfl⟩
  obtain ⟨⟨pa, pr⟩, hpp⟩ : ∃ P, placeH b n = P := ⟨_, rfl⟩
  obtain ⟨rt, hrt⟩ : ∃ r, rightR bx R = r := ⟨_, rfl⟩
  obtain ⟨oS, hoS⟩ : ∃ s, regS orr = s := ⟨_, rfl⟩
  obtain ⟨aS, haS⟩ : ∃ s, regS ar = s := ⟨_, rfl⟩
  obtain ⟨nS, hnS⟩ : ∃ s, regS nr = s := ⟨_, rfl⟩
  simp only [hoe, hae, hne', hpp, hrt, hRX, hT, hV, hoS, haS, hnS] at O1 O2 A1 A2 P1 P2 N1 N2 R1 R2
  obtain ⟨a1, c1, rfl, _⟩ := h.shape
  obtain ⟨n1, hn1⟩ : ∃ n, n = l.length := ⟨_, rfl⟩
  rw [← hn1] at FB HV ⊢
  clear h hn hU hn1 hl hlU lU hX nX hRX hR hRl hoe hae hne' hpp hrt hoS haS hnS hx hnn
  have hb0 : Below w.heap.size w (w.alloc (Obj.cells #[.int .i64 bx, .string sx] 23)) := (Below.refl w.heap.size w).alloc (Nat.le_refl _) _
  have hx0 : HasC (w.alloc (Obj.cells #[.int .i64 bx, .string sx] 23)) w.heap.size 23 #[.int .i64 bx, .string sx] := HasC.new w _ _
  go_enter Try.func3, Try.ntmps3
  go_wp2_with fail
  with_reducible refine (shown7_any _).mono ?_
  rintro e w1 ⟨rfl, hb⟩
  have hk := hb0.trans (hb.mono hb0.size)
  have hx1 := hx0.below hb hx0.lt
  have k0 := hx1.cell 0
  have k1 := hx1.cell 1
  clear hb hb0 hx0
  go_wp2_with fail
  with_reducible refine (F1.out _).mono ?_
  rintro e w2 ⟨rfl, hb⟩
  have hk := hk.trans (hb.mono hk.size)
  have hx2 := hx1.below hb hx1.lt
  clear hb hx1 k0 k1
  have k0 := hx2.cell 0
  have k1 := hx2.cell 1
  have z0 := hx2.frozen 0
  have z1 := hx2.frozen 1
  have hx3 := ((hx2.set 0 (.int .i64 bx)).set 1 (.string X)).eq (cs' := #[.int .i64 bx, .string X]) rfl
  have hk3 := (hk.setCell (p := ⟨w.heap.size, 0, none⟩) (Nat.le_refl _) (.int .i64 bx)).setCell (p := ⟨w.heap.size, 1, none⟩) (Nat.le_refl _) (.string X)
  have HX3 := Lib.hid hx3
  have HK3 := Lib.hid hk3
  clear hx2 hx3 hk hk3
  go_wp2_with fail
  with_reducible refine (FB.out _ (HV.out.below HK3.out)).mono ?_
  rintro e w4 ⟨s2, rfl, hs2, rfl⟩
  go_wp2_with fail
  with_reducible refine (O1.out _ _ hs2).mono ?_
  rintro e x1 ⟨rfl, hb⟩
  have hk := HK3.out.trans (hb.mono HK3.out.size)
  have atX : AtH x1 w.heap.size bx X := HX3.out.below hb HX3.out.lt
  clear hb k0 k1 z0 z1 hs2
  obtain ⟨u1, hu1, hbu1, at1⟩ := atH_new x1 ob oS
  have hk := hk.trans (hbu1.mono hk.size)
  have atX := atX.on hbu1
  clear hbu1
  go_wp2_with fail
  with_reducible refine (FB.out _ (HV.out.below hk)).mono ?_
  rintro e w5 ⟨s3, rfl, hs3, rfl⟩
  go_wp2_with fail
  with_reducible refine (O2.out _ _ hs3).mono ?_
  rintro e x2 ⟨rfl, hb⟩
  have hk := hk.trans (hb.mono hk.size)
  have atX := atX.on hb
  have at1 := at1.on hb
  clear hb hs3
  obtain ⟨u2, hu2, hbu2, at2⟩ := atH_new x2 ob oS
  have hk := hk.trans (hbu2.mono hk.size)
  have atX := atX.on hbu2
  have at1 := at1.on hbu2
  clear hbu2
  have p0 := atX.c0
  have q0 := atX.c1
  go_wp2_with fail
  with_reducible refine (A1.out _).mono ?_
  rintro e x3 ⟨rfl, hb⟩
  have hk := hk.trans (hb.mono hk.size)
  have atX := atX.on hb
  have at1 := at1.on hb
  have at2 := at2.on hb
  clear hb p0 q0
  obtain ⟨u3, hu3, hbu3, at3⟩ := atH_new x3 ab aS
  have hk := hk.trans (hbu3.mono hk.size)
  have atX := atX.on hbu3
  have at1 := at1.on hbu3
  have at2 := at2.on hbu3
  clear hbu3
  have p0 := atX.c0
  have q0 := atX.c1
  go_wp2_with fail
  with_reducible refine (A2.out _).mono ?_
  rintro e x4 ⟨rfl, hb⟩
  have hk := hk.trans (hb.mono hk.size)
  have atX := atX.on hb
  have at1 := at1.on hb
  have at2 := at2.on hb
  have at3 := at3.on hb
  clear hb p0 q0
  obtain ⟨u4, hu4, hbu4, at4⟩ := atH_new x4 ab aS
  have hk := hk.trans (hbu4.mono hk.size)
  have atX := atX.on hbu4
  have at1 := at1.on hbu4
  have at2 := at2.on hbu4
  have at3 := at3.on hbu4
  clear hbu4
  go_wp2_with fail
  with_reducible refine (P1.out _).mono ?_
  rintro e x5 ⟨rfl, hb⟩
  have hk := hk.trans (hb.mono hk.size)
  have atX := atX.on hb
  have at1 := at1.on hb
  have at2 := at2.on hb
  have at3 := at3.on hb
  have at4 := at4.on hb
  clear hb
  go_wp2_with fail
  with_reducible refine (P2.out _).mono ?_
  rintro e x6 ⟨rfl, hb⟩
  have hk := hk.trans (hb.mono hk.size)
  have atX := atX.on hb
  have at1 := at1.on hb
  have at2 := at2.on hb
  have at3 := at3.on hb
  have at4 := at4.on hb
  clear hb
  go_wp2_with fail
  with_reducible refine (N1.out _).mono ?_
  rintro e x7 ⟨rfl, hb⟩
  have hk := hk.trans (hb.mono hk.size)
  have atX := atX.on hb
  have at1 := at1.on hb
  have at2 := at2.on hb
  have at3 := at3.on hb
  have at4 := at4.on hb
  clear hb
  obtain ⟨u7, hu7, hbu7, at7⟩ := atH_new x7 nb nS
  have hk := hk.trans (hbu7.mono hk.size)
  have atX := atX.on hbu7
  have at1 := at1.on hbu7
  have at2 := at2.on hbu7
  have at3 := at3.on hbu7
  have at4 := at4.on hbu7
  clear hbu7
  go_wp2_with fail
  with_reducible refine (N2.out _).mono ?_
  rintro e x8 ⟨rfl, hb⟩
  have hk := hk.trans (hb.mono hk.size)
  have atX := atX.on hb
  have at1 := at1.on hb
  have at2 := at2.on hb
  have at3 := at3.on hb
  have at4 := at4.on hb
  have at7 := at7.on hb
  clear hb
  obtain ⟨u8, hu8, hbu8, at8⟩ := atH_new x8 nb nS
  have hk := hk.trans (hbu8.mono hk.size)
  have atX := atX.on hbu8
  have at1 := at1.on hbu8
  have at2 := at2.on hbu8
  have at3 := at3.on hbu8
  have at4 := at4.on hbu8
  have at7 := at7.on hbu8
  clear hbu8
  obtain ⟨D, hD0, hDon, hDk⟩ : ∃ D : World → Prop, D u8 ∧ (∀ W W', D W → Below W.heap.size W W' → D W') ∧ ∀ W, D W → AtH W w.heap.size bx X ∧ AtH W x1.heap.size ob oS ∧ AtH W x2.heap.size ob oS ∧ AtH W x3.heap.size ab aS ∧ AtH W x4.heap.size ab aS ∧ AtH W x7.heap.size nb nS ∧ AtH W x8.heap.size nb nS ∧ Below w.heap.size w W :=
    ⟨fun W => AtH W w.heap.size bx X ∧ AtH W x1.heap.size ob oS ∧ AtH W x2.heap.size ob oS ∧ AtH W x3.heap.size ab aS ∧ AtH W x4.heap.size ab aS ∧ AtH W x7.heap.size nb nS ∧ AtH W x8.heap.size nb nS ∧ Below w.heap.size w W, ⟨atX, at1, at2, at3, at4, at7, at8, hk⟩, fun W W' h hb => ⟨h.1.on hb, h.2.1.on hb, h.2.2.1.on hb, h.2.2.2.1.on hb, h.2.2.2.2.1.on hb, h.2.2.2.2.2.1.on hb, h.2.2.2.2.2.2.1.on hb, h.2.2.2.2.2.2.2.trans (hb.mono h.2.2.2.2.2.2.2.size)⟩, fun _ h => h⟩
  have E1 : ∀ i : InC D, i.w.cell? ⟨w.heap.size, 0, none⟩ = some (.int .i64 bx) := fun i => (hDk _ i.h).1.c0
  have E2 : ∀ i : InC D, i.w.cell? ⟨w.heap.size, 1, none⟩ = some (.string X) := fun i => (hDk _ i.h).1.c1
  have E3 : ∀ i : InC D, i.w.cell? ⟨x1.heap.size, 0, none⟩ = some (.int .i64 ob) := fun i => (hDk _ i.h).2.1.c0
  have E4 : ∀ i : InC D, i.w.cell? ⟨x1.heap.size, 1, none⟩ = some (.string oS) := fun i => (hDk _ i.h).2.1.c1
  have E5 : ∀ i : InC D, i.w.cell? ⟨x2.heap.size, 0, none⟩ = some (.int .i64 ob) := fun i => (hDk _ i.h).2.2.1.c0
  have E6 : ∀ i : InC D, i.w.cell? ⟨x2.heap.size, 1, none⟩ = some (.string oS) := fun i => (hDk _ i.h).2.2.1.c1
  have E7 : ∀ i : InC D, i.w.cell? ⟨x3.heap.size, 0, none⟩ = some (.int .i64 ab) := fun i => (hDk _ i.h).2.2.2.1.c0
  have E8 : ∀ i : InC D, i.w.cell? ⟨x3.heap.size, 1, none⟩ = some (.string aS) := fun i => (hDk _ i.h).2.2.2.1.c1
  have E9 : ∀ i : InC D, i.w.cell? ⟨x4.heap.size, 0, none⟩ = some (.int .i64 ab) := fun i => (hDk _ i.h).2.2.2.2.1.c0
  have E10 : ∀ i : InC D, i.w.cell? ⟨x4.heap.size, 1, none⟩ = some (.string aS) := fun i => (hDk _ i.h).2.2.2.2.1.c1
  have E11 : ∀ i : InC D, i.w.cell? ⟨x7.heap.size, 0, none⟩ = some (.int .i64 nb) := fun i => (hDk _ i.h).2.2.2.2.2.1.c0
  have E12 : ∀ i : InC D, i.w.cell? ⟨x7.heap.size, 1, none⟩ = some (.string nS) := fun i => (hDk _ i.h).2.2.2.2.2.1.c1
  have E13 : ∀ i : InC D, i.w.cell? ⟨x8.heap.size, 0, none⟩ = some (.int .i64 nb) := fun i => (hDk _ i.h).2.2.2.2.2.2.1.c0
  have E14 : ∀ i : InC D, i.w.cell? ⟨x8.heap.size, 1, none⟩ = some (.string nS) := fun i => (hDk _ i.h).2.2.2.2.2.2.1.c1
  have HDK := Lib.hid (fun i : InC D => (hDk _ i.h).2.2.2.2.2.2.2)
  have HDON := Lib.hid hDon
  have HD0 := Lib.hid (hDon _ _ hD0 ((Below.refl _ _).drew))
  clear hD0 hDon hDk atX at1 at2 at3 at4 at7 at8 hk
  go_wp2_with fail
  refine region_class D (by kernel_rfl) (by kernel_rfl) HD0.out ?_
  intro hne
  repeat (go_big_quiet_step (first
    | (go_at_call 21; (with_reducible refine (R1.out _).mono ?_); rintro e w' ⟨rfl, hb⟩; exact ⟨rfl, ⟨_, HDON.out _ _ (InC.h _) hb⟩, rfl⟩)
    | (go_at_call 22; (with_reducible refine (R2.out _).mono ?_); rintro e w' ⟨rfl, hb⟩; exact ⟨rfl, ⟨_, HDON.out _ _ (InC.h _) hb⟩, rfl⟩)))
  refine wpQuiet_nil ?_
  intro i
  go_wp2_with fail
  go_ret
  exact ⟨by simp, HDK.out i⟩
end Go.Proofs.Ytnljepnmajcmgaa
