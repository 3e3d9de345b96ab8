/- The statements' walks: HllMerges. -/
import Derived.Test.YtnljepnmajcmgaaHLawsF
import Derived.Test.YtnljepnmajcmgaaHRef5
import Derived.Test.YtnljepnmajcmgaaHRef7
namespace Go.Proofs.Ytnljepnmajcmgaa
open Go.RowKit

set_option maxHeartbeats 16000000 in
set_option maxRecDepth 100000 in
theorem lawMerges7_any (bx : Int) (sx : ByteArray) (by' : Int) (sy : ByteArray) (w : World) (hx : sx.size ≤ maxLen) (hy : sy.size ≤ maxLen) :
    Calls Try.prog 4 #[.agg #[.int .i64 bx, .string sx], .agg #[.int .i64 by', .string sy]] w fun e w' => e = .returned (.bool true) ∧ Below w.heap.size w w' := by
  have F1 := Lib.hid (fun W => few7x_any bx sx hx W)
  have F2 := Lib.hid (fun W => few7x_any by' sy hy W)
  have n1 := cut260_size sx
  have n2 := cut260_size sy
  obtain ⟨X, hX⟩ : ∃ X, cut260 sx = X := ⟨_, rfl⟩
  obtain ⟨Y, hY⟩ : ∃ Y, cut260 sy = Y := ⟨_, rfl⟩
  rw [hX] at F1 n1
  rw [hY] at F2 n2
  obtain ⟨R, hRX, hR, hRl⟩ := regS_of X
  obtain ⟨S, hSY, hS, hSl⟩ := regS_of Y
  have M1 := Lib.hid (fun W => hMerge_any bx R by' S W hR hS (by omega) (by omega))
  have M2 := Lib.hid (fun W => pMerge_any bx R by' S W hR (by omega) hS (by omega))
  have L1 := Lib.hid (fun W => hLower_any bx R W hR (by omega))
  have L2 := Lib.hid (fun W => pLower_any bx R W hR (by omega))
  have C1 := Lib.hid (fun W => hCount_any bx R W hR (by omega))
  have C2 := Lib.hid (fun W => pCount_any bx R W hR (by omega))
  obtain ⟨⟨⟨mb, mr⟩, me⟩, hme⟩ : ∃ P, mergeH bx R by' S = P := ⟨_, rfl⟩
  obtain ⟨⟨⟨lb, lr⟩, le⟩, hle⟩ : ∃ P, lowerH bx R = P := ⟨_, rfl⟩
  obtain ⟨cn, hcn⟩ : ∃ c, countH bx R = c := ⟨_, rfl⟩
  obtain ⟨mS, hmS⟩ : ∃ s, regS mr = s := ⟨_, rfl⟩
  obtain ⟨lS, hlS⟩ : ∃ s, regS lr = s := ⟨_, rfl⟩
  simp only [hme, hle, hcn, hRX, hSY, hT, hV, hmS, hlS] at M1 M2 L1 L2 C1 C2
  clear hX hY n1 n2 hRX hR hRl hSY hS hSl hme hle hcn hmS hlS hx hy
  have hb0 : Below w.heap.size w ((w.alloc (Obj.cells #[.int .i64 bx, .string sx] 23)).alloc (Obj.cells #[.int .i64 by', .string sy] 23)) := ((Below.refl w.heap.size w).alloc (Nat.le_refl _) _).alloc (by simp) _
  have hx0 : HasC ((w.alloc (Obj.cells #[.int .i64 bx, .string sx] 23)).alloc (Obj.cells #[.int .i64 by', .string sy] 23)) w.heap.size 23 #[.int .i64 bx, .string sx] := (HasC.new w _ _).alloc _
  have hy0 : HasC ((w.alloc (Obj.cells #[.int .i64 bx, .string sx] 23)).alloc (Obj.cells #[.int .i64 by', .string sy] 23)) (w.heap.size + 1) 23 #[.int .i64 by', .string sy] := HasC.at_ _ _ _ (by simp)
  go_enter Try.func4, Try.ntmps4
  go_wp2_with fail
  with_reducible refine (shown7_any _).mono ?_
  rintro e w1 ⟨rfl, hb⟩
  have hk := hb0.trans (hb.mono hb0.size)
  have hx1 := hx0.below hb hx0.lt
  have hy1 := hy0.below hb hy0.lt
  have k0 := hx1.cell 0
  have k1 := hx1.cell 1
  clear hb hb0 hx0 hy0
  go_wp2_with fail
  with_reducible refine (F1.out _).mono ?_
  rintro e w2 ⟨rfl, hb⟩
  have hk := hk.trans (hb.mono hk.size)
  have hx2 := hx1.below hb hx1.lt
  have hy2 := hy1.below hb hy1.lt
  clear hb hx1 hy1 k0 k1
  have k0 := hx2.cell 0
  have k1 := hx2.cell 1
  have z0 := hx2.frozen 0
  have z1 := hx2.frozen 1
  have hx3 := ((hx2.set 0 (.int .i64 bx)).set 1 (.string X)).eq (cs' := #[.int .i64 bx, .string X]) rfl
  have hy3 := (hy2.far ⟨w.heap.size, 0, none⟩ (.int .i64 bx) (by simp)).far ⟨w.heap.size, 1, none⟩ (.string X) (by simp)
  have hk3 := (hk.setCell (p := ⟨w.heap.size, 0, none⟩) (Nat.le_refl _) (.int .i64 bx)).setCell (p := ⟨w.heap.size, 1, none⟩) (Nat.le_refl _) (.string X)
  have l0 := hy3.cell 0
  have l1 := hy3.cell 1
  have HX3 := Lib.hid hx3
  have HY3 := Lib.hid hy3
  have HK3 := Lib.hid hk3
  clear hx2 hy2 hx3 hy3 hk hk3
  go_wp2_with fail
  with_reducible refine (F2.out _).mono ?_
  rintro e w4 ⟨rfl, hb⟩
  have hk := HK3.out.trans (hb.mono HK3.out.size)
  have hx4 := HX3.out.below hb HX3.out.lt
  have hy4 := HY3.out.below hb HY3.out.lt
  clear hb k0 k1 z0 z1 l0 l1
  have k0 := hy4.cell 0
  have k1 := hy4.cell 1
  have z0 := hy4.frozen 0
  have z1 := hy4.frozen 1
  have hy5 := ((hy4.set 0 (.int .i64 by')).set 1 (.string Y)).eq (cs' := #[.int .i64 by', .string Y]) rfl
  have hx5 := (hx4.far ⟨w.heap.size + 1, 0, none⟩ (.int .i64 by') (by simp)).far ⟨w.heap.size + 1, 1, none⟩ (.string Y) (by simp)
  have hk5 := (hk.setCell (p := ⟨w.heap.size + 1, 0, none⟩) (by simp) (.int .i64 by')).setCell (p := ⟨w.heap.size + 1, 1, none⟩) (by simp) (.string Y)
  have l0 := hx5.cell 0
  have l1 := hx5.cell 1
  have m0 := hy5.cell 0
  have m1 := hy5.cell 1
  have HX5 := Lib.hid hx5
  have HY5 := Lib.hid hy5
  have HK5 := Lib.hid hk5
  clear hx4 hy4 hx5 hy5 hk hk5
  go_wp2_with fail
  with_reducible refine (M1.out _).mono ?_
  rintro e x1 ⟨rfl, hb⟩
  have hk := HK5.out.trans (hb.mono HK5.out.size)
  have atX : AtH x1 w.heap.size bx X := HX5.out.below hb HX5.out.lt
  have atY : AtH x1 (w.heap.size + 1) by' Y := HY5.out.below hb HY5.out.lt
  clear hb k0 k1 z0 z1 l0 l1 m0 m1
  obtain ⟨u1, hu1, hbu1, at1⟩ := atH_new x1 mb mS
  have hk := hk.trans (hbu1.mono hk.size)
  have atX := atX.on hbu1
  have atY := atY.on hbu1
  clear hbu1
  have p0 := atX.c0
  have q0 := atX.c1
  have p1 := atY.c0
  have q1 := atY.c1
  go_wp2_with fail
  with_reducible refine (M2.out _).mono ?_
  rintro e x2 ⟨rfl, hb⟩
  have hk := hk.trans (hb.mono hk.size)
  have atX := atX.on hb
  have atY := atY.on hb
  have at1 := at1.on hb
  clear hb
  clear p0 q0 p1 q1
  obtain ⟨u2, hu2, hbu2, at2⟩ := atH_new x2 mb mS
  have hk := hk.trans (hbu2.mono hk.size)
  have atX := atX.on hbu2
  have atY := atY.on hbu2
  have at1 := at1.on hbu2
  clear hbu2
  have p0 := atX.c0
  have q0 := atX.c1
  go_wp2_with fail
  with_reducible refine (L1.out _).mono ?_
  rintro e x3 ⟨rfl, hb⟩
  have hk := hk.trans (hb.mono hk.size)
  have atX := atX.on hb
  have at1 := at1.on hb
  have at2 := at2.on hb
  clear hb atY
  clear p0 q0
  obtain ⟨u3, hu3, hbu3, at3⟩ := atH_new x3 lb lS
  have hk := hk.trans (hbu3.mono hk.size)
  have atX := atX.on hbu3
  have at1 := at1.on hbu3
  have at2 := at2.on hbu3
  clear hbu3
  have p0 := atX.c0
  have q0 := atX.c1
  go_wp2_with fail
  with_reducible refine (L2.out _).mono ?_
  rintro e x4 ⟨rfl, hb⟩
  have hk := hk.trans (hb.mono hk.size)
  have atX := atX.on hb
  have at1 := at1.on hb
  have at2 := at2.on hb
  have at3 := at3.on hb
  clear hb
  clear p0 q0
  obtain ⟨u4, hu4, hbu4, at4⟩ := atH_new x4 lb lS
  have hk := hk.trans (hbu4.mono hk.size)
  have atX := atX.on hbu4
  have at1 := at1.on hbu4
  have at2 := at2.on hbu4
  have at3 := at3.on hbu4
  clear hbu4
  obtain ⟨D, hD0, hDon, hDk⟩ : ∃ D : World → Prop, D u4 ∧ (∀ W W', D W → Below W.heap.size W W' → D W') ∧ ∀ W, D W → AtH W w.heap.size bx X ∧ AtH W x1.heap.size mb mS ∧ AtH W x2.heap.size mb mS ∧ AtH W x3.heap.size lb lS ∧ AtH W x4.heap.size lb lS ∧ Below w.heap.size w W :=
    ⟨fun W => AtH W w.heap.size bx X ∧ AtH W x1.heap.size mb mS ∧ AtH W x2.heap.size mb mS ∧ AtH W x3.heap.size lb lS ∧ AtH W x4.heap.size lb lS ∧ Below w.heap.size w W, ⟨atX, at1, at2, at3, at4, hk⟩, fun W W' h hb => ⟨h.1.on hb, h.2.1.on hb, h.2.2.1.on hb, h.2.2.2.1.on hb, h.2.2.2.2.1.on hb, h.2.2.2.2.2.trans (hb.mono h.2.2.2.2.2.size)⟩, fun _ h => h⟩
  have E1 : ∀ i : InC D, i.w.cell? ⟨w.heap.size, 0, none⟩ = some (.int .i64 bx) := fun i => (hDk _ i.h).1.c0
  have E2 : ∀ i : InC D, i.w.cell? ⟨w.heap.size, 1, none⟩ = some (.string X) := fun i => (hDk _ i.h).1.c1
  have E3 : ∀ i : InC D, i.w.cell? ⟨x1.heap.size, 0, none⟩ = some (.int .i64 mb) := fun i => (hDk _ i.h).2.1.c0
  have E4 : ∀ i : InC D, i.w.cell? ⟨x1.heap.size, 1, none⟩ = some (.string mS) := fun i => (hDk _ i.h).2.1.c1
  have E5 : ∀ i : InC D, i.w.cell? ⟨x2.heap.size, 0, none⟩ = some (.int .i64 mb) := fun i => (hDk _ i.h).2.2.1.c0
  have E6 : ∀ i : InC D, i.w.cell? ⟨x2.heap.size, 1, none⟩ = some (.string mS) := fun i => (hDk _ i.h).2.2.1.c1
  have E7 : ∀ i : InC D, i.w.cell? ⟨x3.heap.size, 0, none⟩ = some (.int .i64 lb) := fun i => (hDk _ i.h).2.2.2.1.c0
  have E8 : ∀ i : InC D, i.w.cell? ⟨x3.heap.size, 1, none⟩ = some (.string lS) := fun i => (hDk _ i.h).2.2.2.1.c1
  have E9 : ∀ i : InC D, i.w.cell? ⟨x4.heap.size, 0, none⟩ = some (.int .i64 lb) := fun i => (hDk _ i.h).2.2.2.2.1.c0
  have E10 : ∀ i : InC D, i.w.cell? ⟨x4.heap.size, 1, none⟩ = some (.string lS) := fun i => (hDk _ i.h).2.2.2.2.1.c1
  have HDK := Lib.hid (fun i : InC D => (hDk _ i.h).2.2.2.2.2)
  have HDON := Lib.hid hDon
  have HD0 := Lib.hid (hDon _ _ hD0 ((Below.refl _ _).drew))
  clear hD0 hDon hDk atX at1 at2 at3 at4 hk
  go_wp2_with fail
  refine region_class D (by kernel_rfl) (by kernel_rfl) HD0.out ?_
  intro hne
  repeat (go_big_quiet_step (first
    | (go_at_call 27; (with_reducible refine (C1.out _).mono ?_); rintro e w' ⟨rfl, hb⟩; exact ⟨rfl, ⟨_, HDON.out _ _ (InC.h _) hb⟩, rfl⟩)
    | (go_at_call 28; (with_reducible refine (C2.out _).mono ?_); rintro e w' ⟨rfl, hb⟩; exact ⟨rfl, ⟨_, HDON.out _ _ (InC.h _) hb⟩, rfl⟩)))
  refine wpQuiet_nil ?_
  intro i
  go_wp2_with fail
  go_ret
  exact ⟨by simp, HDK.out i⟩
end Go.Proofs.Ytnljepnmajcmgaa
