/- The statements' walks, stage 9: a histogram of items. -/
import Derived.Test.YtpdedogdffolnaaGShown
import Derived.Deep.RegionHeldLaw
namespace Go.Proofs.Ytpdedogdffolnaa
open Go.RowKit

set_option maxHeartbeats 16000000 in
set_option maxRecDepth 100000 in
theorem kOf9 {n : Nat} (hn3 : n ≤ 3) (l : List (Nat × Nat)) (v : Value) (w : World) (hv : ItmSl w v l) (hl : ItOk l) :
    Calls Try.prog 33 #[.int .i64 (n : Int), v] w fun e w' => (∃ v', e = .returned (.tuple #[hgV n v', .int .i64 0]) ∧ BinSl w' v' (ofG n l)) ∧ Below w.heap.size w w' := by
  have A1 := Lib.hid (fun k (hk : k < l.length) v W hv => kAdd9 hn3 (hl.sub (m := l.take k) (by rw [List.length_take]; omega) (fun x hx => List.mem_of_mem_take hx)) l[k].1 l[k].2 (hl.2 _ (List.getElem_mem hk)).1 (hl.2 _ (List.getElem_mem hk)).2 v W hv)
  have hn : l.length ≤ 200 := hl.1
  obtain ⟨ao, cp, rfl, hcell⟩ := hv.shape
  have HCL := Lib.hid hcell
  obtain ⟨m, hm⟩ : ∃ m, m = l.length := ⟨_, rfl⟩
  have HM := Lib.hid hm
  rw [← hm] at hn ⊢
  unfold hgV at A1 ⊢
  obtain ⟨w1, hw1, hb1, hz1, at1⟩ := atG_new w 0 (.slice none 0 0)
  have HT1 := Lib.hid at1
  have HB1 := Lib.hid hb1
  clear hv hcell hm hl hb1 at1
  go_enter Try.func33, Try.ntmps33
  go_wp2_with fail
  obtain ⟨w3, hw3, hb3, hz3, at3⟩ := atG_new w1 n (.slice none 0 0)
  have hk3 := HB1.out.trans (hb3.mono HB1.out.size)
  have r3 := HT1.out.on hb3
  rw [hz1] at at3
  rw [hw3]
  clear hb3
  go_loopw [7] (fun i wr => ∃ (k : Nat) (a' : Option Addr) (n' c' : Nat), k ≤ m ∧ i = .int .i64 (k : Int) ∧ AtG wr (w.heap.size + 1) n (.slice a' n' c') ∧ BinSl wr (.slice a' n' c') (ofG n (l.take k)) ∧ AtG wr w.heap.size 0 (.slice none 0 0) ∧ Below w.heap.size w wr) (fun i _ => m - (intOf i).toNat)
  case atStart => exact ⟨0, none, 0, 0, Nat.zero_le _, rfl, at3, BinSl.nil _, r3, hk3⟩
  case round =>
    obtain ⟨k, a', n', c', hk, rfl, at4, z4, r4, hk4⟩ := hrel
    clear at3 r3 hk3 hw3 hz3
    have k0 := at4.c0
    have k1 := at4.c1
    by_cases hlt : k < m
    · have hklt : (k : Int) < (m : Int) := by omega
      have hkl : k < l.length := by have := HM.out; omega
      obtain ⟨g, o, rfl, hgc⟩ := HCL.out k hkl
      obtain ⟨y0, y1⟩ := hgc wr hk4
      have C1 := A1.out k hkl (.slice a' n' c')
      have htk : l.take (k + 1) = l.take k ++ [(l[k].1, l[k].2)] := by rw [List.take_succ_eq_append_getElem hkl]
      rw [← htk] at C1
      obtain ⟨q0, hq0⟩ : ∃ q, q = l[k].1 := ⟨_, rfl⟩
      obtain ⟨q1, hq1⟩ : ∃ q, q = l[k].2 := ⟨_, rfl⟩
      rw [← hq0, ← hq1] at C1
      rw [← hq0] at y0
      rw [← hq1] at y1
      have HC1 := Lib.hid C1
      have HT4 := Lib.hid at4
      have HZ4 := Lib.hid z4
      have HR4 := Lib.hid r4
      have HK4 := Lib.hid hk4
      have hxl := HasC.lt at4
      have hgl := World.block_lt_of_cell? _ _ y0
      have K0 := Lib.hid k0
      have K1 := Lib.hid k1
      have Y0 := Lib.hid y0
      have Y1 := Lib.hid y1
      clear C1 at4 z4 r4 hk4 hgc htk hkl hq0 hq1
      have KEEP : Hid (∀ W, Below wr.heap.size wr W → W.cell? ⟨w.heap.size + 1, 0, none⟩ = some (.int .i64 (n : Int)) ∧ W.cell? ⟨w.heap.size + 1, 1, none⟩ = some (.slice a' n' c') ∧ W.cell? ⟨g, o + k * 2, none⟩ = some (nV q0) ∧ W.cell? ⟨g, o + k * 2 + 1, none⟩ = some (nV q1)) :=
        fun W hb => ⟨(hb.cell (p := ⟨w.heap.size + 1, 0, none⟩) hxl).trans K0.out, (hb.cell (p := ⟨w.heap.size + 1, 1, none⟩) hxl).trans K1.out, (hb.cell (p := ⟨g, o + k * 2, none⟩) hgl).trans Y0.out, (hb.cell (p := ⟨g, o + k * 2 + 1, none⟩) hgl).trans Y1.out⟩
      go_wp2_with fail
      go_region_held_law (fun w' => w'.cell? ⟨w.heap.size + 1, 0, none⟩ = some (.int .i64 (n : Int)) ∧ w'.cell? ⟨w.heap.size + 1, 1, none⟩ = some (.slice a' n' c') ∧ w'.cell? ⟨g, o + k * 2, none⟩ = some (nV q0) ∧ w'.cell? ⟨g, o + k * 2 + 1, none⟩ = some (nV q1))
        (first
          | go_keep
          | exact KEEP.out _ HK8.out
          | exact KEEP.out _ (HK8.out.alloc HK8.out.size _)
          | exact KEEP.out _ ((HK8.out.setCell (p := ⟨wr.heap.size, 0, none⟩) (Nat.le_refl _) _).setCell (p := ⟨wr.heap.size, 1, none⟩) (Nat.le_refl _) _))
        (first
          | (go_at_call 15; refine (HC1.out _ (HZ4.out.below ((Below.refl _ _).drew))).mono ?_; rintro e w8 ⟨⟨v8, rfl, z8⟩, hb8⟩; obtain ⟨a8, n8, c8, rfl⟩ := z8.form; have HK8 : Hid (Below wr.heap.size wr w8) := ((Below.refl wr.heap.size wr).drew).trans hb8; have HZ8 := Lib.hid z8; clear z8 hb8)
          | (go_at_call 15; refine (HC1.out _ (HZ4.out.below (((Below.refl _ _).drew).alloc (Nat.le_refl _) _))).mono ?_; rintro e w8 ⟨⟨v8, rfl, z8⟩, hb8⟩; obtain ⟨a8, n8, c8, rfl⟩ := z8.form; have HL8 : Hid (AtG w8 wr.heap.size 0 (.slice none 0 0)) := AtG.on (HasC.new wr.drew 25 #[.int .i64 0, .slice none 0 0]) hb8; have g2 := HL8.out.c0; have g3 := HL8.out.c1; have g4 := HasC.frozen HL8.out 0; have g5 := HasC.frozen HL8.out 1; have HK8 : Hid (Below wr.heap.size wr w8) := (((Below.refl wr.heap.size wr).drew).alloc (Nat.le_refl _) _).trans (hb8.mono (by simp)); have HZ8 := Lib.hid z8; clear z8 hb8))
      all_goals clear k0 k1 y0 y1
      all_goals first
          | (have F1 : Below wr.heap.size wr (w8.alloc (Obj.cells #[.int .i64 (n : Int), .slice a8 n8 c8] 25)) := HK8.out.alloc HK8.out.size _
             have F2 : AtG (w8.alloc (Obj.cells #[.int .i64 (n : Int), .slice a8 n8 c8] 25)) w8.heap.size n (.slice a8 n8 c8) := HasC.new _ _ _
             have F3 : BinSl (w8.alloc (Obj.cells #[.int .i64 (n : Int), .slice a8 n8 c8] 25)) (.slice a8 n8 c8) (ofG n (l.take (k + 1))) := HZ8.out.below ((Below.refl _ _).alloc (Nat.le_refl _) _)
             generalize w8.alloc (Obj.cells #[.int .i64 (n : Int), .slice a8 n8 c8] 25) = WF at F1 F2 F3 ⊢
             have hX9 := AtG.on HT4.out F1
             have x0 := hX9.c0
             have x1 := hX9.c1
             have fz0 := HasC.frozen hX9 0
             have fz1 := HasC.frozen hX9 1
             have F4 := F2.c0
             have F5 := F2.c1
             have hN9 := Lib.hid (F3.far hX9 ⟨_, _, _, rfl⟩)
             have hk9 := HK4.out.trans (F1.mono HK4.out.size)
             have hB8 := Lib.hid ((hk9.setCell (p := ⟨w.heap.size + 1, 0, none⟩) (by simp) (.int .i64 (n : Int))).setCell (p := ⟨w.heap.size + 1, 1, none⟩) (by simp) (.slice a8 n8 c8))
             have hS9 := Lib.hid (hX9.put (g := (n : Int)) (u := .slice a8 n8 c8))
             have hR9 := Lib.hid (HasC.far (HasC.far (HR4.out.on F1) ⟨w.heap.size + 1, 0, none⟩ (.int .i64 (n : Int)) (by simp)) ⟨w.heap.size + 1, 1, none⟩ (.slice a8 n8 c8) (by simp))
             clear F1 F2 F3 hX9 hk9
             go_wp2_with fail
             go_roundw
             case rel => exact ⟨k + 1, a8, n8, c8, by omega, by go_num, hS9.out, ((hN9.out.set ⟨w.heap.size + 1, 0, none⟩ rfl _).set ⟨w.heap.size + 1, 1, none⟩ rfl _).sl, hR9.out, hB8.out⟩
             case measure => simp [intOf]; try omega)
          | (have F1 : Below wr.heap.size wr ((w8.setCell ⟨wr.heap.size, 0, none⟩ (.int .i64 (n : Int))).setCell ⟨wr.heap.size, 1, none⟩ (.slice a8 n8 c8)) := (HK8.out.setCell (p := ⟨wr.heap.size, 0, none⟩) (Nat.le_refl _) _).setCell (p := ⟨wr.heap.size, 1, none⟩) (Nat.le_refl _) _
             have F2 : AtG ((w8.setCell ⟨wr.heap.size, 0, none⟩ (.int .i64 (n : Int))).setCell ⟨wr.heap.size, 1, none⟩ (.slice a8 n8 c8)) wr.heap.size n (.slice a8 n8 c8) := HL8.out.put
             have F3 : BinSl ((w8.setCell ⟨wr.heap.size, 0, none⟩ (.int .i64 (n : Int))).setCell ⟨wr.heap.size, 1, none⟩ (.slice a8 n8 c8)) (.slice a8 n8 c8) (ofG n (l.take (k + 1))) := (((HZ8.out.far HL8.out ⟨_, _, _, rfl⟩).set ⟨wr.heap.size, 0, none⟩ rfl _).set ⟨wr.heap.size, 1, none⟩ rfl _).sl
             generalize (w8.setCell ⟨wr.heap.size, 0, none⟩ (.int .i64 (n : Int))).setCell ⟨wr.heap.size, 1, none⟩ (.slice a8 n8 c8) = WF at F1 F2 F3 ⊢
             have hX9 := AtG.on HT4.out F1
             have x0 := hX9.c0
             have x1 := hX9.c1
             have fz0 := HasC.frozen hX9 0
             have fz1 := HasC.frozen hX9 1
             have F4 := F2.c0
             have F5 := F2.c1
             have hN9 := Lib.hid (F3.far hX9 ⟨_, _, _, rfl⟩)
             have hk9 := HK4.out.trans (F1.mono HK4.out.size)
             have hB8 := Lib.hid ((hk9.setCell (p := ⟨w.heap.size + 1, 0, none⟩) (by simp) (.int .i64 (n : Int))).setCell (p := ⟨w.heap.size + 1, 1, none⟩) (by simp) (.slice a8 n8 c8))
             have hS9 := Lib.hid (hX9.put (g := (n : Int)) (u := .slice a8 n8 c8))
             have hR9 := Lib.hid (HasC.far (HasC.far (HR4.out.on F1) ⟨w.heap.size + 1, 0, none⟩ (.int .i64 (n : Int)) (by simp)) ⟨w.heap.size + 1, 1, none⟩ (.slice a8 n8 c8) (by simp))
             clear F1 F2 F3 hX9 hk9
             go_wp2_with fail
             go_roundw
             case rel => exact ⟨k + 1, a8, n8, c8, by omega, by go_num, hS9.out, ((hN9.out.set ⟨w.heap.size + 1, 0, none⟩ rfl _).set ⟨w.heap.size + 1, 1, none⟩ rfl _).sl, hR9.out, hB8.out⟩
             case measure => simp [intOf]; try omega)
    · obtain rfl : k = m := by omega
      have hnk : ¬ (k : Int) < (k : Int) := by omega
      have htl : l.take k = l := List.take_of_length_le (by have := HM.out; omega)
      rw [htl] at z4
      have d0 := r4.c0
      have d1 := r4.c1
      have f0 := HasC.frozen r4 0
      have f1 := HasC.frozen r4 1
      have HZ4 := Lib.hid (z4.far r4 ⟨_, _, _, rfl⟩)
      have HR4 := Lib.hid r4
      have HK4 := Lib.hid hk4
      clear at4 z4 r4 hk4 htl
      go_wp2_with fail
      refine bodyPost_ret (results_hist rfl _ _ w.heap.size _ _ rfl (HR4.out.put)) rfl ?_
      exact ⟨⟨_, rfl, ((HZ4.out.set ⟨w.heap.size, 0, none⟩ rfl _).set ⟨w.heap.size, 1, none⟩ rfl _).sl⟩, (HK4.out.setCell (p := ⟨w.heap.size, 0, none⟩) (Nat.le_refl _) _).setCell (p := ⟨w.heap.size, 1, none⟩) (Nat.le_refl _) _⟩
end Go.Proofs.Ytpdedogdffolnaa
