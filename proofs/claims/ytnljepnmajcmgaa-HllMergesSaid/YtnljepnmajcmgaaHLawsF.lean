/- The statements' walks: Few. -/
import Derived.Test.YtnljepnmajcmgaaHLaws
namespace Go.Proofs.Ytnljepnmajcmgaa
open Go.RowKit

def cut260 (s : ByteArray) : ByteArray := s.extract 0 (min s.size 260)
theorem cut260_size (s : ByteArray) : (cut260 s).size ≤ 260 := by unfold cut260; simp; omega
def FewH (w : World) (b : Int) (s : ByteArray) (W : World) : Prop := HasC W w.heap.size 23 #[.int .i64 b, .string s] ∧ HasC W (w.heap.size + 1) 23 #[.int .i64 0, .string { data := #[] }] ∧ Below w.heap.size w W
theorem FewH.new (w : World) (b : Int) (s : ByteArray) : FewH w b s ((w.alloc (Obj.cells #[.int .i64 b, .string s] 23)).alloc (Obj.cells #[.int .i64 0, .string { data := #[] }] 23)).drew :=
  ⟨((HasC.new w _ _).alloc _).drew, (HasC.at_ _ _ _ (by simp)).drew, (((Below.refl w.heap.size w).alloc (Nat.le_refl _) _).alloc (by simp) _).drew⟩
set_option maxHeartbeats 4000000 in
set_option maxRecDepth 100000 in
theorem few7x_any (b : Int) (s : ByteArray) (hs : s.size ≤ maxLen) (w : World) :
    Calls Try.prog 11 #[.agg #[.int .i64 b, .string s]] w fun e w' => e = .returned (.agg #[.int .i64 b, .string (cut260 s)]) ∧ Below w.heap.size w w' := by
  unfold maxLen at hs
  have HF := Lib.hid (FewH.new w b s)
  by_cases hlt : s.size ≤ 260
  · have hx : cut260 s = s := by
      unfold cut260
      rw [Nat.min_eq_left hlt, ByteArray.extract_zero_size]
    have HX := Lib.hid hx
    have hm : min (s.size : Int) 260 = s.size := by omega
    clear hx
    go_enter Try.func11, Try.ntmps11
    go_wp2_with fail
    refine region_tail 10 (FewH w b s) (by kernel_rfl) (by kernel_rfl) HF.out ?_
    intro hne
    have e0 : ∀ i : InC (FewH w b s), i.w.cell? ⟨w.heap.size, 0, none⟩ = some (.int .i64 b) := fun i => i.h.1.cell 0
    have e1 : ∀ i : InC (FewH w b s), i.w.cell? ⟨w.heap.size, 1, none⟩ = some (.string s) := fun i => i.h.1.cell 1
    simp only [List.take_succ_cons, List.take_zero, List.drop_succ_cons, List.drop_zero]
    repeat (go_big_quiet_step (fail))
    refine wpQuiet_nil ?_
    clear e0 e1 hne
    rintro ⟨w3, hC3⟩
    dsimp only
    have d0 : w3.cell? ⟨w.heap.size + 1, 0, none⟩ = some (.int .i64 0) := hC3.2.1.cell 0
    have d1 : w3.cell? ⟨w.heap.size + 1, 1, none⟩ = some (.string { data := #[] }) := hC3.2.1.cell 1
    have z0 := hC3.2.1.frozen 0
    have z1 := hC3.2.1.frozen 1
    go_wp2_with fail
    have hr6 := ((hC3.2.1.set 0 (.int .i64 b)).set 1 (.string (s))).eq (cs' := #[.int .i64 b, .string (s)]) rfl
    refine bodyPost_ret (result_hll rfl _ _ (w.heap.size + 1) _ _ rfl hr6) rfl ?_
    rw [HX.out]
    exact ⟨rfl, (hC3.2.2.setCell (p := ⟨w.heap.size + 1, 0, none⟩) (by simp) _).setCell (p := ⟨w.heap.size + 1, 1, none⟩) (by simp) _⟩
  · have hx : cut260 s = s.extract 0 260 := by
      unfold cut260
      rw [Nat.min_eq_right (by omega)]
    have HX := Lib.hid hx
    have hm : min (s.size : Int) 260 = 260 := by omega
    clear hx
    go_enter Try.func11, Try.ntmps11
    go_wp2_with fail
    refine region_tail 10 (FewH w b s) (by kernel_rfl) (by kernel_rfl) HF.out ?_
    intro hne
    have e0 : ∀ i : InC (FewH w b s), i.w.cell? ⟨w.heap.size, 0, none⟩ = some (.int .i64 b) := fun i => i.h.1.cell 0
    have e1 : ∀ i : InC (FewH w b s), i.w.cell? ⟨w.heap.size, 1, none⟩ = some (.string s) := fun i => i.h.1.cell 1
    simp only [List.take_succ_cons, List.take_zero, List.drop_succ_cons, List.drop_zero]
    repeat (go_big_quiet_step (fail))
    refine wpQuiet_nil ?_
    clear e0 e1 hne
    rintro ⟨w3, hC3⟩
    dsimp only
    have d0 : w3.cell? ⟨w.heap.size + 1, 0, none⟩ = some (.int .i64 0) := hC3.2.1.cell 0
    have d1 : w3.cell? ⟨w.heap.size + 1, 1, none⟩ = some (.string { data := #[] }) := hC3.2.1.cell 1
    have z0 := hC3.2.1.frozen 0
    have z1 := hC3.2.1.frozen 1
    go_wp2_with fail
    have hr6 := ((hC3.2.1.set 0 (.int .i64 b)).set 1 (.string (s.extract 0 260))).eq (cs' := #[.int .i64 b, .string (s.extract 0 260)]) rfl
    refine bodyPost_ret (result_hll rfl _ _ (w.heap.size + 1) _ _ rfl hr6) rfl ?_
    rw [HX.out]
    exact ⟨rfl, (hC3.2.2.setCell (p := ⟨w.heap.size + 1, 0, none⟩) (by simp) _).setCell (p := ⟨w.heap.size + 1, 1, none⟩) (by simp) _⟩
end Go.Proofs.Ytnljepnmajcmgaa
