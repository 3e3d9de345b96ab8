/- SipSums and SipChildren: what each comes to. -/
import Derived.Test.YtkhlfgbfgebdeaaRefSum
namespace Go.Proofs.Ytkhlfgbfgebdeaa
open Go.RowKit Go.Shelf
attribute [local go_sem] wrap_add wrap_sub xor_n64 or_n64

set_option maxHeartbeats 1000000 in
theorem refChild_any (ka kb : BitVec 64) (s : ByteArray) (hs : s.size ≤ 300) (w : World) :
    Calls Try.prog 15 #[.agg #[.int .u64 (n64 ka), .int .u64 (n64 kb)], .string s] w fun e w' =>
      e = .returned (.agg #[.int .u64 (n64 (sumL ka kb (({ data := #[0] } : ByteArray) ++ s).data.toList)), .int .u64 (n64 (sumL ka kb (({ data := #[1] } : ByteArray) ++ s).data.toList))]) ∧ Below w.heap.size w w' := by
  have hz0 : (({ data := #[0] } : ByteArray) ++ s).size ≤ 301 := by
    have : ({ data := #[0] } : ByteArray).size = 1 := rfl
    rw [ByteArray.size_append]
    omega
  have hz1 : (({ data := #[1] } : ByteArray) ++ s).size ≤ 301 := by
    have : ({ data := #[1] } : ByteArray).size = 1 := rfl
    rw [ByteArray.size_append]
    omega
  have H0 := Lib.hid hz0
  have H1 := Lib.hid hz1
  clear hz0 hz1
  go_enter Try.func15, Try.ntmps15
  go_wp2_with fail
  refine region_tail 9 (KeyAt w ka kb 0#64 0#64) (by kernel_rfl) (by kernel_rfl) ?_ ?_
  · exact ⟨HasC.drew (HasC.alloc (HasC.new _ _ _) _), HasC.drew (HasC.at_ _ _ _ (by simp)), (((Below.refl _ _).alloc (Nat.le_refl _) _).alloc (by simp) _).drew⟩
  intro hne
  have e0 : ∀ i : InC (KeyAt w ka kb 0#64 0#64), i.w.cell? ⟨w.heap.size, 0, none⟩ = some (.int .u64 (n64 ka)) := fun i => i.h.1.cell 0
  have e1 : ∀ i : InC (KeyAt w ka kb 0#64 0#64), i.w.cell? ⟨w.heap.size, 1, none⟩ = some (.int .u64 (n64 kb)) := fun i => i.h.1.cell 1
  simp only [List.take_succ_cons, List.take_zero, List.drop_succ_cons, List.drop_zero]
  repeat (go_big_quiet_step ((go_at_call 13; refine (refSum_any _ _ _ (by first | exact H0.out | exact H1.out) _).mono ?_; rintro e w' ⟨rfl, hb⟩; exact ⟨rfl, ⟨_, KeyAt.on (InC.h _) hb⟩, rfl⟩)))
  refine wpQuiet_nil ?_
  clear e0 e1 hne
  rintro ⟨w1, hK, hR, hB⟩
  dsimp only
  have f0 : w1.cell? ⟨w.heap.size + 1, 0, none⟩ = some (.int .u64 (n64 0#64)) := hR.cell 0
  have f1 : w1.cell? ⟨w.heap.size + 1, 1, none⟩ = some (.int .u64 (n64 0#64)) := hR.cell 1
  have y0 := hR.frozen 0
  have y1 := hR.frozen 1
  go_wp2_with fail
  exact bodyPost_ret (v := .agg #[.int .u64 (n64 (sumL ka kb (({ data := #[0] } : ByteArray) ++ s).data.toList)), .int .u64 (n64 (sumL ka kb (({ data := #[1] } : ByteArray) ++ s).data.toList))]) (by simp [results, Try.results15, go_sem, f0, f1]) rfl
    ⟨rfl, (hB.setCell (p := ⟨w.heap.size + 1, 0, none⟩) (by simp) _).setCell (p := ⟨w.heap.size + 1, 1, none⟩) (by simp) _⟩

/-- The key in its block, and what lies below it. -/
def BoxAt (w : World) (ka kb : BitVec 64) (V : World) : Prop := HasC V w.heap.size 24 #[.int .u64 (n64 ka), .int .u64 (n64 kb)] ∧ Below w.heap.size w V
theorem BoxAt.on {w V V' : World} {ka kb : BitVec 64} (h : BoxAt w ka kb V) (hb : Below V.heap.size V V') : BoxAt w ka kb V' := ⟨h.1.below hb h.1.lt, h.2.trans (hb.mono h.2.size)⟩

set_option maxHeartbeats 1000000 in
theorem sums_walk (ka kb : BitVec 64) (s : ByteArray) (hs : s.size ≤ maxLen) (w : World) :
    Calls Try.prog 3 #[.agg #[.int .u64 (n64 ka), .int .u64 (n64 kb)], .string s] w fun e w' => e = .returned (.bool true) ∧ Below w.heap.size w w' := by
  have HS := Lib.hid hs
  clear hs
  go_enter Try.func3, Try.ntmps3
  go_wp2_with fail
  refine (shown_any _).mono ?_
  rintro e w1 ⟨rfl, hb1⟩
  go_wp2_with fail
  have hF : BoxAt w ka kb w1 := BoxAt.on (V := w.alloc (.cells #[.int .u64 (n64 ka), .int .u64 (n64 kb)] 24)) ⟨HasC.new _ _ _, (Below.refl _ _).alloc (Nat.le_refl _) _⟩ hb1
  clear hb1
  refine region_class (BoxAt w ka kb) (by kernel_rfl) (by kernel_rfl) ⟨hF.1.drew, hF.2.drew⟩ ?_
  intro hne
  have e0 : ∀ i : InC (BoxAt w ka kb), i.w.cell? ⟨w.heap.size, 0, none⟩ = some (.int .u64 (n64 ka)) := fun i => i.h.1.cell 0
  have e1 : ∀ i : InC (BoxAt w ka kb), i.w.cell? ⟨w.heap.size, 1, none⟩ = some (.int .u64 (n64 kb)) := fun i => i.h.1.cell 1
  repeat (go_big_quiet_step ((first
    | (go_at_call 12; refine (cut_any _ HS.out _).mono ?_; rintro e w' ⟨rfl, rfl⟩; exact ⟨rfl, ⟨_, InC.h _⟩, rfl⟩)
    | (go_at_call 11; refine (sum_any _ _ (cutB s) (Nat.le_trans (cutB_size s) (by decide)) _).mono ?_; rintro e w' ⟨rfl, hb⟩; exact ⟨rfl, ⟨_, BoxAt.on (InC.h _) hb⟩, rfl⟩)
    | (go_at_call 13; refine (refSum_any _ _ (cutB s) (Nat.le_trans (cutB_size s) (by decide)) _).mono ?_; rintro e w' ⟨rfl, hb⟩; exact ⟨rfl, ⟨_, BoxAt.on (InC.h _) hb⟩, rfl⟩))))
  refine wpQuiet_nil ?_
  clear e0 e1 hne hF
  rintro ⟨w2, hF2⟩
  dsimp only
  go_wp2_with fail
  go_ret
  exact ⟨rfl, hF2.2⟩

set_option maxHeartbeats 1000000 in
theorem children_walk (ka kb : BitVec 64) (s : ByteArray) (hs : s.size ≤ maxLen) (w : World) :
    Calls Try.prog 4 #[.agg #[.int .u64 (n64 ka), .int .u64 (n64 kb)], .string s] w fun e w' => e = .returned (.bool true) ∧ Below w.heap.size w w' := by
  have HS := Lib.hid hs
  clear hs
  go_enter Try.func4, Try.ntmps4
  go_wp2_with fail
  refine (shown_any _).mono ?_
  rintro e w1 ⟨rfl, hb1⟩
  go_wp2_with fail
  have hF : BoxAt w ka kb w1 := BoxAt.on (V := w.alloc (.cells #[.int .u64 (n64 ka), .int .u64 (n64 kb)] 24)) ⟨HasC.new _ _ _, (Below.refl _ _).alloc (Nat.le_refl _) _⟩ hb1
  clear hb1
  refine region_class (BoxAt w ka kb) (by kernel_rfl) (by kernel_rfl) ⟨hF.1.drew, hF.2.drew⟩ ?_
  intro hne
  have e0 : ∀ i : InC (BoxAt w ka kb), i.w.cell? ⟨w.heap.size, 0, none⟩ = some (.int .u64 (n64 ka)) := fun i => i.h.1.cell 0
  have e1 : ∀ i : InC (BoxAt w ka kb), i.w.cell? ⟨w.heap.size, 1, none⟩ = some (.int .u64 (n64 kb)) := fun i => i.h.1.cell 1
  repeat (go_big_quiet_step ((first
    | (go_at_call 12; refine (cut_any _ HS.out _).mono ?_; rintro e w' ⟨rfl, rfl⟩; exact ⟨rfl, ⟨_, InC.h _⟩, rfl⟩)
    | (go_at_call 14; refine (child_any _ _ (cutB s) (cutB_size s) _).mono ?_; rintro e w' ⟨rfl, hb⟩; exact ⟨rfl, ⟨_, BoxAt.on (InC.h _) hb⟩, rfl⟩)
    | (go_at_call 15; refine (refChild_any _ _ (cutB s) (cutB_size s) _).mono ?_; rintro e w' ⟨rfl, hb⟩; exact ⟨rfl, ⟨_, BoxAt.on (InC.h _) hb⟩, rfl⟩))))
  refine wpQuiet_nil ?_
  clear e0 e1 hne hF
  rintro ⟨w2, hF2⟩
  dsimp only
  go_wp2_with fail
  go_ret
  exact ⟨rfl, hF2.2⟩
end Go.Proofs.Ytkhlfgbfgebdeaa
