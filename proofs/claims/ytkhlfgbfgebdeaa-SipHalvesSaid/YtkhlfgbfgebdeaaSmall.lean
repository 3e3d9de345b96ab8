/- The statements' small functions: a known key, two known sums, the first three hundred bytes; a key's child. -/
import Derived.Test.YtkhlfgbfgebdeaaSum
namespace Go.Proofs.Ytkhlfgbfgebdeaa
open Go.RowKit Go.Shelf
attribute [local go_sem] wrap_add wrap_sub xor_n64 or_n64

theorem known_any (w : World) : Calls Try.prog 20 #[] w fun e w' => e = .returned (.agg #[.int .u64 506097522914230528, .int .u64 1084818905618843912]) ∧ Below w.heap.size w w' := by
  go_enter Try.func20, Try.ntmps20
  go_wp2
  exact bodyPost_ret (v := .agg #[.int .u64 506097522914230528, .int .u64 1084818905618843912]) (by simp [results, Try.results20, go_sem]) rfl ⟨rfl, (Below.refl _ _).alloc (Nat.le_refl _) _⟩

theorem sumE (w : World) : Calls Try.prog 11 #[.agg #[.int .u64 506097522914230528, .int .u64 1084818905618843912], .string { data := #[] }] w fun e w' => e = .returned (.int .u64 8246050544436514353) ∧ Below w.heap.size w w' := by
  have h := sum_any 506097522914230528#64 1084818905618843912#64 { data := #[] } (by decide) w
  have e : n64 (sumL 506097522914230528#64 1084818905618843912#64 ({ data := #[] } : ByteArray).data.toList) = 8246050544436514353 := by decide +kernel
  rw [e] at h
  exact h
theorem sum15 (w : World) : Calls Try.prog 11 #[.agg #[.int .u64 506097522914230528, .int .u64 1084818905618843912], .string { data := #[0, 1, 2, 3, 4, 5, 6, 7, 8, 9, 10, 11, 12, 13, 14] }] w fun e w' => e = .returned (.int .u64 11613035633349379557) ∧ Below w.heap.size w w' := by
  have h := sum_any 506097522914230528#64 1084818905618843912#64 { data := #[0, 1, 2, 3, 4, 5, 6, 7, 8, 9, 10, 11, 12, 13, 14] } (by decide) w
  have e : n64 (sumL 506097522914230528#64 1084818905618843912#64 ({ data := #[0, 1, 2, 3, 4, 5, 6, 7, 8, 9, 10, 11, 12, 13, 14] } : ByteArray).data.toList) = 11613035633349379557 := by decide +kernel
  rw [e] at h
  exact h
theorem same55 (w : World) : Calls Try.prog 18 #[.int .u64 5, .int .u64 5] w fun e w' => e = .returned (.bool true) ∧ Below w.heap.size w w' := same_any 5#64 5#64 w
theorem same56 (w : World) : Calls Try.prog 18 #[.int .u64 5, .int .u64 6] w fun e w' => e = .returned (.bool false) ∧ Below w.heap.size w w' := same_any 5#64 6#64 w

theorem shown_any (w : World) : Calls Try.prog 10 #[] w fun e w' => e = .returned (.bool true) ∧ Below w.heap.size w w' := by
  go_enter Try.func10, Try.ntmps10
  go_wp2_with fail
  refine (known_any _).mono ?_
  rintro e w1 ⟨rfl, h1⟩
  go_wp2_with fail
  refine (sumE _).mono ?_
  rintro e w2 ⟨rfl, h2⟩
  go_wp2_with fail
  refine (known_any _).mono ?_
  rintro e w3 ⟨rfl, h3⟩
  go_wp2_with fail
  refine (sum15 _).mono ?_
  rintro e w4 ⟨rfl, h4⟩
  go_wp2_with fail
  refine (same55 _).mono ?_
  rintro e w5 ⟨rfl, h5⟩
  go_wp2_with fail
  refine (same56 _).mono ?_
  rintro e w6 ⟨rfl, h6⟩
  go_wp2_with fail
  go_ret
  refine ⟨rfl, ?_⟩
  have z1 := h1.size
  have z2 := h2.size
  have z3 := h3.size
  have z4 := h4.size
  have z5 := h5.size
  exact ((((h1.trans (h2.mono z1)).trans (h3.mono (by omega))).trans (h4.mono (by omega))).trans (h5.mono (by omega))).trans (h6.mono (by omega))

/-- The first three hundred bytes. -/
def cutB (s : ByteArray) : ByteArray := s.extract 0 (min s.size 300)
theorem cutB_size (s : ByteArray) : (cutB s).size ≤ 300 := by
  unfold cutB
  simp
  omega
theorem cut_any (s : ByteArray) (hs : s.size ≤ maxLen) (w : World) : Calls Try.prog 12 #[.string s] w fun e w' => e = .returned (.string (cutB s)) ∧ w = w' := by
  unfold maxLen at hs
  by_cases h : s.size ≤ 300
  · have e : cutB s = s := by
      unfold cutB
      rw [Nat.min_eq_left h]
      simp
    rw [e]
    clear e
    go_enter Try.func12, Try.ntmps12
    go_wp2
    go_ret
    exact ⟨rfl, rfl⟩
  · have e : cutB s = s.extract 0 300 := by
      unfold cutB
      rw [Nat.min_eq_right (by omega)]
    rw [e]
    clear e
    go_enter Try.func12, Try.ntmps12
    go_wp2
    go_ret
    exact ⟨rfl, rfl⟩

/-- The key in its block, the child's block, and what lies below them. -/
def KeyAt (w : World) (ka kb x y : BitVec 64) (V : World) : Prop := HasC V w.heap.size 24 #[.int .u64 (n64 ka), .int .u64 (n64 kb)] ∧ HasC V (w.heap.size + 1) 24 #[.int .u64 (n64 x), .int .u64 (n64 y)] ∧ Below w.heap.size w V
theorem KeyAt.on {w V V' : World} {ka kb x y : BitVec 64} (h : KeyAt w ka kb x y V) (hb : Below V.heap.size V V') : KeyAt w ka kb x y V' :=
  ⟨h.1.below hb h.1.lt, h.2.1.below hb h.2.1.lt, h.2.2.trans (hb.mono h.2.2.size)⟩

set_option maxHeartbeats 1000000 in
theorem child_any (ka kb : BitVec 64) (s : ByteArray) (hs : s.size ≤ 300) (w : World) :
    Calls Try.prog 14 #[.agg #[.int .u64 (n64 ka), .int .u64 (n64 kb)], .string s] w fun e w' =>
      e = .returned (.agg #[.int .u64 (n64 (sumL ka kb (({ data := #[0] } : ByteArray) ++ s).data.toList)), .int .u64 (n64 (sumL ka kb (({ data := #[1] } : ByteArray) ++ s).data.toList))]) ∧ Below w.heap.size w w' := by
  have hz0 : (({ data := #[0] } : ByteArray) ++ s).size ≤ maxLen := by
    have : ({ data := #[0] } : ByteArray).size = 1 := rfl
    unfold maxLen
    rw [ByteArray.size_append]
    omega
  have hz1 : (({ data := #[1] } : ByteArray) ++ s).size ≤ maxLen := by
    have : ({ data := #[1] } : ByteArray).size = 1 := rfl
    unfold maxLen
    rw [ByteArray.size_append]
    omega
  have H0 := Lib.hid hz0
  have H1 := Lib.hid hz1
  clear hz0 hz1
  go_enter Try.func14, Try.ntmps14
  go_wp2_with fail
  refine region_tail 9 (KeyAt w ka kb 0#64 0#64) (by kernel_rfl) (by kernel_rfl) ?_ ?_
  · exact ⟨HasC.drew (HasC.alloc (HasC.new _ _ _) _), HasC.drew (HasC.at_ _ _ _ (by simp)), (((Below.refl _ _).alloc (Nat.le_refl _) _).alloc (by simp) _).drew⟩
  intro hne
  have e0 : ∀ i : InC (KeyAt w ka kb 0#64 0#64), i.w.cell? ⟨w.heap.size, 0, none⟩ = some (.int .u64 (n64 ka)) := fun i => i.h.1.cell 0
  have e1 : ∀ i : InC (KeyAt w ka kb 0#64 0#64), i.w.cell? ⟨w.heap.size, 1, none⟩ = some (.int .u64 (n64 kb)) := fun i => i.h.1.cell 1
  simp only [List.take_succ_cons, List.take_zero, List.drop_succ_cons, List.drop_zero]
  repeat (go_big_quiet_step ((go_at_call 11; refine (sum_any _ _ _ (by first | exact H0.out | exact H1.out) _).mono ?_; rintro e w' ⟨rfl, hb⟩; exact ⟨rfl, ⟨_, KeyAt.on (InC.h _) hb⟩, rfl⟩)))
  refine wpQuiet_nil ?_
  clear e0 e1 hne
  rintro ⟨w1, hK, hR, hB⟩
  dsimp only
  have f0 : w1.cell? ⟨w.heap.size + 1, 0, none⟩ = some (.int .u64 (n64 0#64)) := hR.cell 0
  have f1 : w1.cell? ⟨w.heap.size + 1, 1, none⟩ = some (.int .u64 (n64 0#64)) := hR.cell 1
  have y0 := hR.frozen 0
  have y1 := hR.frozen 1
  go_wp2_with fail
  exact bodyPost_ret (v := .agg #[.int .u64 (n64 (sumL ka kb (({ data := #[0] } : ByteArray) ++ s).data.toList)), .int .u64 (n64 (sumL ka kb (({ data := #[1] } : ByteArray) ++ s).data.toList))]) (by simp [results, Try.results14, go_sem, f0, f1]) rfl
    ⟨rfl, (hB.setCell (p := ⟨w.heap.size + 1, 0, none⟩) (by simp) _).setCell (p := ⟨w.heap.size + 1, 1, none⟩) (by simp) _⟩
end Go.Proofs.Ytkhlfgbfgebdeaa
