
/- The statements' walks: LabelRunes. -/
import Derived.Test.YtbcgjgefkkibbaaLLaws
namespace Go.Proofs.Ytbcgjgefkkibbaa
open Go.RowKit

theorem runesOut_some {s : ByteArray} {n : Nat} (h : cntL s.data.toList = some n) : RunesOut s = .tuple #[.int .i64 (n : Int), .bool true] := by unfold RunesOut; rw [h]
theorem runesOut_none {s : ByteArray} (h : cntL s.data.toList = none) : RunesOut s = .tuple #[.int .i64 ((0 : Nat) : Int), .bool false] := by unfold RunesOut; rw [h]; rfl
set_option maxHeartbeats 4000000 in
set_option maxRecDepth 100000 in
theorem lawRunes_of (s t : ByteArray) (hs : s.size ≤ maxLen) (ht : t.size ≤ maxLen) (w : World) (n m k : Nat) (ok is ik : Bool)
    (h1 : RunesOut (cut600 s) = .tuple #[.int .i64 (n : Int), .bool ok]) (h2 : RunesOut (cut600 t) = .tuple #[.int .i64 (m : Int), .bool is]) (h3 : RunesOut (cut600 s ++ cut600 t) = .tuple #[.int .i64 (k : Int), .bool ik])
    (hn : n ≤ 600) (hm : m ≤ 600)
    (hr : (ok = true ∧ is = true ∧ ik = true ∧ k = n + m) ∨ (ok = true ∧ is = false ∧ ik = false ∧ k = 0) ∨ (ok = false ∧ is = true ∧ ik = false) ∨ (ok = false ∧ is = false)) :
    Calls Try.prog 8 #[.string s, .string t] w fun e w' => e = .returned (.bool true) ∧ Below w.heap.size w w' := by
  have z1 := cut600_size s
  have z2 := cut600_size t
  have C1 := Lib.hid (fun W => cut4_any s hs W)
  have C2 := Lib.hid (fun W => cut4_any t ht W)
  obtain ⟨A, hA⟩ : ∃ A, cut600 s = A := ⟨_, rfl⟩
  obtain ⟨B, hB⟩ : ∃ B, cut600 t = B := ⟨_, rfl⟩
  rw [hA] at C1 h1 h3 z1
  rw [hB] at C2 h2 h3 z2
  have R1 := Lib.hid (fun W => lRunes_any A (by omega) W)
  have R2 := Lib.hid (fun W => lRunes_any B (by omega) W)
  have R3 := Lib.hid (fun W => lRunes_any (A ++ B) (by rw [ByteArray.size_append]; omega) W)
  rw [h1] at R1
  rw [h2] at R2
  rw [h3] at R3
  unfold maxLen at hs ht
  clear h1 h2 h3 hA hB
  go_enter Try.func8, Try.ntmps8
  go_wp2_with fail
  with_reducible refine (shown4_any _).mono ?_
  rintro e w1 ⟨rfl, hb1⟩
  go_wp2_with fail
  with_reducible refine (C1.out _).mono ?_
  rintro e w2 ⟨rfl, hb⟩
  have hb2 := hb1.trans (hb.mono hb1.size)
  clear hb1 hb
  go_wp2_with fail
  with_reducible refine (R1.out _).mono ?_
  rintro e w3 ⟨rfl, hb⟩
  have hb3 := hb2.trans (hb.mono hb2.size)
  clear hb2 hb
  go_wp2_with fail
  with_reducible refine (C2.out _).mono ?_
  rintro e w4 ⟨rfl, hb⟩
  have hb4 := hb3.trans (hb.mono hb3.size)
  clear hb3 hb
  go_wp2_with fail
  with_reducible refine (R2.out _).mono ?_
  rintro e w5 ⟨rfl, hb⟩
  have hb5 := hb4.trans (hb.mono hb4.size)
  clear hb4 hb
  go_wp2_with fail
  with_reducible refine (C1.out _).mono ?_
  rintro e w6 ⟨rfl, hb⟩
  have hb6 := hb5.trans (hb.mono hb5.size)
  clear hb5 hb
  go_wp2_with fail
  with_reducible refine (C2.out _).mono ?_
  rintro e w7 ⟨rfl, hb⟩
  have hb7 := hb6.trans (hb.mono hb6.size)
  clear hb6 hb
  go_wp2_with fail
  with_reducible refine (R3.out _).mono ?_
  rintro e w8 ⟨rfl, hb⟩
  have hb8 := hb7.trans (hb.mono hb7.size)
  clear hb7 hb
  rcases hr with ⟨rfl, rfl, rfl, rfl⟩ | ⟨rfl, rfl, rfl, rfl⟩ | ⟨rfl, rfl, rfl⟩ | ⟨rfl, rfl⟩
  · go_wp2_with fail
    go_ret
    exact ⟨by first | rfl | simp, hb8⟩
  · go_wp2_with fail
    go_ret
    exact ⟨by first | rfl | simp, hb8⟩
  · go_wp2_with fail
    go_ret
    exact ⟨by first | rfl | simp, hb8⟩
  · go_wp2_with fail
    go_ret
    exact ⟨by first | rfl | simp, hb8⟩
theorem lawRunes_any (s t : ByteArray) (hs : s.size ≤ maxLen) (ht : t.size ≤ maxLen) (w : World) :
    Calls Try.prog 8 #[.string s, .string t] w fun e w' => e = .returned (.bool true) ∧ Below w.heap.size w w' := by
  have z1 := cut600_size s
  have z2 := cut600_size t
  cases h1 : cntL (cut600 s).data.toList with
  | some n =>
    have l1 := cnt_le _ _ h1
    rw [lenL] at l1
    cases h2 : cntL (cut600 t).data.toList with
    | some m =>
      have l2 := cnt_le _ _ h2
      rw [lenL] at l2
      have h3 : cntL (cut600 s ++ cut600 t).data.toList = some (n + m) := by rw [appL, cnt_app _ (cnt_leads h2), h1, h2]; rfl
      exact lawRunes_of s t hs ht w n m (n + m) true true true (runesOut_some h1) (runesOut_some h2) (runesOut_some h3) (by omega) (by omega) (.inl ⟨rfl, rfl, rfl, rfl⟩)
    | none =>
      have h3 : cntL (cut600 s ++ cut600 t).data.toList = none := by rw [appL]; exact cnt_app_wrong _ h2 _ n h1
      exact lawRunes_of s t hs ht w n 0 0 true false false (runesOut_some h1) (runesOut_none h2) (runesOut_none h3) (by omega) (by omega) (.inr (.inl ⟨rfl, rfl, rfl, rfl⟩))
  | none =>
    cases h2 : cntL (cut600 t).data.toList with
    | some m =>
      have l2 := cnt_le _ _ h2
      rw [lenL] at l2
      have h3 : cntL (cut600 s ++ cut600 t).data.toList = none := by rw [appL, cnt_app _ (cnt_leads h2), h1]; rfl
      exact lawRunes_of s t hs ht w 0 m 0 false true false (runesOut_none h1) (runesOut_some h2) (runesOut_none h3) (by omega) (by omega) (.inr (.inr (.inl ⟨rfl, rfl, rfl⟩)))
    | none =>
      cases h3 : cntL (cut600 s ++ cut600 t).data.toList with
      | some k => exact lawRunes_of s t hs ht w 0 0 k false false true (runesOut_none h1) (runesOut_none h2) (runesOut_some h3) (by omega) (by omega) (.inr (.inr (.inr ⟨rfl, rfl⟩)))
      | none => exact lawRunes_of s t hs ht w 0 0 0 false false false (runesOut_none h1) (runesOut_none h2) (runesOut_none h3) (by omega) (by omega) (.inr (.inr (.inr ⟨rfl, rfl⟩)))
end Go.Proofs.Ytbcgjgefkkibbaa
