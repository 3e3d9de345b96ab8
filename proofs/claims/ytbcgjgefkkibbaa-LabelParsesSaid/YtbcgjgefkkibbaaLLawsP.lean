
/- The statements' walks: LabelParses. -/
import Derived.Test.YtbcgjgefkkibbaaLLaws
namespace Go.Proofs.Ytbcgjgefkkibbaa
open Go.RowKit

theorem runes_parts (s : ByteArray) : ∃ (n : Nat) (b : Bool), RunesOut s = .tuple #[.int .i64 (n : Int), .bool b] := by
  unfold RunesOut
  cases cntL s.data.toList with
  | some n => exact ⟨n, true, rfl⟩
  | none => exact ⟨0, false, rfl⟩
/-- What Parse answers, whichever way. -/
theorem parseP_parts (s : ByteArray) : ∃ (L : List Lab) (n : Nat), L.length ≤ 6 ∧ ∀ (w' : World) (e : Ending), ParseP s w' e → ∃ v, e = .returned (.tuple #[v, .int .i64 (n : Int)]) ∧ LblSl w' v L := by
  cases h : parseL s.data.toList with
  | some L => exact ⟨L, 0, (right_len (parse_right h)).2, fun w' e hp => parseP_get hp h⟩
  | none => exact ⟨[], 40, by simp, fun w' e hp => ⟨_, parseP_no hp h, .inl ⟨_, _, rfl, rfl⟩⟩⟩
set_option maxHeartbeats 4000000 in
set_option maxRecDepth 100000 in
theorem lawParses_any (s : ByteArray) (hs : s.size ≤ maxLen) (w : World) :
    Calls Try.prog 3 #[.string s] w fun e w' => e = .returned (.bool true) ∧ Below w.heap.size w w' := by
  have z1 := cut600_size s
  have C1 := Lib.hid (fun W => cut4_any s hs W)
  obtain ⟨A, hA⟩ : ∃ A, cut600 s = A := ⟨_, rfl⟩
  rw [hA] at C1 z1
  have P1 := Lib.hid (fun W => lParse_any A (by omega) W)
  have P2 := Lib.hid (fun W => refParse_any A (by omega) W)
  have R1 := Lib.hid (fun W => lRunes_any A (by omega) W)
  have R2 := Lib.hid (fun W => refRunes_any A (by omega) W)
  obtain ⟨n, b, hn⟩ := runes_parts A
  rw [hn] at R1 R2
  obtain ⟨L, m, hL, hP⟩ := parseP_parts A
  have HP := Lib.hid hP
  have S1 := Lib.hid (fun W a c h1 h2 => refSame_any4 L L a c W h1 h2 (by omega) (by omega))
  rw [show decide (L = L) = true by simp] at S1
  unfold maxLen at hs
  clear hn hP hA
  go_enter Try.func3, Try.ntmps3
  go_wp2_with fail
  with_reducible refine (shown4_any _).mono ?_
  rintro e w1 ⟨rfl, hb1⟩
  go_wp2_with fail
  with_reducible refine (C1.out _).mono ?_
  rintro e w2 ⟨rfl, hb⟩
  have hb2 := hb1.trans (hb.mono hb1.size)
  clear hb1 hb
  go_wp2_with fail
  with_reducible refine (P1.out _).mono ?_
  rintro e w3 ⟨hp, hb⟩
  obtain ⟨v1, rfl, hv1⟩ := HP.out _ _ hp
  have hb3 := hb2.trans (hb.mono hb2.size)
  clear hb2 hb hp
  go_wp2_with fail
  with_reducible refine (C1.out _).mono ?_
  rintro e w4 ⟨rfl, hb⟩
  have hv1 := hv1.below hb
  have hb4 := hb3.trans (hb.mono hb3.size)
  clear hb3 hb
  go_wp2_with fail
  with_reducible refine (P2.out _).mono ?_
  rintro e w5 ⟨hp, hb⟩
  obtain ⟨v2, rfl, hv2⟩ := HP.out _ _ hp
  have hv1 := hv1.below hb
  have hb5 := hb4.trans (hb.mono hb4.size)
  clear hb4 hb hp
  go_wp2_with fail
  with_reducible refine (C1.out _).mono ?_
  rintro e w6 ⟨rfl, hb⟩
  have hv1 := hv1.below hb
  have hv2 := hv2.below hb
  have hb6 := hb5.trans (hb.mono hb5.size)
  clear hb5 hb
  go_wp2_with fail
  with_reducible refine (R1.out _).mono ?_
  rintro e w7 ⟨rfl, hb⟩
  have hv1 := hv1.below hb
  have hv2 := hv2.below hb
  have hb7 := hb6.trans (hb.mono hb6.size)
  clear hb6 hb
  go_wp2_with fail
  with_reducible refine (C1.out _).mono ?_
  rintro e w8 ⟨rfl, hb⟩
  have hv1 := hv1.below hb
  have hv2 := hv2.below hb
  have hb8 := hb7.trans (hb.mono hb7.size)
  clear hb7 hb
  go_wp2_with fail
  with_reducible refine (R2.out _).mono ?_
  rintro e w9 ⟨rfl, hb⟩
  have hv1 := hv1.below hb
  have hv2 := hv2.below hb
  have hb9 := hb8.trans (hb.mono hb8.size)
  clear hb8 hb
  go_wp2_with fail
  with_reducible refine (S1.out _ _ _ hv1 hv2).mono ?_
  rintro e w10 ⟨rfl, hb⟩
  have hb10 := hb9.trans (hb.mono hb9.size)
  clear hb9 hb
  go_wp2_with fail
  go_ret
  exact ⟨by first | rfl | simp, hb10⟩
end Go.Proofs.Ytbcgjgefkkibbaa
