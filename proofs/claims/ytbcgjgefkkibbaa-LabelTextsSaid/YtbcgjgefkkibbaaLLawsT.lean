
/- The statements' walks: LabelTexts, LabelParses. -/
import Derived.Test.YtbcgjgefkkibbaaLLaws
namespace Go.Proofs.Ytbcgjgefkkibbaa
open Go.RowKit

theorem get_parts (L : List Lab) (nm : ByteArray) : ∃ (x : ByteArray) (b : Bool), GetV L nm = .tuple #[.string x, .bool b] := by
  unfold GetV
  cases getLb L nm with
  | some v => exact ⟨v, true, rfl⟩
  | none => exact ⟨_, false, rfl⟩
theorem text_parts (L : List Lab) : ∃ (x : ByteArray) (n : Nat), TextV L = .tuple #[.string x, .int .i64 (n : Int)] := by
  unfold TextV
  split
  · exact ⟨_, 0, rfl⟩
  · exact ⟨_, 40, rfl⟩
set_option maxHeartbeats 4000000 in
set_option maxRecDepth 100000 in
theorem lawTexts_any (K : List Lab) (va : Value) (nm : ByteArray) (w : World) (hA : LblSl w va K) (hna : K.length ≤ maxLen)
    (za : ∀ x ∈ K, x.1.size ≤ maxLen ∧ x.2.size ≤ maxLen) :
    Calls Try.prog 4 #[va, .string nm] w fun e w' => e = .returned (.bool true) ∧ Below w.heap.size w w' := by
  have F1 := Lib.hid (fun W h => few4_any K va W h hna za)
  have sa := fewLb_small K
  have la := fewLb_len K
  obtain ⟨A, hAe⟩ : ∃ A, fewLb K = A := ⟨_, rfl⟩
  rw [hAe] at F1 sa la
  have T1 := Lib.hid (fun W a h => lText_any A a W h (by omega) sa)
  have T2 := Lib.hid (fun W a h => refText_any4 A a W h (by omega) sa)
  have G1 := Lib.hid (fun W a h => lGet_any A a nm W h (by omega))
  have G2 := Lib.hid (fun W a h => refGet_any4 A a nm W h (by omega))
  have R1 := Lib.hid (fun W a h => lRight_any A a W h (by omega) sa)
  have R2 := Lib.hid (fun W a h => refRight_any A a W h (by omega) sa)
  obtain ⟨x, n, hx⟩ := text_parts A
  obtain ⟨y, b, hy⟩ := get_parts A nm
  obtain ⟨r, hr⟩ : ∃ r, rightB A = r := ⟨_, rfl⟩
  rw [hx] at T1 T2
  rw [hy] at G1 G2
  rw [hr] at R1 R2
  have bx := ba_eq (rfl : x = x)
  have byy := ba_eq (rfl : y = y)
  clear hx hy hr hAe hna za sa la
  go_enter Try.func4, Try.ntmps4
  go_wp2_with fail
  with_reducible refine (shown4_any _).mono ?_
  rintro e w1 ⟨rfl, hb1⟩
  go_wp2_with fail
  with_reducible refine (F1.out _ (hA.below hb1)).mono ?_
  rintro e w2 ⟨⟨v1, rfl, ho⟩, hb⟩
  have hv1 := lblSl_of_owns ho
  have hb2 := hb1.trans (hb.mono hb1.size)
  clear hb1 hb ho
  go_wp2_with fail
  with_reducible refine (T1.out _ _ hv1).mono ?_
  rintro e w3 ⟨rfl, hb⟩
  have hv1 := hv1.below hb
  have hb3 := hb2.trans (hb.mono hb2.size)
  clear hb2 hb
  go_wp2_with fail
  with_reducible refine (T2.out _ _ hv1).mono ?_
  rintro e w4 ⟨rfl, hb⟩
  have hv1 := hv1.below hb
  have hb4 := hb3.trans (hb.mono hb3.size)
  clear hb3 hb
  go_wp2_with fail
  with_reducible refine (G1.out _ _ hv1).mono ?_
  rintro e w5 ⟨rfl, hb⟩
  have hv1 := hv1.below hb
  have hb5 := hb4.trans (hb.mono hb4.size)
  clear hb4 hb
  go_wp2_with fail
  with_reducible refine (G2.out _ _ hv1).mono ?_
  rintro e w6 ⟨rfl, hb⟩
  have hv1 := hv1.below hb
  have hb6 := hb5.trans (hb.mono hb5.size)
  clear hb5 hb
  go_wp2_with fail
  with_reducible refine (R1.out _ _ hv1).mono ?_
  rintro e w7 ⟨rfl, hb⟩
  have hv1 := hv1.below hb
  have hb7 := hb6.trans (hb.mono hb6.size)
  clear hb6 hb
  go_wp2_with fail
  with_reducible refine (R2.out _ _ hv1).mono ?_
  rintro e w8 ⟨rfl, hb⟩
  have hb8 := hb7.trans (hb.mono hb7.size)
  clear hb7 hb
  go_wp2_with fail
  go_ret
  exact ⟨by simp, hb8⟩
end Go.Proofs.Ytbcgjgefkkibbaa
