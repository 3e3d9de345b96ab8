
/- What layer 4's texts share: bytes, cells; the page's own Least. -/
import Derived.Test.YtbcgjgefkkibbaaRows
import Derived.Test.YtbcgjgefkkibbaaLMath
import Derived.Test.YtbcgjgefkkibbaaLaws
import Derived.Test.YtbcgjgefkkibbaaQuiet
import Derived.Test.YtbcgjgefkkibbaaFOrd
import Derived.WalkKit
import Derived.LaidEql
import Derived.RowKitTokens
import Derived.Laws.Externs
import Derived.Laws.IdiomStrings
import Derived.Laws.RangeAny
import Derived.Lib.Hide
import Derived.Lib.AppendStr
import Derived.OwnWalk
import Derived.Deep.AppendLies
namespace Go.Proofs.Ytbcgjgefkkibbaa
open Go.RowKit Go.Lib

theorem extL (t : ByteArray) (i j : Nat) : (t.extract i j).data.toList = (t.data.toList.take j).drop i := by
  rw [ByteArray.data_extract, Array.toList_extract, List.extract_eq_drop_take', List.drop_take]
theorem baL {s t : ByteArray} (h : s.data.toList = t.data.toList) : s = t := ByteArray.ext (Array.ext' h)
theorem appL (a c : ByteArray) : (a ++ c).data.toList = a.data.toList ++ c.data.toList := by simp [ByteArray.data_append]
theorem lenL (a : ByteArray) : a.data.toList.length = a.size := by simp
theorem cmpL_at (a b : ByteArray) (k : Nat) (ha : k < a.size) (hb : k < b.size) :
    compareBytes (a.data.toList.drop k) (b.data.toList.drop k) = if a[k].toNat < b[k].toNat then -1 else if b[k].toNat < a[k].toNat then 1 else compareBytes (a.data.toList.drop (k + 1)) (b.data.toList.drop (k + 1)) := by
  rw [List.drop_eq_getElem_cons (show k < a.data.toList.length by simpa using ha), List.drop_eq_getElem_cons (show k < b.data.toList.length by simpa using hb)]
  simp only [compareBytes, UInt8.lt_iff_toNat_lt]
  rfl
theorem cmpL_end (a b : ByteArray) (k : Nat) (ha : k ≤ a.size) (hb : k ≤ b.size) (h : k = a.size ∨ k = b.size) :
    compareBytes (a.data.toList.drop k) (b.data.toList.drop k) = if a.size < b.size then -1 else if b.size < a.size then 1 else 0 := by
  have hla : a.data.toList.length = a.size := by simp
  have hlb : b.data.toList.length = b.size := by simp
  have e1 : (a.data.toList.drop k).length = a.size - k := by rw [List.length_drop, hla]
  have e2 : (b.data.toList.drop k).length = b.size - k := by rw [List.length_drop, hlb]
  generalize a.data.toList.drop k = x at *
  generalize b.data.toList.drop k = y at *
  cases x with
  | nil =>
    cases y with
    | nil =>
      simp at e1 e2
      rw [if_neg (by omega), if_neg (by omega)]
      rfl
    | cons c y =>
      simp at e1 e2
      rw [if_pos (by omega)]
      rfl
  | cons c x =>
    cases y with
    | nil =>
      simp at e1 e2
      rw [if_neg (by omega), if_pos (by omega)]
      rfl
    | cons d y =>
      simp at e1 e2
      omega

set_option maxHeartbeats 1000000 in
set_option maxRecDepth 100000 in
theorem leastL_any (a b : ByteArray) (ha : a.size ≤ 3000) (_ : b.size ≤ 3000) (w : World) :
    Calls Try.prog 43 #[.string a, .string b] w fun e w' => e = .returned (.int .i64 (compareBytes a.data.toList b.data.toList)) ∧ Below w.heap.size w w' := by
  obtain ⟨r, hr⟩ : ∃ r, compareBytes a.data.toList b.data.toList = r := ⟨_, rfl⟩
  rw [hr]
  have HR := Lib.hid hr
  clear hr
  go_enter Try.func43, Try.ntmps43
  go_wp2_with fail
  go_loopw [5] (fun i wr => ∃ k : Nat, k ≤ a.size ∧ k ≤ b.size ∧ i = .int .i64 k ∧ Hid (compareBytes (a.data.toList.drop k) (b.data.toList.drop k) = r) ∧ Below w.heap.size w wr) (fun i _ => a.size - (RowKit.intOf i).toNat)
  case atStart => exact ⟨0, Nat.zero_le _, Nat.zero_le _, rfl, HR.out, Below.refl _ _⟩
  case round =>
    obtain ⟨k, hka, hkb, rfl, HK, hbel⟩ := hrel
    by_cases hlt : k < a.size ∧ k < b.size
    · obtain ⟨h1, h2⟩ := hlt
      have hc := cmpL_at a b k h1 h2
      rw [HK.out] at hc
      obtain ⟨x, hx⟩ : ∃ x, a[k] = x := ⟨_, rfl⟩
      obtain ⟨y, hy⟩ : ∃ y, b[k] = y := ⟨_, rfl⟩
      rw [hx, hy] at hc
      have HC := Lib.hid hc
      clear hc
      by_cases hxy : x.toNat < y.toNat
      · have hv : r = -1 := by rw [HC.out, if_pos hxy]
        have HV := Lib.hid hv
        clear hv
        go_wp2_with fail
        go_quiet (fail)
        go_wp2_with fail
        go_ret
        exact ⟨by rw [HV.out]; rfl, bel_drewN hbel _⟩
      · by_cases hyx : y.toNat < x.toNat
        · have hv : r = 1 := by rw [HC.out, if_neg hxy, if_pos hyx]
          have HV := Lib.hid hv
          clear hv
          go_wp2_with fail
          go_quiet (fail)
          have hb1 : Below w.heap.size w (wr.drewN nq) := bel_drewN hbel _
          go_wp2_with fail
          go_quiet (fail)
          go_wp2_with fail
          go_ret
          exact ⟨by rw [HV.out]; rfl, bel_drewN hb1 _⟩
        · have hv : compareBytes (a.data.toList.drop (k + 1)) (b.data.toList.drop (k + 1)) = r := by rw [HC.out, if_neg hxy, if_neg hyx]
          have HV := Lib.hid hv
          clear hv
          go_wp2_with fail
          go_quiet (fail)
          have hb1 : Below w.heap.size w (wr.drewN nq) := bel_drewN hbel _
          go_wp2_with fail
          go_quiet (fail)
          go_wp2_with fail
          go_roundw
          case rel => exact ⟨k + 1, by omega, by omega, by go_num, HV.out, bel_drewN hbel _⟩
          case measure => simp [RowKit.intOf]; omega
    · have hend := cmpL_end a b k hka hkb (by omega)
      rw [HK.out] at hend
      have HE := Lib.hid hend
      clear hend
      have hcase : (k < a.size ∧ ¬ k < b.size ∧ b.size < a.size ∧ ¬ a.size < b.size) ∨ (¬ k < a.size ∧ a.size < b.size) ∨ (¬ k < a.size ∧ ¬ a.size < b.size ∧ ¬ b.size < a.size) := by omega
      clear hlt
      rcases hcase with ⟨h1, h2, h3, h4⟩ | ⟨h1, h2⟩ | ⟨h1, h2, h3⟩
      · have hv : r = 1 := by rw [HE.out, if_neg h4, if_pos h3]
        have HV := Lib.hid hv
        clear hv
        go_wp2_with fail
        go_ret
        exact ⟨by rw [HV.out]; rfl, hbel⟩
      · have hv : r = -1 := by rw [HE.out, if_pos h2]
        have HV := Lib.hid hv
        clear hv
        go_wp2_with fail
        go_ret
        exact ⟨by rw [HV.out]; rfl, hbel⟩
      · have hv : r = 0 := by rw [HE.out, if_neg h2, if_neg h3]
        have HV := Lib.hid hv
        clear hv
        go_wp2_with fail
        go_ret
        exact ⟨by rw [HV.out]; rfl, hbel⟩
end Go.Proofs.Ytbcgjgefkkibbaa
