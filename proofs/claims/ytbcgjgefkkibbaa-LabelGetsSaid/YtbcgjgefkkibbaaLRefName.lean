
/- The page's own answers for layer 4: isName, isValue. -/
import Derived.Test.YtbcgjgefkkibbaaLRefList
namespace Go.Proofs.Ytbcgjgefkkibbaa
open Go.RowKit

/-- A name's bytes; a name; a value's bytes; a value. -/
def nmB (c : UInt8) : Bool := decide (97 ≤ c.toNat) && decide (c.toNat ≤ 122)
def nameB (l : List UInt8) : Bool := l.all nmB && (decide (1 ≤ l.length) && decide (l.length ≤ 12))
def vlB (c : UInt8) : Bool := decide (32 ≤ c.toNat) && decide (c.toNat ≠ 127)
def fewB (l : List UInt8) : Bool := match cntL l with
  | some n => decide (n ≤ 24)
  | none => false
def valueB (l : List UInt8) : Bool := l.all vlB && fewB l
theorem all_take {f : UInt8 → Bool} {l : List UInt8} {k : Nat} (h : (l.take k).all f = true) (hk : k < l.length) (hc : f l[k] = true) : (l.take (k + 1)).all f = true := by
  rw [List.take_succ_eq_append_getElem hk, List.all_append, h]
  simp [hc]
theorem all_not {f : UInt8 → Bool} {l : List UInt8} {k : Nat} (hk : k < l.length) (hc : f l[k] = false) : l.all f = false := by
  rw [List.all_eq_false]
  exact ⟨l[k], List.getElem_mem hk, by simp [hc]⟩

set_option maxHeartbeats 400000 in
set_option maxRecDepth 100000 in
theorem refName_any (s : ByteArray) (hs : s.size ≤ 1000000) (w : World) :
    Calls Try.prog 41 #[.string s] w fun e w' => e = .returned (.bool (nameB s.data.toList)) ∧ Below w.heap.size w w' := by
  go_enter Try.func41, Try.ntmps41
  go_wp2_with fail
  go_loopw [3] (fun i wr => ∃ k : Nat, k ≤ s.size ∧ i = .int .i64 k ∧ Hid ((s.data.toList.take k).all nmB = true) ∧ Below w.heap.size w wr) (fun i _ => s.size - (intOf i).toNat)
  case atStart => exact ⟨0, Nat.zero_le _, rfl, rfl, Below.refl _ _⟩
  case round =>
    obtain ⟨k, hk, rfl, HA, hbel⟩ := hrel
    by_cases hlt : k < s.size
    · have hkl : k < s.data.toList.length := by rw [lenL]; exact hlt
      have hget : s.data.toList[k] = s[k] := rfl
      have hc := s[k].toNat_lt
      by_cases h1 : s[k].toNat < 97
      · have hv : nameB s.data.toList = false := by
          unfold nameB
          rw [all_not hkl (by rw [hget]; unfold nmB; simp; omega)]
          rfl
        have HV := Lib.hid hv
        clear hv
        go_wp2
        go_ret
        exact ⟨by rw [HV.out]; rfl, hbel⟩
      · by_cases h2 : 122 < s[k].toNat
        · have hv : nameB s.data.toList = false := by
            unfold nameB
            rw [all_not hkl (by rw [hget]; unfold nmB; simp; omega)]
            rfl
          have HV := Lib.hid hv
          clear hv
          go_wp2
          go_ret
          exact ⟨by rw [HV.out]; rfl, hbel⟩
        · have ha := all_take HA.out hkl (by rw [hget]; unfold nmB; simp; omega)
          have HA2 := Lib.hid ha
          clear ha hget
          go_wp2
          go_roundw
          case rel => exact ⟨k + 1, by omega, by go_num, HA2, hbel⟩
          case measure => simp [intOf]; omega
    · have hkk : s.data.toList.take k = s.data.toList := List.take_of_length_le (by rw [lenL]; omega)
      have ha := HA.out
      rw [hkk] at ha
      by_cases q1 : 1 ≤ s.size
      · by_cases q2 : s.size ≤ 12
        · have hv : nameB s.data.toList = true := by
            unfold nameB
            rw [ha, lenL]
            simp
            omega
          have HV := Lib.hid hv
          clear hv ha hkk
          go_wp2
          go_ret
          exact ⟨by rw [HV.out]; go_num, hbel⟩
        · have hv : nameB s.data.toList = false := by
            unfold nameB
            rw [ha, lenL]
            simp
            omega
          have HV := Lib.hid hv
          clear hv ha hkk
          go_wp2
          go_ret
          exact ⟨by rw [HV.out]; go_num, hbel⟩
      · have hv : nameB s.data.toList = false := by
          unfold nameB
          rw [ha, lenL]
          simp
          omega
        have HV := Lib.hid hv
        clear hv ha hkk
        go_wp2
        go_ret
        exact ⟨by rw [HV.out]; go_num, hbel⟩

theorem runes_val (s : ByteArray) (v : Value) (hv : RunesOut s = v) (hs : s.size ≤ 1000000) (W : World) :
    Calls Try.prog 15 #[.string s] W fun e w' => e = .returned v ∧ Below W.heap.size W w' := by
  rw [← hv]
  exact refRunes_any s hs W
set_option maxHeartbeats 400000 in
set_option maxRecDepth 100000 in
theorem refValue_any (s : ByteArray) (hs : s.size ≤ 1000000) (w : World) :
    Calls Try.prog 42 #[.string s] w fun e w' => e = .returned (.bool (valueB s.data.toList)) ∧ Below w.heap.size w w' := by
  go_enter Try.func42, Try.ntmps42
  go_wp2_with fail
  go_loopw [3] (fun i wr => ∃ k : Nat, k ≤ s.size ∧ i = .int .i64 k ∧ Hid ((s.data.toList.take k).all vlB = true) ∧ Below w.heap.size w wr) (fun i _ => s.size - (intOf i).toNat)
  case atStart => exact ⟨0, Nat.zero_le _, rfl, rfl, Below.refl _ _⟩
  case round =>
    obtain ⟨k, hk, rfl, HA, hbel⟩ := hrel
    by_cases hlt : k < s.size
    · have hkl : k < s.data.toList.length := by rw [lenL]; exact hlt
      have hget : s.data.toList[k] = s[k] := rfl
      have hc := s[k].toNat_lt
      by_cases h1 : s[k].toNat < 32
      · have hv : valueB s.data.toList = false := by
          unfold valueB
          rw [all_not hkl (by rw [hget]; unfold vlB; simp; omega)]
          rfl
        have HV := Lib.hid hv
        clear hv
        go_wp2
        go_ret
        exact ⟨by rw [HV.out]; rfl, hbel⟩
      · by_cases h2 : s[k].toNat = 127
        · have hv : valueB s.data.toList = false := by
            unfold valueB
            rw [all_not hkl (by rw [hget]; unfold vlB; simp; omega)]
            rfl
          have HV := Lib.hid hv
          have h2' : ((s[k].toNat : Int) == 127) = true := by simp; omega
          clear hv
          go_wp2
          go_ret
          exact ⟨by rw [HV.out]; rfl, hbel⟩
        · have ha := all_take HA.out hkl (by rw [hget]; unfold vlB; simp; omega)
          have HA2 := Lib.hid ha
          have h2' : ((s[k].toNat : Int) == 127) = false := by simp; omega
          clear ha hget
          go_wp2
          go_roundw
          case rel => exact ⟨k + 1, by omega, by go_num, HA2, hbel⟩
          case measure => simp [intOf]; omega
    · have hkk : s.data.toList.take k = s.data.toList := List.take_of_length_le (by rw [lenL]; omega)
      have ha := HA.out
      rw [hkk] at ha
      cases hc : cntL s.data.toList with
      | none =>
        have hv : valueB s.data.toList = false := by
          unfold valueB fewB
          rw [hc]
          simp
        have HR := Lib.hid (fun W => runes_val s (.tuple #[.int .i64 0, .bool false]) (by unfold RunesOut; rw [hc]) hs W)
        have HV := Lib.hid hv
        clear hv ha hkk hc
        go_wp2_with fail
        with_reducible refine (HR.out _).mono ?_
        rintro e w2 ⟨rfl, hb⟩
        go_wp2_with fail
        go_ret
        exact ⟨by rw [HV.out]; rfl, hbel.trans (hb.mono hbel.size)⟩
      | some n =>
        have hv : valueB s.data.toList = decide ((n : Int) ≤ 24) := by
          unfold valueB fewB
          rw [ha, hc, Bool.true_and]
          exact decide_eq_decide.2 (by omega)
        have HR := Lib.hid (fun W => runes_val s (.tuple #[.int .i64 (n : Int), .bool true]) (by unfold RunesOut; rw [hc]) hs W)
        have HV := Lib.hid hv
        clear hv ha hkk hc
        go_wp2_with fail
        with_reducible refine (HR.out _).mono ?_
        rintro e w2 ⟨rfl, hb⟩
        go_wp2_with fail
        go_ret
        exact ⟨by rw [HV.out]; rfl, hbel.trans (hb.mono hbel.size)⟩
end Go.Proofs.Ytbcgjgefkkibbaa
