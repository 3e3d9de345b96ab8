
/- Package label: Runes, and which texts are names, values. -/
import Derived.Test.YtekmdgjkadglmaaLRune
import Derived.Test.YtekmdgjkadglmaaLRefName
import Derived.Lib.OthersKept
namespace Go.Proofs.Ytekmdgjkadglmaa
open Go.RowKit

theorem ext3 (t : ByteArray) : (t.extract 0 3).toList = t.data.toList.take 3 := by rw [ByteArray.toList_eq, extL, List.drop_zero]
theorem pre_yes (t : ByteArray) (h : t.data.toList.take 3 = [239, 191, 189]) (w : World) :
    Calls Try.prog 13 #[.string t, .string { data := #[239, 191, 189] }] w fun e w' => e = .returned (.bool true) ∧ w = w' := by
  have h3 : 3 ≤ t.size := by have := congrArg List.length h; rw [List.length_take, lenL] at this; simp at this; omega
  have hb : ((t.extract 0 3).toList == [239, 191, 189]) = true := by rw [ext3, h]; rfl
  have h4 : ¬ t.size < 3 := by omega
  clear h
  go_enter Try.func13, Try.ntmps13
  go_wp2
  go_ret
  exact ⟨rfl, rfl⟩
theorem pre_no (t : ByteArray) (h : t.data.toList.take 3 ≠ [239, 191, 189]) (w : World) :
    Calls Try.prog 13 #[.string t, .string { data := #[239, 191, 189] }] w fun e w' => e = .returned (.bool false) ∧ w = w' := by
  by_cases h3 : 3 ≤ t.size
  · have hb : ((t.extract 0 3).toList == [239, 191, 189]) = false := by rw [ext3]; simpa using h
    clear h
    go_enter Try.func13, Try.ntmps13
    go_wp2
    go_ret
    exact ⟨rfl, rfl⟩
  · have h4 : t.size < 3 := by omega
    clear h
    go_enter Try.func13, Try.ntmps13
    go_wp2
    go_ret
    exact ⟨rfl, rfl⟩

theorem drop_ext (s : ByteArray) (p : Nat) : (s.extract p s.size).data.toList = s.data.toList.drop p := by
  rw [extL, List.take_of_length_le (by simp)]
theorem below_iter' (w : World) (s : ByteArray) (p : Nat) : Below w.heap.size w (w.iter s p) := below_iter w s p

set_option maxHeartbeats 1000000 in
set_option maxRecDepth 100000 in
theorem lRunes_any (s : ByteArray) (hs : s.size ≤ 3000) (w : World) :
    Calls Try.prog 6 #[.string s] w fun e w' => e = .returned (RunesOut s) ∧ Below w.heap.size w w' := by
  have h00 : Hid (cntL s.data.toList = (cntL (s.data.toList.drop 0)).map (0 + ·)) := show cntL s.data.toList = (cntL (s.data.toList.drop 0)).map (0 + ·) by rw [List.drop_zero]; cases cntL s.data.toList <;> simp
  go_enter Try.func6, Try.ntmps6
  go_wp2
  go_loopw [4] (fun n wr => ∃ k p : Nat, p ≤ s.size ∧ k ≤ p ∧ n = .int .i64 k ∧ wr = w.iter s p ∧ Hid (cntL s.data.toList = (cntL (s.data.toList.drop p)).map (k + ·))) (fun _ wr => s.size - wr.iterPos w.heap.size)
  case atStart => exact ⟨0, 0, Nat.zero_le _, Nat.le_refl _, rfl, rfl, h00⟩
  case round =>
    obtain ⟨k, p, hp, hkp, rfl, rfl, HC⟩ := hrel
    by_cases hlt : p < s.size
    · obtain ⟨r, j, hD, hc⟩ := next_shape s p hlt
      have n0 : ∀ ty, (Instr.next (.pointer (some ⟨w.heap.size, 0, none⟩)) true ty).run Try.prog (w.iter s p) = .ok (.tuple #[.bool true, .int .i64 (p : Int), .int .i32 (r : Int)]) (w.iter s (p + j)) := fun ty => by
        have := run_next_any (P := Try.prog) w s p ty hlt
        rw [hD] at this
        simpa using this
      clear hD
      have hd := drop_ext s p
      rcases hc with hR | ⟨hz, rfl, rfl, ht⟩
      · have hle : p + j ≤ s.size := by have := hR.le; rw [List.length_drop, lenL] at this; omega
        have hstep : Hid (cntL s.data.toList = (cntL (s.data.toList.drop (p + j))).map ((k + 1) + ·)) := by
          show cntL s.data.toList = (cntL (s.data.toList.drop (p + j))).map ((k + 1) + ·)
          rw [HC.out, cnt_step (by rw [hR.size]; have := hR.pos; omega), hR.size, List.drop_drop]
          cases cntL (s.data.toList.drop (p + j)) with
          | none => rfl
          | some n => simp; omega
        have hj := hR.pos
        by_cases h65 : r = 65533
        · have hpre := fun W => pre_yes (s.extract p s.size) (by rw [hd]; exact hR.err h65) W
          subst h65
          clear hd hR
          go_wp2_with (go_at_call 13; refine (hpre _).mono ?_; rintro e w' ⟨rfl, rfl⟩)
          go_roundw
          case rel => exact ⟨k + 1, p + j, hle, by omega, by go_num, rfl, hstep⟩
          case measure => simp; omega
        · have h65' : ¬ (r : Int) = 65533 := by omega
          clear hd hR
          go_wp2
          go_roundw
          case rel => exact ⟨k + 1, p + j, hle, by omega, by go_num, rfl, hstep⟩
          case measure => simp; omega
      · have hpre := fun W => pre_no (s.extract p s.size) (by rw [hd]; exact ht) W
        have hv : RunesOut s = .tuple #[.int .i64 0, .bool false] := by
          unfold RunesOut
          rw [HC.out, cnt_wrong (fun e => by have := congrArg List.length e; rw [List.length_drop] at this; simp at this; omega) hz]
          rfl
        have HV := Lib.hid hv
        clear hv hd hz ht
        go_wp2_with (go_at_call 13; refine (hpre _).mono ?_; rintro e w' ⟨rfl, rfl⟩)
        go_ret2
        exact ⟨by rw [HV.out]; rfl, below_iter _ _ _⟩
    · have n1 : ∀ ty, (Instr.next (.pointer (some ⟨w.heap.size, 0, none⟩)) true ty).run Try.prog (w.iter s p) = _ := fun ty => run_next_end (P := Try.prog) w _ p ty hlt
      have hv : RunesOut s = .tuple #[.int .i64 (k : Int), .bool true] := by
        unfold RunesOut
        rw [HC.out, List.drop_eq_nil_of_le (by rw [lenL]; omega), cnt_nil]
        simp
      have HV := Lib.hid hv
      clear hv
      go_wp2
      go_ret2
      exact ⟨by rw [HV.out]; rfl, below_iter _ _ _⟩

/-- A rune's first byte, and all of its bytes. -/
theorem next_bytes (s : ByteArray) (p : Nat) (h : p < s.size) : ∃ r k : Nat, Utf8.decode s p = (r, k) ∧ 1 ≤ k ∧ p + k ≤ s.size ∧ r ≤ 1114111 ∧
    ((r < 128 ∧ k = 1 ∧ ∃ hp : p < s.data.toList.length, (s.data.toList[p]).toNat = r) ∨ (128 ≤ r ∧ (∃ hp : p < s.data.toList.length, 128 ≤ (s.data.toList[p]).toNat) ∧ ∀ c ∈ (s.data.toList.drop p).take k, 128 ≤ c.toNat)) := by
  obtain ⟨r, k, hD, hc⟩ := next_shape s p h
  have hp : p < s.data.toList.length := by rw [lenL]; exact h
  have hg : (s.data.toList.drop p).getD 0 0 = s.data.toList[p] := by
    rw [List.getD_eq_getElem?_getD, List.getElem?_drop, Nat.add_zero, List.getElem?_eq_getElem hp]
    rfl
  have hdl : (s.data.toList.drop p).length = s.size - p := by rw [List.length_drop, lenL]
  have hcons : s.data.toList.drop p = s.data.toList[p] :: s.data.toList.drop (p + 1) := List.drop_eq_getElem_cons hp
  refine ⟨r, k, hD, ?_⟩
  rcases hc with hR | ⟨hz, rfl, rfl, ht⟩
  · have h1 := hR.pos
    have h2 := hR.le
    refine ⟨h1, by omega, hR.top, ?_⟩
    rcases hR.ascii with ⟨a1, a2, a3⟩ | ⟨a1, a2⟩
    · exact .inl ⟨a1, a2, hp, by rw [a3, hg]⟩
    · refine .inr ⟨a1, ⟨hp, a2 _ ?_⟩, a2⟩
      obtain ⟨k, rfl⟩ : ∃ m, k = m + 1 := ⟨k - 1, by omega⟩
      rw [hcons, List.take_succ_cons]
      exact List.mem_cons_self ..
  · have h8 : 128 ≤ (s.data.toList[p]).toNat := by
      unfold sizeL at hz
      rw [if_neg (by rw [hcons]; simp), hg] at hz
      by_cases h8 : (s.data.toList[p]).toNat < 128
      · rw [if_pos h8] at hz; omega
      · omega
    refine ⟨by omega, by omega, by omega, .inr ⟨by omega, ⟨hp, h8⟩, ?_⟩⟩
    intro c hc
    rw [hcons] at hc
    simp at hc
    rw [hc]
    exact h8
theorem all_more {f : UInt8 → Bool} {l : List UInt8} {p k : Nat} (h : (l.take p).all f = true) (hc : ∀ c ∈ (l.drop p).take k, f c = true) : (l.take (p + k)).all f = true := by
  rw [List.take_add, List.all_append, h, Bool.true_and]
  exact List.all_eq_true.2 hc

theorem nm_no {c : UInt8} (h : c.toNat < 97 ∨ 122 < c.toNat) : nmB c = false := by unfold nmB; simp only [Bool.and_eq_false_iff, decide_eq_false_iff_not]; omega
theorem nm_yes {c : UInt8} (h : 97 ≤ c.toNat) (h2 : c.toNat ≤ 122) : nmB c = true := by unfold nmB; simp only [Bool.and_eq_true, decide_eq_true_eq]; omega
theorem vl_no {c : UInt8} (h : c.toNat < 32 ∨ c.toNat = 127) : vlB c = false := by unfold vlB; simp only [Bool.and_eq_false_iff, decide_eq_false_iff_not]; omega
theorem vl_yes {c : UInt8} (h : 32 ≤ c.toNat) (h2 : c.toNat ≠ 127) : vlB c = true := by unfold vlB; simp only [Bool.and_eq_true, decide_eq_true_eq]; exact ⟨h, h2⟩
set_option maxHeartbeats 1000000 in
set_option maxRecDepth 100000 in
theorem isName_any (s : ByteArray) (hs : s.size ≤ 3000) (w : World) :
    Calls Try.prog 26 #[.string s] w fun e w' => e = .returned (.bool (nameB s.data.toList)) ∧ Below w.heap.size w w' := by
  go_enter Try.func26, Try.ntmps26
  go_wp2
  go_loopw [] (fun wr => ∃ p : Nat, p ≤ s.size ∧ wr = w.iter s p ∧ Hid ((s.data.toList.take p).all nmB = true)) (fun wr => s.size - wr.iterPos w.heap.size)
  case atStart => exact ⟨0, Nat.zero_le _, rfl, by rw [List.take_zero]; rfl⟩
  case round =>
    obtain ⟨p, hp, rfl, HC⟩ := hrel
    by_cases hlt : p < s.size
    · obtain ⟨r, j, hD, hj, hle, htop, hc⟩ := next_bytes s p hlt
      have n0 : ∀ ty, (Instr.next (.pointer (some ⟨w.heap.size, 0, none⟩)) true ty).run Try.prog (w.iter s p) = .ok (.tuple #[.bool true, .int .i64 (p : Int), .int .i32 (r : Int)]) (w.iter s (p + j)) := fun ty => by
        have := run_next_any (P := Try.prog) w s p ty hlt
        rw [hD] at this
        simpa using this
      clear hD
      have hno : (r < 97 ∨ 122 < r) → Hid (nameB s.data.toList = false) := fun h => by
        show nameB s.data.toList = false
        unfold nameB
        rcases hc with ⟨a1, a2, hpl, a3⟩ | ⟨a1, ⟨hpl, a3⟩, a4⟩
        · rw [all_not hpl (nm_no (by rw [a3]; exact h))]; rfl
        · rw [all_not hpl (nm_no (by omega))]; rfl
      by_cases hlo : r < 97
      · have HV := hno (.inl hlo)
        have h1 : (r : Int) < 97 := by omega
        clear hc hno
        go_wp2
        go_ret
        exact ⟨by rw [HV.out]; rfl, below_iter _ _ _⟩
      · by_cases hhi : 122 < r
        · have HV := hno (.inr hhi)
          have h1 : ¬ (r : Int) < 97 := by omega
          have h2 : (122 : Int) < r := by omega
          clear hc hno
          go_wp2
          go_ret
          exact ⟨by rw [HV.out]; rfl, below_iter _ _ _⟩
        · have hall : Hid ((s.data.toList.take (p + j)).all nmB = true) := by
            rcases hc with ⟨a1, a2, hpl, a3⟩ | ⟨a1, _⟩
            · subst a2
              exact all_take HC.out hpl (nm_yes (by omega) (by omega))
            · omega
          have h1 : ¬ (r : Int) < 97 := by omega
          have h2 : ¬ (122 : Int) < r := by omega
          clear hc hno
          go_wp2
          go_roundw
          case rel => exact ⟨p + j, hle, rfl, hall⟩
          case measure => simp; omega
    · have n1 : ∀ ty, (Instr.next (.pointer (some ⟨w.heap.size, 0, none⟩)) true ty).run Try.prog (w.iter s p) = _ := fun ty => run_next_end (P := Try.prog) w _ p ty hlt
      have hv : nameB s.data.toList = (decide (1 ≤ s.size) && decide (s.size ≤ 12)) := by
        unfold nameB
        have := HC.out
        rw [List.take_of_length_le (by rw [lenL]; omega)] at this
        rw [this, lenL, Bool.true_and]
      have HV := Lib.hid hv
      clear hv
      by_cases h1 : 1 ≤ s.size
      · have h1i : (1 : Int) ≤ (s.size : Int) := by omega
        by_cases h2 : s.size ≤ 12
        · go_wp2
          go_ret
          exact ⟨by rw [HV.out]; simp [h1, h2]; omega, below_iter _ _ _⟩
        · go_wp2
          go_ret
          exact ⟨by rw [HV.out]; simp [h1, h2]; omega, below_iter _ _ _⟩
      · go_wp2
        go_ret
        exact ⟨by rw [HV.out]; simp [h1], below_iter _ _ _⟩

set_option maxHeartbeats 1000000 in
set_option maxRecDepth 100000 in
theorem isValue_any (s : ByteArray) (hs : s.size ≤ 3000) (w : World) :
    Calls Try.prog 27 #[.string s] w fun e w' => e = .returned (.bool (valueB s.data.toList)) ∧ Below w.heap.size w w' := by
  have R1 := Lib.hid (fun W => lRunes_any s hs W)
  go_enter Try.func27, Try.ntmps27
  go_wp2
  go_loopw [] (fun wr => ∃ p : Nat, p ≤ s.size ∧ wr = w.iter s p ∧ Hid ((s.data.toList.take p).all vlB = true)) (fun wr => s.size - wr.iterPos w.heap.size)
  case atStart => exact ⟨0, Nat.zero_le _, rfl, by rw [List.take_zero]; rfl⟩
  case round =>
    obtain ⟨p, hp, rfl, HC⟩ := hrel
    by_cases hlt : p < s.size
    · obtain ⟨r, j, hD, hj, hle, htop, hc⟩ := next_bytes s p hlt
      have n0 : ∀ ty, (Instr.next (.pointer (some ⟨w.heap.size, 0, none⟩)) true ty).run Try.prog (w.iter s p) = .ok (.tuple #[.bool true, .int .i64 (p : Int), .int .i32 (r : Int)]) (w.iter s (p + j)) := fun ty => by
        have := run_next_any (P := Try.prog) w s p ty hlt
        rw [hD] at this
        simpa using this
      clear hD
      have hno : (r < 32 ∨ r = 127) → Hid (valueB s.data.toList = false) := fun h => by
        show valueB s.data.toList = false
        unfold valueB
        rcases hc with ⟨a1, a2, hpl, a3⟩ | ⟨a1, _, _⟩
        · rw [all_not hpl (vl_no (by rw [a3]; exact h))]; rfl
        · omega
      by_cases hlo : r < 32
      · have HV := hno (.inl hlo)
        have h1 : (r : Int) < 32 := by omega
        clear hc hno
        go_wp2
        go_ret
        exact ⟨by rw [HV.out]; rfl, below_iter _ _ _⟩
      · by_cases hhi : r = 127
        · have HV := hno (.inr hhi)
          subst hhi
          clear hc hno
          go_wp2
          go_ret
          exact ⟨by rw [HV.out]; rfl, below_iter _ _ _⟩
        · have hall : Hid ((s.data.toList.take (p + j)).all vlB = true) := by
            rcases hc with ⟨a1, a2, hpl, a3⟩ | ⟨a1, _, a4⟩
            · subst a2
              exact all_take HC.out hpl (vl_yes (by omega) (by omega))
            · exact all_more HC.out fun c hcc => vl_yes (by have := a4 c hcc; omega) (by have := a4 c hcc; omega)
          have h1 : ¬ (r : Int) < 32 := by omega
          have h2 : ¬ (r : Int) = 127 := by omega
          clear hc hno
          go_wp2
          go_roundw
          case rel => exact ⟨p + j, hle, rfl, hall⟩
          case measure => simp; omega
    · have n1 : ∀ ty, (Instr.next (.pointer (some ⟨w.heap.size, 0, none⟩)) true ty).run Try.prog (w.iter s p) = _ := fun ty => run_next_end (P := Try.prog) w _ p ty hlt
      have hv : valueB s.data.toList = fewB s.data.toList := by
        unfold valueB
        have := HC.out
        rw [List.take_of_length_le (by rw [lenL]; omega)] at this
        rw [this, Bool.true_and]
      have HV := Lib.hid hv
      clear hv
      go_wp2_with fail
      with_reducible refine (R1.out _).mono ?_
      rintro e w2 ⟨rfl, hb⟩
      have hbel : Below w.heap.size w w2 := (below_iter w s p).trans (hb.mono (below_iter w s p).size)
      clear hb R1
      cases hcn : cntL s.data.toList with
      | none =>
        have hR : RunesOut s = .tuple #[.int .i64 0, .bool false] := by unfold RunesOut; rw [hcn]
        have hF : fewB s.data.toList = false := by unfold fewB; rw [hcn]
        rw [hR]
        have HF := Lib.hid (HV.out.trans hF)
        clear hcn hR hF
        go_wp2
        go_ret
        exact ⟨by rw [HF.out]; rfl, hbel⟩
      | some n =>
        have hR : RunesOut s = .tuple #[.int .i64 (n : Int), .bool true] := by unfold RunesOut; rw [hcn]
        have hF : fewB s.data.toList = decide (n ≤ 24) := by unfold fewB; rw [hcn]
        rw [hR]
        have HF := Lib.hid (HV.out.trans hF)
        clear hcn hR hF
        by_cases hn : n ≤ 24
        · have hn2 : (n : Int) ≤ 24 := by omega
          go_wp2
          go_ret
          exact ⟨by rw [HF.out]; simp [hn] <;> omega, hbel⟩
        · have hn2 : ¬ (n : Int) ≤ 24 := by omega
          go_wp2
          go_ret
          exact ⟨by rw [HF.out]; simp [hn] <;> omega, hbel⟩
end Go.Proofs.Ytekmdgjkadglmaa
