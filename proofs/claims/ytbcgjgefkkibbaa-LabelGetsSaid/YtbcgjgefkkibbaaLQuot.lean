/- Package label: a value as it stands in a set's text. -/
import Derived.Test.YtbcgjgefkkibbaaLBld
import Derived.Test.YtbcgjgefkkibbaaLRune
import Derived.Test.YtbcgjgefkkibbaaLRefText
import Derived.Lib.Hide
namespace Go.Proofs.Ytbcgjgefkkibbaa
open Go.RowKit

theorem escQ_app (a c : List UInt8) : escL (a ++ c) = escL a ++ escL c := by simp [escL]
theorem esc_plain {l : List UInt8} (h : ∀ c ∈ l, c ≠ 44 ∧ c ≠ 92) : escL l = l := by
  induction l with
  | nil => rfl
  | cons c l ih =>
    have h1 := h c (List.mem_cons_self ..)
    have e : escL (c :: l) = escC c ++ escL l := by simp [escL]
    rw [e, ih fun d hd => h d (List.mem_cons_of_mem _ hd)]
    unfold escC
    rw [if_neg (by rintro (h | h) <;> simp_all)]
    rfl
theorem take_one_of {l : List UInt8} {r : Nat} (h : l ≠ []) (hr : r = (l.getD 0 0).toNat) (q : Nat) (he : r = q) : l.take 1 = [UInt8.ofNat q] := by
  cases l with
  | nil => exact absurd rfl h
  | cons c l =>
    simp only [List.getD_cons_zero] at hr
    simp only [List.take_succ_cons, List.take_zero]
    rw [← he, hr]
    simp
/-- What a rune of a value comes to. -/
theorem esc_rune {l : List UInt8} {r k : Nat} (hl : l ≠ []) (h : RuneAt l r k) :
    ((r = 44 ∨ r = 92) ∧ escL (l.take k) = [92] ++ l.take k) ∨ (r ≠ 44 ∧ r ≠ 92 ∧ escL (l.take k) = l.take k) := by
  by_cases hq : r = 44 ∨ r = 92
  · left
    refine ⟨hq, ?_⟩
    rcases h.ascii with ⟨a1, rfl, a3⟩ | ⟨a1, _⟩
    · rcases hq with hq | hq
      · rw [take_one_of hl a3 44 hq]; rfl
      · rw [take_one_of hl a3 92 hq]; rfl
    · omega
  · right
    refine ⟨fun e => hq (.inl e), fun e => hq (.inr e), esc_plain fun c hc => ?_⟩
    rcases h.ascii with ⟨a1, rfl, a3⟩ | ⟨a1, a2⟩
    · cases l with
      | nil => exact absurd rfl hl
      | cons d l =>
        simp only [List.take_succ_cons, List.take_zero, List.mem_cons, List.not_mem_nil, or_false] at hc
        simp only [List.getD_cons_zero] at a3
        subst hc
        exact ⟨fun e => hq (.inl (by rw [a3, e]; rfl)), fun e => hq (.inr (by rw [a3, e]; rfl))⟩
    · have := a2 c hc
      exact ⟨fun e => by rw [e] at this; exact absurd this (by decide), fun e => by rw [e] at this; exact absurd this (by decide)⟩
theorem fresh_bld (w : World) : Lib.IsBuilderF 60 5 w.heap.size w.heap.size (Lib.byteCells []) (w.alloc (.cells #[.pointer none, .slice none 0 0] 60)) := Lib.IsBuilderF.of (Lib.fresh_isBuilder 60 5 w)
theorem quote_cells : Lib.runeCells 92 = Lib.byteCells [92] := by rw [← Lib.byteCells_encodeRune]; rfl

set_option maxHeartbeats 2000000 in
set_option maxRecDepth 100000 in
theorem quoted_any (s : ByteArray) (hs : s.size ≤ 3000) (hv : ∃ n, cntL s.data.toList = some n) (w : World) :
    Calls Try.prog 39 #[.string s] w fun e w' => e = .returned (.string ⟨(escL s.data.toList).toArray⟩) ∧ Below w.heap.size w w' := by
  have h00 : Hid (∃ n, cntL (s.data.toList.drop 0) = some n) := by rw [List.drop_zero]; exact hv
  clear hv
  go_enter Try.func39, Try.ntmps39
  go_wp2
  go_loopw [] (fun wr => ∃ p : Nat, p ≤ s.size ∧ Lib.IsBuilderF 60 5 w.heap.size w.heap.size (Lib.byteCells (escL (s.data.toList.take p))) wr ∧ wr.heap[w.heap.size + 1]? = some (.stringIter s p) ∧ Below w.heap.size w wr ∧ Hid (∃ n, cntL (s.data.toList.drop p) = some n)) (fun wr => s.size - wr.iterPos (w.heap.size + 1))
  case atStart =>
    refine ⟨0, Nat.zero_le _, (fresh_bld w).alloc _, ?_, ((Below.refl _ w).alloc (Nat.le_refl _) _).alloc (by simp) _, h00⟩
    have := World.iter_heap (w.alloc (.cells #[.pointer none, .slice none 0 0] 60)) s 0
    simpa using this
  case round =>
    obtain ⟨p, hp, hI, hit, hbw, HC⟩ := hrel
    have hsz : w.heap.size + 1 < wr.heap.size := (Array.getElem?_eq_some_iff.1 hit).1
    by_cases hlt : p < s.size
    · obtain ⟨r, j, hD, hc⟩ := next_shape s p hlt
      obtain ⟨n, hn⟩ := HC.out
      have hne : s.data.toList.drop p ≠ [] := fun e => by have := congrArg List.length e; rw [List.length_drop] at this; simp at this; omega
      rcases hc with hR | ⟨hz, _⟩
      · have hj := hR.pos
        have hle : p + j ≤ s.size := by have := hR.le; rw [List.length_drop, lenL] at this; omega
        have htop := hR.top
        have hn2 : Hid (∃ n, cntL (s.data.toList.drop (p + j)) = some n) := by
          rw [cnt_step (by rw [hR.size]; omega), hR.size, List.drop_drop] at hn
          cases hq : cntL (s.data.toList.drop (p + j)) with
          | none => rw [hq] at hn; cases hn
          | some m => exact ⟨m, rfl⟩
        have hcells := hR.cells
        have hesc := esc_rune hne hR
        have htk : s.data.toList.take (p + j) = s.data.toList.take p ++ (s.data.toList.drop p).take j := List.take_add ..
        have hnx : ∀ ty, (Instr.next (.pointer (some ⟨w.heap.size + 1, 0, none⟩)) true ty).run Try.prog wr = .ok (.tuple #[.bool true, .int .i64 (p : Int), .int .i32 (r : Int)]) (wr.iterAt (w.heap.size + 1) s (p + j)) := fun ty => by
          have := Lib.run_next_any_at (P := Try.prog) wr (w.heap.size + 1) s p ty hit hlt
          rw [hD] at this
          simpa using this
        have hI2 := hI.iterAt hit (p + j)
        have hit2 := Lib.iterAt_heap wr (w.heap.size + 1) s p (p + j) hit
        have hbw2 := Lib.below_iterAt hbw (k := w.heap.size + 1) (by omega) s (p + j)
        have hsz2 : w.heap.size ≤ (wr.iterAt (w.heap.size + 1) s (p + j)).heap.size := by rw [Lib.iterAt_size]; omega
        have hlen : (escL (s.data.toList.take p)).length ≤ 6000 := by
          have := esc_len (s.data.toList.take p)
          have h2 := List.length_take_le p s.data.toList
          omega
        have HE := Lib.hid hesc
        have HTK := Lib.hid htk
        have HCE := Lib.hid hcells
        have HIT := Lib.hid hit
        clear hesc htk hcells hD hn hR hne hI
        by_cases hq : r = 44 ∨ r = 92
        · have hes : escL (s.data.toList.take (p + j)) = (escL (s.data.toList.take p) ++ [92]) ++ (s.data.toList.drop p).take j := by
            rw [HTK.out, escQ_app]
            rcases HE.out with ⟨_, h⟩ | ⟨h1, h2, _⟩
            · rw [h, List.append_assoc]
            · rcases hq with h | h <;> contradiction
          have HES := Lib.hid hes
          have W1 := Lib.hid (fun W h hB => runeF_any w.heap.size w.heap.size (Lib.byteCells (escL (s.data.toList.take p))) 92 (by decide) (by decide) W h (by rw [Lib.byteCells_length]; omega) hB)
          have W2 := Lib.hid (fun W h hB => runeF_any w.heap.size w.heap.size (Lib.byteCells (escL (s.data.toList.take p) ++ [92])) (r : Int) (by omega) (by omega) W h (by rw [Lib.byteCells_length, List.length_append]; simp; omega) hB)
          rw [quote_cells, ← Lib.byteCells_append] at W1
          rw [HCE.out, ← Lib.byteCells_append, ← HES.out] at W2
          clear hes
          obtain ⟨ri, hri⟩ : ∃ ri : Int, ri = (r : Int) := ⟨_, rfl⟩
          rw [← hri] at hnx W2
          have hq' : ri = 44 ∨ ri = 92 := by omega
          clear hri hq
          rcases hq' with rfl | rfl
          all_goals
            go_wp2_with fail
            with_reducible refine (W1.out _ hI2 hsz2).mono ?_
            rintro e V1 ⟨rfl, h1, b1, k1⟩
            have hit3 := k1.iter hit2 (by omega)
            have hbw3 := hbw2.trans b1
            have hsz3 : w.heap.size ≤ V1.heap.size := hbw3.size
            clear hI2 hit2 hbw2 hsz2 k1 b1 W1
            go_wp2_with fail
            with_reducible refine (W2.out _ h1 hsz3).mono ?_
            rintro e V2 ⟨rfl, h2, b2, k2⟩
            have hit4 := k2.iter hit3 (by omega)
            clear W2 k2
            go_wp2_with fail
            go_roundw
            case rel => exact ⟨p + j, hle, h2, hit4, hbw3.trans b2, hn2⟩
            case measure =>
              simp only [World.iterPos, hit4, HIT.out]
              omega
        · have hes : escL (s.data.toList.take (p + j)) = escL (s.data.toList.take p) ++ (s.data.toList.drop p).take j := by
            rw [HTK.out, escQ_app]
            rcases HE.out with ⟨h, _⟩ | ⟨h1, h2, h⟩
            · exact absurd h hq
            · rw [h]
          have HES := Lib.hid hes
          have W2 := Lib.hid (fun W h hB => runeF_any w.heap.size w.heap.size (Lib.byteCells (escL (s.data.toList.take p))) (r : Int) (by omega) (by omega) W h (by rw [Lib.byteCells_length]; omega) hB)
          rw [HCE.out, ← Lib.byteCells_append, ← HES.out] at W2
          have q1 : ((r : Int) == 44) = false := by simp; omega
          have q2 : ((r : Int) == 92) = false := by simp; omega
          clear hes
          go_wp2_with fail
          with_reducible refine (W2.out _ hI2 hsz2).mono ?_
          rintro e V2 ⟨rfl, h2, b2, k2⟩
          have hit4 := k2.iter hit2 (by omega)
          clear W2 k2
          go_wp2_with fail
          go_roundw
          case rel => exact ⟨p + j, hle, h2, hit4, hbw2.trans b2, hn2⟩
          case measure =>
            simp only [World.iterPos, hit4, HIT.out]
            omega
      · rw [cnt_wrong hne hz] at hn
        cases hn
    · have hnx : ∀ ty, (Instr.next (.pointer (some ⟨w.heap.size + 1, 0, none⟩)) true ty).run Try.prog wr = _ := fun ty => Lib.run_next_end_at wr (w.heap.size + 1) s p ty hit hlt
      have htk : s.data.toList.take p = s.data.toList := List.take_of_length_le (by rw [lenL]; omega)
      rw [htk] at hI
      have S1 := Lib.hid (fun W h hB => stringF_any w.heap.size w.heap.size (escL s.data.toList) W h hB)
      clear htk
      go_wp2_with fail
      with_reducible refine (S1.out _ hI (by omega)).mono ?_
      rintro e V2 ⟨rfl, b2⟩
      clear S1
      go_wp2_with fail
      go_ret
      exact ⟨rfl, hbw.trans b2⟩
end Go.Proofs.Ytbcgjgefkkibbaa
