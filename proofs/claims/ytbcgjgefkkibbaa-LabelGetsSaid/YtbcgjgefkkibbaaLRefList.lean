
/- The page's own answers for layer 4: List, Runes, isName, isValue. -/
import Derived.Test.YtbcgjgefkkibbaaLRefSize
namespace Go.Proofs.Ytbcgjgefkkibbaa
open Go.RowKit

theorem infoS : (Try.prog.info? 9).map (fun i => (i.zero, i.size, i.bytes)) = some (some (.string { data := #[] }), 1, 16) := by kernel_rfl
theorem partsL {i : Option TypeInfo} {z : Value} {n b : Nat} (h : i.map (fun i => (i.zero, i.size, i.bytes)) = some (some z, n, b)) : ∃ j, i = some j ∧ j.zero = some z ∧ j.size = n ∧ j.bytes = b := by
  cases i with
  | none => cases h
  | some j => exact ⟨j, rfl, by simp at h; exact h⟩
def sizeVL : Value → Nat
  | .string x => x.size
  | _ => 0
/-- What List and Runes answer. -/
def RunesOut (s : ByteArray) : Value := match cntL s.data.toList with
  | some n => .tuple #[.int .i64 (n : Int), .bool true]
  | none => .tuple #[.int .i64 0, .bool false]

set_option maxHeartbeats 1000000 in
set_option maxRecDepth 100000 in
theorem refList_any (s : ByteArray) (hs : s.size ≤ 1000000) (w : World) :
    Calls Try.prog 35 #[.string s] w fun e w' =>
      ((∃ n a c, cntL s.data.toList = some n ∧ e = .returned (.tuple #[.slice a n c, .bool true])) ∨ (cntL s.data.toList = none ∧ e = .returned (.tuple #[.slice none 0 0, .bool false]))) ∧ Below w.heap.size w w' := by
  obtain ⟨i0, hi, hz0, hz1, hz2⟩ := partsL infoS
  have h00 : Hid (cntL s.data.toList = (cntL s.data.toList).map (0 + ·)) := show cntL s.data.toList = (cntL s.data.toList).map (0 + ·) by cases cntL s.data.toList <;> simp
  go_enter Try.func35, Try.ntmps35
  go_wp2_with fail
  go_loopw [0, 4] (fun cur v wr => ∃ (ri : ByteArray) (m : Nat) (xs : List Value), cur = .string ri ∧ Hid (cntL s.data.toList = (cntL ri.data.toList).map (m + ·)) ∧ m + ri.size ≤ s.size ∧ wr.ownsRow w.heap.size 9 1 v m xs ∧ Below w.heap.size w wr)
    (fun cur _ _ => sizeVL cur)
  case atStart => exact ⟨s, 0, [], rfl, h00, by omega, World.ownsRow_nil _ _ _ _, Below.refl _ _⟩
  case round =>
    obtain ⟨ri, m, xs, rfl, HC, hm, hown, hbel⟩ := hrel
    by_cases h0 : ri.data.toList = []
    · obtain rfl : ri = { data := #[] } := baL (by rw [h0])
      have hv : ∃ a c, u4 = .slice a m c := by
        rcases hown.2 with ⟨rfl, rfl⟩ | ⟨g, cap, cur, rfl, _⟩
        · exact ⟨_, _, rfl⟩
        · exact ⟨_, _, rfl⟩
      obtain ⟨a, c, rfl⟩ := hv
      have hc : cntL s.data.toList = some m := by rw [HC.out]; rfl
      have HC2 := Lib.hid hc
      clear hc h0 hown
      go_wp2_with fail
      go_ret2
      exact ⟨.inl ⟨m, HC2.out, a, c, rfl⟩, hbel⟩
    · have hne : ¬ ri.toList = [] := by rw [ByteArray.toList_eq]; exact h0
      have hnb : ri.toList.isEmpty = false := by
        cases h : ri.toList with
        | nil => exact absurd h hne
        | cons => rfl
      have HZ := Lib.hid (fun W => refSize_any ri (by omega) W)
      have hle := sizeL_le ri.data.toList
      rw [lenL] at hle
      by_cases hz : sizeL ri.data.toList = 0
      · have hc : cntL s.data.toList = none := by rw [HC.out, cnt_wrong h0 hz]; rfl
        have HC2 := Lib.hid hc
        rw [hz] at HZ
        clear hc h0 hz hle hown
        go_wp2_with fail
        with_reducible refine (HZ.out _).mono ?_
        rintro e w2 ⟨rfl, hb⟩
        go_wp2_with fail
        go_ret2
        exact ⟨.inr ⟨HC2.out, rfl⟩, hbel.trans (hb.mono hbel.size)⟩
      · have hst := cnt_step hz
        obtain ⟨z, hzz⟩ : ∃ z, sizeL ri.data.toList = z := ⟨_, rfl⟩
        have hnx : (ri.extract z ri.size).data.toList = ri.data.toList.drop z := by rw [extL, List.take_of_length_le (by rw [lenL]; exact Nat.le_refl _)]
        rw [hzz] at HZ hle hst hz
        have hc2 : cntL s.data.toList = (cntL (ri.extract z ri.size).data.toList).map (m + 1 + ·) := by
          rw [HC.out, hst, hnx]
          cases cntL (ri.data.toList.drop z) with
          | none => rfl
          | some q => simp; omega
        have HC2 := Lib.hid hc2
        have hsz : (ri.extract z ri.size).size = ri.size - z := by simp
        have HSZ := Lib.hid hsz
        have hz11 : 1 ≤ z := by omega
        have hzi : ¬ (z : Int) = 0 := by omega
        clear hc2 hnx hst hzz hsz h0 hz
        go_wp2_with fail
        with_reducible refine (HZ.out _).mono ?_
        rintro e w2 ⟨rfl, hb2⟩
        have hown2 := hown.kept (w' := w2) (row := none) ⟨hb2.os, hb2.tape, hb2.output, hb2.size, fun i hi _ => hb2.block i hi⟩ (Classical.em _)
        have hb3 := hbel.trans (hb2.mono hbel.size)
        clear hown hb2 hbel
        go_wp2_with (at_builtin; refine wpList_append_own _ rfl _ _ 54 rfl w.heap.size 9 i0 (.string { data := #[] }) 1 16 Try.underlying54 hi hz0 hz1 hz2 rfl (by decide) _ _ _ rfl (hown2.alloc _) ⟨w2.heap.size, 0, none⟩ 1 1 [.string (ri.extract 0 z)] rfl rfl ?c1 ?c2 ?c3 ?c4 ?c5 ?_)
        case c1 =>
          intro j u hj
          match j, hj with
          | 0, hj =>
            simp at hj
            subst hj
            exact World.cell?_alloc_at _ _ _ _ rfl
        case c2 => intro u hu; simp at hu; subst hu; rfl
        case c3 => unfold maxLen; omega
        case c4 => omega
        case c5 => have := hb3.size; simp; omega
        intro v' w3 hown' hgrow _
        have hb4 : Below w.heap.size w w3 := (hb3.alloc hb3.size _).grown hgrow (by have := hb3.size; simp; omega) (fun r e => (hown2.lt r e).1)
        have HO3 := Lib.hid hown'
        clear hown' hown2 hgrow hb3
        go_wp2
        go_roundw
        case rel => exact ⟨ri.extract z ri.size, m + 1, _, rfl, HC2, by rw [HSZ.out]; omega, HO3.out, hb4⟩
        case measure => show (ri.extract z ri.size).size < ri.size; rw [HSZ.out]; omega
theorem refRunes_any (s : ByteArray) (hs : s.size ≤ 1000000) (w : World) :
    Calls Try.prog 15 #[.string s] w fun e w' => e = .returned (RunesOut s) ∧ Below w.heap.size w w' := by
  have HL := fun W => refList_any s hs W
  cases hc : cntL s.data.toList with
  | some n =>
    have ho : RunesOut s = .tuple #[.int .i64 (n : Int), .bool true] := by unfold RunesOut; rw [hc]
    rw [ho]
    have HL2 : ∀ W, Calls Try.prog 35 #[.string s] W fun e w' => (∃ a c, e = .returned (.tuple #[.slice a n c, .bool true])) ∧ Below W.heap.size W w' := fun W => (HL W).mono (by
      rintro e w' ⟨⟨m, a, c, h, he⟩ | ⟨h, _⟩, hb⟩
      · rw [hc] at h
        cases h
        exact ⟨⟨a, c, he⟩, hb⟩
      · rw [hc] at h
        cases h)
    have HL3 := Lib.hid HL2
    clear HL HL2 ho hc
    go_enter Try.func15, Try.ntmps15
    go_wp2_with fail
    with_reducible refine (HL3.out _).mono ?_
    rintro e w2 ⟨⟨a, c, rfl⟩, hb⟩
    go_wp2_with fail
    go_ret2
    exact ⟨rfl, hb⟩
  | none =>
    have ho : RunesOut s = .tuple #[.int .i64 0, .bool false] := by unfold RunesOut; rw [hc]
    rw [ho]
    have HL2 : ∀ W, Calls Try.prog 35 #[.string s] W fun e w' => e = .returned (.tuple #[.slice none 0 0, .bool false]) ∧ Below W.heap.size W w' := fun W => (HL W).mono (by
      rintro e w' ⟨⟨m, a, c, h, he⟩ | ⟨_, h⟩, hb⟩
      · rw [hc] at h
        cases h
      · exact ⟨h, hb⟩)
    have HL3 := Lib.hid HL2
    clear HL HL2 ho hc
    go_enter Try.func15, Try.ntmps15
    go_wp2_with fail
    with_reducible refine (HL3.out _).mono ?_
    rintro e w2 ⟨rfl, hb⟩
    go_wp2_with fail
    go_ret2
    exact ⟨rfl, hb⟩
end Go.Proofs.Ytbcgjgefkkibbaa
