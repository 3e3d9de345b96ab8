/- Package field's reader: how many, a text, the end; Get and GetText. -/
import Derived.Test.YthbfibnpfdegaaaDoorFNum
namespace Go.Proofs.YthbfibnpfdegaaaDoor
open Go.RowKit

theorem Sent.grown {am af : Addr} {N b : Nat} {w w' : World} (h : Sent am af N w) (hg : w.grownBy w' (some b)) (hNb : N ≤ b) : Sent am af N w' :=
  h.below (grb_down hg h.all hNb (Below.refl N w)) (Nat.le_refl _)

section
variable {am af : Addr} {N b : Nat} {s whole : ByteArray} {w : World}
theorem number_any (hs : s.size ≤ maxLen) (h : HasC w b 96 #[.string s, .string whole]) (hS : Sent am af N w) (hNb : N ≤ b) :
    Calls Tryd.prog 49 #[.pointer (some ⟨b, 0, none⟩)] w (NumPost am af s whole b w) := callsIn_wide.1 (number_in 3 (by decide) b s whole hs w h hS hNb)
theorem number_more (hs : s.size ≤ maxLen) (h : HasC w b 96 #[.string s, .string whole]) (hS : Sent am af N w) (hNb : N ≤ b) (hg : getL s.data.toList = .more) :
    Calls Tryd.prog 49 #[.pointer (some ⟨b, 0, none⟩)] w fun e w' => e = .returned (.tuple #[.int .u64 0, .iface 128 (.pointer (some am))]) ∧ w.grownBy w' (some b) ∧ HasC w' b 96 #[.string s, .string whole] := by
  refine (number_any hs h hS hNb).mono ?_
  rintro e w' ⟨h1, ⟨h2, h3, h4⟩ | ⟨h2, _⟩ | ⟨v, k, h2, _⟩⟩
  · exact ⟨h3, h1, h4⟩
  · rw [hg] at h2; cases h2
  · rw [hg] at h2; cases h2
theorem number_bad (hs : s.size ≤ maxLen) (h : HasC w b 96 #[.string s, .string whole]) (hS : Sent am af N w) (hNb : N ≤ b) (hg : getL s.data.toList = .bad) :
    Calls Tryd.prog 49 #[.pointer (some ⟨b, 0, none⟩)] w fun e w' => e = .returned (.tuple #[.int .u64 0, .iface 128 (.pointer (some af))]) ∧ w.grownBy w' (some b) ∧ ∃ r, HasC w' b 96 #[.string r, .string whole] := by
  refine (number_any hs h hS hNb).mono ?_
  rintro e w' ⟨h1, ⟨h2, _⟩ | ⟨h2, h3, h4⟩ | ⟨v, k, h2, _⟩⟩
  · rw [hg] at h2; cases h2
  · exact ⟨h3, h1, h4⟩
  · rw [hg] at h2; cases h2
theorem number_ok {v k : Nat} (hs : s.size ≤ maxLen) (h : HasC w b 96 #[.string s, .string whole]) (hS : Sent am af N w) (hNb : N ≤ b) (hg : getL s.data.toList = .ok v k) :
    Calls Tryd.prog 49 #[.pointer (some ⟨b, 0, none⟩)] w fun e w' => e = .returned (.tuple #[.int .u64 (v : Int), .nilIface]) ∧ w.grownBy w' (some b) ∧ HasC w' b 96 #[.string (s.extract k s.size), .string whole] := by
  refine (number_any hs h hS hNb).mono ?_
  rintro e w' ⟨h1, ⟨h2, _⟩ | ⟨h2, _⟩ | ⟨v', k', h2, h3, h4⟩⟩
  · rw [hg] at h2; cases h2
  · rw [hg] at h2; cases h2
  · rw [hg] at h2
    obtain ⟨rfl, rfl⟩ : v = v' ∧ k = k' := by simpa using h2
    exact ⟨h3, h1, h4⟩

theorem end_nil (h : HasC w b 96 #[.string s, .string whole]) :
    Calls Tryd.prog 50 #[.pointer (some ⟨b, 0, none⟩), .nilIface] w fun e w' => e = .returned (.tuple #[.string s, .int .i64 0]) ∧ w = w' := by
  have c0 : w.cell? ⟨b, 0, none⟩ = some (.string s) := h.cell 0
  have c1 : w.cell? ⟨b, 1, none⟩ = some (.string whole) := h.cell 1
  clear h
  go_enter Tryd.func50, Tryd.ntmps50
  go_wp2_with (go_at_call 56; refine (errno_nil _).mono ?_; rintro e w' ⟨rfl, rfl⟩)
  go_ret2
  exact ⟨rfl, rfl⟩
theorem end_more (h : HasC w b 96 #[.string s, .string whole]) (hS : Sent am af N w) :
    Calls Tryd.prog 50 #[.pointer (some ⟨b, 0, none⟩), .iface 128 (.pointer (some am))] w fun e w' => e = .returned (.tuple #[.string whole, .int .i64 20]) ∧ w = w' := by
  have c0 : w.cell? ⟨b, 0, none⟩ = some (.string s) := h.cell 0
  have c1 : w.cell? ⟨b, 1, none⟩ = some (.string whole) := h.cell 1
  clear h
  go_enter Tryd.func50, Tryd.ntmps50
  go_wp2_with (go_at_call 56; refine (errno_more hS).mono ?_; rintro e w' ⟨rfl, rfl⟩)
  go_ret2
  exact ⟨rfl, rfl⟩
theorem end_field (h : HasC w b 96 #[.string s, .string whole]) (hS : Sent am af N w) :
    Calls Tryd.prog 50 #[.pointer (some ⟨b, 0, none⟩), .iface 128 (.pointer (some af))] w fun e w' => e = .returned (.tuple #[.string whole, .int .i64 21]) ∧ w = w' := by
  have c0 : w.cell? ⟨b, 0, none⟩ = some (.string s) := h.cell 0
  have c1 : w.cell? ⟨b, 1, none⟩ = some (.string whole) := h.cell 1
  clear h
  go_enter Tryd.func50, Tryd.ntmps50
  go_wp2_with (go_at_call 56; refine (errno_field hS).mono ?_; rintro e w' ⟨rfl, rfl⟩)
  go_ret2
  exact ⟨rfl, rfl⟩
end

theorem readerOf_any (s : ByteArray) (w : World) : Calls Tryd.prog 48 #[.string s] w fun e w' => e = .returned (.agg #[.string s, .string s]) ∧ Below w.heap.size w w' := by
  go_enter Tryd.func48, Tryd.ntmps48
  go_wp2
  exact bodyPost_ret (v := .agg #[.string s, .string s]) (by simp [results, Tryd.results48, go_sem]) rfl ⟨rfl, ((Below.refl _ _).alloc (Nat.le_refl _) _)⟩

/-- What Get answers. -/
def GetOut (s : ByteArray) : Value := match getL s.data.toList with
  | .more => .tuple #[.int .u64 0, .string s, .int .i64 20]
  | .bad => .tuple #[.int .u64 0, .string s, .int .i64 21]
  | .ok v k => .tuple #[.int .u64 (v : Int), .string (s.extract k s.size), .int .i64 0]

theorem get_any {am af : Addr} {N : Nat} (s : ByteArray) (hs : s.size ≤ maxLen) (w : World) (hS : Sent am af N w) :
    Calls Tryd.prog 43 #[.string s] w fun e w' => e = .returned (GetOut s) ∧ Below w.heap.size w w' := by
  have HS := Lib.hid hs
  clear hs
  have hN := hS.all
  cases hg : getL s.data.toList
  · have ho : GetOut s = .tuple #[.int .u64 0, .string s, .int .i64 20] := by unfold GetOut; rw [hg]
    rw [ho]
    have HG := Lib.hid hg
    clear hg ho
    go_enter Tryd.func43, Tryd.ntmps43
    go_wp2_with fail
    refine (readerOf_any _ _).mono ?_
    rintro e w1 ⟨rfl, hb1⟩
    go_wp2_with fail
    have hz1 := hb1.size
    have hS1 : Sent am af N (w1.alloc (.cells #[.string s, .string s] 96)) := hS.below (hb1.alloc hz1 _) hN
    refine (number_more HS.out (HasC.new _ _ _) hS1 (by omega) HG.out).mono ?_
    rintro e w2 ⟨rfl, hg2, hc2⟩
    go_wp2_with fail
    refine (end_more hc2 (hS1.grown hg2 (by omega))).mono ?_
    rintro e w3 ⟨rfl, rfl⟩
    go_wp2_with fail
    go_ret3
    exact ⟨rfl, grb_down hg2 (by simp; omega) hz1 (hb1.alloc hz1 _)⟩
  · have ho : GetOut s = .tuple #[.int .u64 0, .string s, .int .i64 21] := by unfold GetOut; rw [hg]
    rw [ho]
    have HG := Lib.hid hg
    clear hg ho
    go_enter Tryd.func43, Tryd.ntmps43
    go_wp2_with fail
    refine (readerOf_any _ _).mono ?_
    rintro e w1 ⟨rfl, hb1⟩
    go_wp2_with fail
    have hz1 := hb1.size
    have hS1 : Sent am af N (w1.alloc (.cells #[.string s, .string s] 96)) := hS.below (hb1.alloc hz1 _) hN
    refine (number_bad HS.out (HasC.new _ _ _) hS1 (by omega) HG.out).mono ?_
    rintro e w2 ⟨rfl, hg2, hc2⟩
    obtain ⟨r, hc2⟩ := hc2
    go_wp2_with fail
    refine (end_field hc2 (hS1.grown hg2 (by omega))).mono ?_
    rintro e w3 ⟨rfl, rfl⟩
    go_wp2_with fail
    go_ret3
    exact ⟨rfl, grb_down hg2 (by simp; omega) hz1 (hb1.alloc hz1 _)⟩
  · rename_i v k
    have ho : GetOut s = .tuple #[.int .u64 (v : Int), .string (s.extract k s.size), .int .i64 0] := by unfold GetOut; rw [hg]
    rw [ho]
    have HG := Lib.hid hg
    clear hg ho
    go_enter Tryd.func43, Tryd.ntmps43
    go_wp2_with fail
    refine (readerOf_any _ _).mono ?_
    rintro e w1 ⟨rfl, hb1⟩
    go_wp2_with fail
    have hz1 := hb1.size
    have hS1 : Sent am af N (w1.alloc (.cells #[.string s, .string s] 96)) := hS.below (hb1.alloc hz1 _) hN
    refine (number_ok HS.out (HasC.new _ _ _) hS1 (by omega) HG.out).mono ?_
    rintro e w2 ⟨rfl, hg2, hc2⟩
    go_wp2_with fail
    refine (end_nil hc2).mono ?_
    rintro e w3 ⟨rfl, rfl⟩
    go_wp2_with fail
    go_ret3
    exact ⟨rfl, grb_down hg2 (by simp; omega) hz1 (hb1.alloc hz1 _)⟩

/-- How many there are, at most as many. -/
def cntL (most : Nat) (l : List UInt8) : GR := match getL l with
  | .ok v k => if most < v then .bad else .ok v k
  | e => e
/-- A text that bytes begin with: where it begins, and where what is behind it does. -/
def textL (l : List UInt8) : GR := match cntL 400 l with
  | .ok v k => if l.length < k + v then .more else .ok k (k + v)
  | e => e

section
variable {am af : Addr} {N b : Nat} {s whole : ByteArray} {w : World}
theorem cnt_ok {most v k : Nat} {l : List UInt8} (hg : cntL most l = .ok v k) : getL l = .ok v k ∧ v ≤ most := by
  unfold cntL at hg
  split at hg
  · rename_i v' k' hgl
    split at hg
    · cases hg
    · rename_i hlt
      obtain ⟨rfl, rfl⟩ : v' = v ∧ k' = k := by simpa using hg
      exact ⟨hgl, by omega⟩
  · rename_i hn
    exact absurd hg (hn _ _)

theorem text_cases {l : List UInt8} {a k : Nat} (hg : textL l = .ok a k) : ∃ v, cntL 400 l = .ok v a ∧ k = a + v ∧ k ≤ l.length ∧ v ≤ 400 ∧ 1 ≤ a := by
  unfold textL at hg
  split at hg
  · rename_i v k' hgl
    split at hg
    · cases hg
    · rename_i hlt
      obtain ⟨rfl, rfl⟩ : k' = a ∧ k' + v = k := by simpa using hg
      obtain ⟨h1, h2⟩ := cnt_ok hgl
      exact ⟨v, hgl, rfl, by omega, h2, (put_get h1).2.1⟩
  · rename_i hn
    exact absurd hg (hn _ _)
theorem ext_list (t : ByteArray) (i j : Nat) : (t.extract i j).data.toList = (t.data.toList.take j).drop i := by
  simp [ByteArray.data_extract, List.drop_take]
theorem ba_list {s t : ByteArray} (h : s.data.toList = t.data.toList) : s = t := ByteArray.ext (Array.ext' h)
theorem ext_ext (s : ByteArray) (a v : Nat) : (s.extract a s.size).extract 0 v = s.extract a (a + v) := by
  apply ba_list
  have hl : s.data.toList.length = s.size := by simp
  rw [ext_list, ext_list, ext_list, List.drop_zero, List.take_of_length_le (show s.data.toList.length ≤ s.size by omega), List.drop_take]
  congr 1
  omega
theorem ext_rest (s : ByteArray) (a v : Nat) : (s.extract a s.size).extract v (s.size - a) = s.extract (a + v) s.size := by
  apply ba_list
  have hl : s.data.toList.length = s.size := by simp
  rw [ext_list, ext_list, ext_list, List.take_of_length_le (show s.data.toList.length ≤ s.size by omega), List.take_of_length_le (by simp), List.drop_drop]
end

/-- What GetText answers. -/
def TextOut (s : ByteArray) : Value := match textL s.data.toList with
  | .more => .tuple #[.string { data := #[] }, .string s, .int .i64 20]
  | .bad => .tuple #[.string { data := #[] }, .string s, .int .i64 21]
  | .ok a k => .tuple #[.string (s.extract a k), .string (s.extract k s.size), .int .i64 0]

end Go.Proofs.YthbfibnpfdegaaaDoor
