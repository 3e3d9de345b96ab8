/- Package field's reader: how many, a text, the end; Get and GetText. -/
import Derived.Test.YtbodkmeeceifoaaDoorFNum
namespace Go.Proofs.YtbodkmeeceifoaaDoor
open Go.RowKit

theorem Sent.grown {am af : Addr} {N b : Nat} {w w' : World} (h : Sent am af N w) (hg : w.grownBy w' (some b)) (hNb : N ≤ b) : Sent am af N w' :=
  h.below (grb_down hg h.all hNb (Below.refl N w)) (Nat.le_refl _)

section
variable {am af : Addr} {N b : Nat} {s whole : ByteArray} {w : World}
theorem number_any (hs : s.size ≤ maxLen) (h : HasC w b 48 #[.string s, .string whole]) (hS : Sent am af N w) (hNb : N ≤ b) :
    Calls Tryd.prog 29 #[.pointer (some ⟨b, 0, none⟩)] w (NumPost am af s whole b w) := callsIn_wide.1 (number_in 3 (by decide) b s whole hs w h hS hNb)
theorem number_more (hs : s.size ≤ maxLen) (h : HasC w b 48 #[.string s, .string whole]) (hS : Sent am af N w) (hNb : N ≤ b) (hg : getL s.data.toList = .more) :
    Calls Tryd.prog 29 #[.pointer (some ⟨b, 0, none⟩)] w fun e w' => e = .returned (.tuple #[.int .u64 0, .iface 102 (.pointer (some am))]) ∧ w.grownBy w' (some b) ∧ HasC w' b 48 #[.string s, .string whole] := by
  refine (number_any hs h hS hNb).mono ?_
  rintro e w' ⟨h1, ⟨h2, h3, h4⟩ | ⟨h2, _⟩ | ⟨v, k, h2, _⟩⟩
  · exact ⟨h3, h1, h4⟩
  · rw [hg] at h2; cases h2
  · rw [hg] at h2; cases h2
theorem number_bad (hs : s.size ≤ maxLen) (h : HasC w b 48 #[.string s, .string whole]) (hS : Sent am af N w) (hNb : N ≤ b) (hg : getL s.data.toList = .bad) :
    Calls Tryd.prog 29 #[.pointer (some ⟨b, 0, none⟩)] w fun e w' => e = .returned (.tuple #[.int .u64 0, .iface 102 (.pointer (some af))]) ∧ w.grownBy w' (some b) ∧ ∃ r, HasC w' b 48 #[.string r, .string whole] := by
  refine (number_any hs h hS hNb).mono ?_
  rintro e w' ⟨h1, ⟨h2, _⟩ | ⟨h2, h3, h4⟩ | ⟨v, k, h2, _⟩⟩
  · rw [hg] at h2; cases h2
  · exact ⟨h3, h1, h4⟩
  · rw [hg] at h2; cases h2
theorem number_ok {v k : Nat} (hs : s.size ≤ maxLen) (h : HasC w b 48 #[.string s, .string whole]) (hS : Sent am af N w) (hNb : N ≤ b) (hg : getL s.data.toList = .ok v k) :
    Calls Tryd.prog 29 #[.pointer (some ⟨b, 0, none⟩)] w fun e w' => e = .returned (.tuple #[.int .u64 (v : Int), .nilIface]) ∧ w.grownBy w' (some b) ∧ HasC w' b 48 #[.string (s.extract k s.size), .string whole] := by
  refine (number_any hs h hS hNb).mono ?_
  rintro e w' ⟨h1, ⟨h2, _⟩ | ⟨h2, _⟩ | ⟨v', k', h2, h3, h4⟩⟩
  · rw [hg] at h2; cases h2
  · rw [hg] at h2; cases h2
  · rw [hg] at h2
    obtain ⟨rfl, rfl⟩ : v = v' ∧ k = k' := by simpa using h2
    exact ⟨h3, h1, h4⟩

theorem end_nil (h : HasC w b 48 #[.string s, .string whole]) :
    Calls Tryd.prog 30 #[.pointer (some ⟨b, 0, none⟩), .nilIface] w fun e w' => e = .returned (.tuple #[.string s, .int .i64 0]) ∧ w = w' := by
  have c0 : w.cell? ⟨b, 0, none⟩ = some (.string s) := h.cell 0
  have c1 : w.cell? ⟨b, 1, none⟩ = some (.string whole) := h.cell 1
  clear h
  go_enter Tryd.func30, Tryd.ntmps30
  go_wp2_with (go_at_call 43; refine (errno_nil _).mono ?_; rintro e w' ⟨rfl, rfl⟩)
  go_ret2
  exact ⟨rfl, rfl⟩
theorem end_more (h : HasC w b 48 #[.string s, .string whole]) (hS : Sent am af N w) :
    Calls Tryd.prog 30 #[.pointer (some ⟨b, 0, none⟩), .iface 102 (.pointer (some am))] w fun e w' => e = .returned (.tuple #[.string whole, .int .i64 20]) ∧ w = w' := by
  have c0 : w.cell? ⟨b, 0, none⟩ = some (.string s) := h.cell 0
  have c1 : w.cell? ⟨b, 1, none⟩ = some (.string whole) := h.cell 1
  clear h
  go_enter Tryd.func30, Tryd.ntmps30
  go_wp2_with (go_at_call 43; refine (errno_more hS).mono ?_; rintro e w' ⟨rfl, rfl⟩)
  go_ret2
  exact ⟨rfl, rfl⟩
theorem end_field (h : HasC w b 48 #[.string s, .string whole]) (hS : Sent am af N w) :
    Calls Tryd.prog 30 #[.pointer (some ⟨b, 0, none⟩), .iface 102 (.pointer (some af))] w fun e w' => e = .returned (.tuple #[.string whole, .int .i64 21]) ∧ w = w' := by
  have c0 : w.cell? ⟨b, 0, none⟩ = some (.string s) := h.cell 0
  have c1 : w.cell? ⟨b, 1, none⟩ = some (.string whole) := h.cell 1
  clear h
  go_enter Tryd.func30, Tryd.ntmps30
  go_wp2_with (go_at_call 43; refine (errno_field hS).mono ?_; rintro e w' ⟨rfl, rfl⟩)
  go_ret2
  exact ⟨rfl, rfl⟩
end

theorem readerOf_any (s : ByteArray) (w : World) : Calls Tryd.prog 28 #[.string s] w fun e w' => e = .returned (.agg #[.string s, .string s]) ∧ Below w.heap.size w w' := by
  go_enter Tryd.func28, Tryd.ntmps28
  go_wp2
  exact bodyPost_ret (v := .agg #[.string s, .string s]) (by simp [results, Tryd.results28, go_sem]) rfl ⟨rfl, ((Below.refl _ _).alloc (Nat.le_refl _) _)⟩

/-- What Get answers. -/
def GetOut (s : ByteArray) : Value := match getL s.data.toList with
  | .more => .tuple #[.int .u64 0, .string s, .int .i64 20]
  | .bad => .tuple #[.int .u64 0, .string s, .int .i64 21]
  | .ok v k => .tuple #[.int .u64 (v : Int), .string (s.extract k s.size), .int .i64 0]

theorem get_any {am af : Addr} {N : Nat} (s : ByteArray) (hs : s.size ≤ maxLen) (w : World) (hS : Sent am af N w) :
    Calls Tryd.prog 11 #[.string s] w fun e w' => e = .returned (GetOut s) ∧ Below w.heap.size w w' := by
  have HS := Lib.hid hs
  clear hs
  have hN := hS.all
  cases hg : getL s.data.toList
  · have ho : GetOut s = .tuple #[.int .u64 0, .string s, .int .i64 20] := by unfold GetOut; rw [hg]
    rw [ho]
    have HG := Lib.hid hg
    clear hg ho
    go_enter Tryd.func11, Tryd.ntmps11
    go_wp2_with fail
    refine (readerOf_any _ _).mono ?_
    rintro e w1 ⟨rfl, hb1⟩
    go_wp2_with fail
    have hz1 := hb1.size
    have hS1 : Sent am af N (w1.alloc (.cells #[.string s, .string s] 48)) := hS.below (hb1.alloc hz1 _) hN
    refine (number_more HS.out (HasC.new _ _ _) hS1 (by omega) HG.out).mono ?_
    rintro e w2 ⟨rfl, hg2, hc2⟩
    go_wp2_with fail
    refine (end_more hc2 (hS1.grown hg2 (by omega))).mono ?_
    rintro e w3 ⟨rfl, rfl⟩
    go_wp2_with fail
    go_ret3
    exact ⟨rfl, grb_down hg2 (by simp; omega) hz1 (hb1.alloc hz1 _)⟩
  · have ho : GetOut s = .tuple #[.int .u64 0, .string s, .int .i64 21] := by unfold GetOut; rw [hg]
    rw [ho]
    have HG := Lib.hid hg
    clear hg ho
    go_enter Tryd.func11, Tryd.ntmps11
    go_wp2_with fail
    refine (readerOf_any _ _).mono ?_
    rintro e w1 ⟨rfl, hb1⟩
    go_wp2_with fail
    have hz1 := hb1.size
    have hS1 : Sent am af N (w1.alloc (.cells #[.string s, .string s] 48)) := hS.below (hb1.alloc hz1 _) hN
    refine (number_bad HS.out (HasC.new _ _ _) hS1 (by omega) HG.out).mono ?_
    rintro e w2 ⟨rfl, hg2, hc2⟩
    obtain ⟨r, hc2⟩ := hc2
    go_wp2_with fail
    refine (end_field hc2 (hS1.grown hg2 (by omega))).mono ?_
    rintro e w3 ⟨rfl, rfl⟩
    go_wp2_with fail
    go_ret3
    exact ⟨rfl, grb_down hg2 (by simp; omega) hz1 (hb1.alloc hz1 _)⟩
  · rename_i v k
    have ho : GetOut s = .tuple #[.int .u64 (v : Int), .string (s.extract k s.size), .int .i64 0] := by unfold GetOut; rw [hg]
    rw [ho]
    have HG := Lib.hid hg
    clear hg ho
    go_enter Tryd.func11, Tryd.ntmps11
    go_wp2_with fail
    refine (readerOf_any _ _).mono ?_
    rintro e w1 ⟨rfl, hb1⟩
    go_wp2_with fail
    have hz1 := hb1.size
    have hS1 : Sent am af N (w1.alloc (.cells #[.string s, .string s] 48)) := hS.below (hb1.alloc hz1 _) hN
    refine (number_ok HS.out (HasC.new _ _ _) hS1 (by omega) HG.out).mono ?_
    rintro e w2 ⟨rfl, hg2, hc2⟩
    go_wp2_with fail
    refine (end_nil hc2).mono ?_
    rintro e w3 ⟨rfl, rfl⟩
    go_wp2_with fail
    go_ret3
    exact ⟨rfl, grb_down hg2 (by simp; omega) hz1 (hb1.alloc hz1 _)⟩

/-- How many there are, at most as many. -/
def cntL (most : Nat) (l : List UInt8) : GR := match getL l with
  | .ok v k => if most < v then .bad else .ok v k
  | e => e
/-- A text that bytes begin with: where it begins, and where what is behind it does. -/
def textL (l : List UInt8) : GR := match cntL 400 l with
  | .ok v k => if l.length < k + v then .more else .ok k (k + v)
  | e => e

section
variable {am af : Addr} {N b : Nat} {s whole : ByteArray} {w : World}
theorem count_more {most : Nat} (hs : s.size ≤ maxLen) (h : HasC w b 48 #[.string s, .string whole]) (hS : Sent am af N w) (hNb : N ≤ b) (hg : cntL most s.data.toList = .more) :
    Calls Tryd.prog 47 #[.pointer (some ⟨b, 0, none⟩), .int .u64 (most : Int)] w fun e w' => e = .returned (.tuple #[.int .i64 0, .iface 102 (.pointer (some am))]) ∧ w.grownBy w' (some b) ∧ HasC w' b 48 #[.string s, .string whole] := by
  have hgl : getL s.data.toList = .more := by
    unfold cntL at hg
    split at hg
    · split at hg <;> cases hg
    · exact hg
  have HG := Lib.hid hgl
  have HS := Lib.hid hs
  clear hg hgl hs
  go_enter Tryd.func47, Tryd.ntmps47
  go_wp2_with fail
  refine (number_more HS.out h hS hNb HG.out).mono ?_
  rintro e w2 ⟨rfl, hg2, hc2⟩
  go_wp2_with fail
  go_ret2
  exact ⟨rfl, hg2, hc2⟩
theorem count_bad {most : Nat} (hs : s.size ≤ maxLen) (h : HasC w b 48 #[.string s, .string whole]) (hS : Sent am af N w) (hNb : N ≤ b) (hg : cntL most s.data.toList = .bad) :
    Calls Tryd.prog 47 #[.pointer (some ⟨b, 0, none⟩), .int .u64 (most : Int)] w fun e w' => e = .returned (.tuple #[.int .i64 0, .iface 102 (.pointer (some af))]) ∧ w.grownBy w' (some b) ∧ ∃ r, HasC w' b 48 #[.string r, .string whole] := by
  have HS := Lib.hid hs
  unfold cntL at hg
  split at hg
  · rename_i v k hgl
    split at hg
    · rename_i hlt
      have HG := Lib.hid hgl
      clear hg hgl hs
      go_enter Tryd.func47, Tryd.ntmps47
      go_wp2_with fail
      refine (number_ok HS.out h hS hNb HG.out).mono ?_
      rintro e w2 ⟨rfl, hg2, hc2⟩
      have hf := (hS.grown hg2 hNb).field
      go_wp2_with fail
      go_quiet (fail)
      go_wp2_with fail
      go_ret2
      exact ⟨rfl, grb_drewN hg2 _, _, hc2⟩
    · cases hg
  · have HG := Lib.hid hg
    clear hg hs
    go_enter Tryd.func47, Tryd.ntmps47
    go_wp2_with fail
    refine (number_bad HS.out h hS hNb HG.out).mono ?_
    rintro e w2 ⟨rfl, hg2, hc2⟩
    have HC := Lib.hid hc2
    clear hc2
    go_wp2_with fail
    go_ret2
    exact ⟨rfl, hg2, HC.out⟩
theorem cnt_ok {most v k : Nat} {l : List UInt8} (hg : cntL most l = .ok v k) : getL l = .ok v k ∧ v ≤ most := by
  unfold cntL at hg
  split at hg
  · rename_i v' k' hgl
    split at hg
    · cases hg
    · rename_i hlt
      obtain ⟨rfl, rfl⟩ : v' = v ∧ k' = k := by simpa using hg
      exact ⟨hgl, by omega⟩
  · rename_i hn
    exact absurd hg (hn _ _)
theorem count_ok {most v k : Nat} (hm : most ≤ 400) (hs : s.size ≤ maxLen) (h : HasC w b 48 #[.string s, .string whole]) (hS : Sent am af N w) (hNb : N ≤ b) (hg : cntL most s.data.toList = .ok v k) :
    Calls Tryd.prog 47 #[.pointer (some ⟨b, 0, none⟩), .int .u64 (most : Int)] w fun e w' => e = .returned (.tuple #[.int .i64 (v : Int), .nilIface]) ∧ w.grownBy w' (some b) ∧ HasC w' b 48 #[.string (s.extract k s.size), .string whole] := by
  obtain ⟨hgl, hle⟩ := cnt_ok hg
  have HG := Lib.hid hgl
  have HS := Lib.hid hs
  clear hg hgl hs
  go_enter Tryd.func47, Tryd.ntmps47
  go_wp2_with fail
  refine (number_ok HS.out h hS hNb HG.out).mono ?_
  rintro e w2 ⟨rfl, hg2, hc2⟩
  go_wp2_with fail
  go_ret2
  exact ⟨rfl, hg2, hc2⟩

theorem text_more (hs : s.size ≤ maxLen) (h : HasC w b 48 #[.string s, .string whole]) (hS : Sent am af N w) (hNb : N ≤ b) (hg : textL s.data.toList = .more) :
    Calls Tryd.prog 38 #[.pointer (some ⟨b, 0, none⟩)] w fun e w' => e = .returned (.tuple #[.string { data := #[] }, .iface 102 (.pointer (some am))]) ∧ w.grownBy w' (some b) ∧ ∃ r, HasC w' b 48 #[.string r, .string whole] := by
  have HS := Lib.hid hs
  unfold textL at hg
  split at hg
  · rename_i v k hgl
    split at hg
    · rename_i hlt
      have HG := Lib.hid hgl
      have hkl := (put_get (cnt_ok hgl).1).2.2.1
      have hlt' : (s.extract k s.size).size < v := by simp at hlt hkl ⊢; omega
      have HL := Lib.hid hlt'
      clear hg hgl hs hlt hlt'
      go_enter Tryd.func38, Tryd.ntmps38
      go_wp2_with fail
      refine (count_ok (by decide) HS.out h hS hNb HG.out).mono ?_
      rintro e w2 ⟨rfl, hg2, hc2⟩
      go_wp2_with fail
      refine (take_no b v _ whole HL.out _ hc2 (hS.grown hg2 hNb)).mono ?_
      rintro e w3 ⟨rfl, m, rfl⟩
      go_wp2_with fail
      go_ret2
      exact ⟨rfl, grb_drewN hg2 _, _, hc2.drewN m⟩
    · cases hg
  · have HG := Lib.hid hg
    clear hg hs
    go_enter Tryd.func38, Tryd.ntmps38
    go_wp2_with fail
    refine (count_more HS.out h hS hNb HG.out).mono ?_
    rintro e w2 ⟨rfl, hg2, hc2⟩
    go_wp2_with fail
    go_ret2
    exact ⟨rfl, hg2, _, hc2⟩
theorem text_bad (hs : s.size ≤ maxLen) (h : HasC w b 48 #[.string s, .string whole]) (hS : Sent am af N w) (hNb : N ≤ b) (hg : textL s.data.toList = .bad) :
    Calls Tryd.prog 38 #[.pointer (some ⟨b, 0, none⟩)] w fun e w' => e = .returned (.tuple #[.string { data := #[] }, .iface 102 (.pointer (some af))]) ∧ w.grownBy w' (some b) ∧ ∃ r, HasC w' b 48 #[.string r, .string whole] := by
  have HS := Lib.hid hs
  unfold textL at hg
  split at hg
  · split at hg <;> cases hg
  · have HG := Lib.hid hg
    clear hg hs
    go_enter Tryd.func38, Tryd.ntmps38
    go_wp2_with fail
    refine (count_bad HS.out h hS hNb HG.out).mono ?_
    rintro e w2 ⟨rfl, hg2, hc2⟩
    have HC := Lib.hid hc2
    clear hc2
    go_wp2_with fail
    go_ret2
    exact ⟨rfl, hg2, HC.out⟩
theorem text_cases {l : List UInt8} {a k : Nat} (hg : textL l = .ok a k) : ∃ v, cntL 400 l = .ok v a ∧ k = a + v ∧ k ≤ l.length ∧ v ≤ 400 ∧ 1 ≤ a := by
  unfold textL at hg
  split at hg
  · rename_i v k' hgl
    split at hg
    · cases hg
    · rename_i hlt
      obtain ⟨rfl, rfl⟩ : k' = a ∧ k' + v = k := by simpa using hg
      obtain ⟨h1, h2⟩ := cnt_ok hgl
      exact ⟨v, hgl, rfl, by omega, h2, (put_get h1).2.1⟩
  · rename_i hn
    exact absurd hg (hn _ _)
theorem ext_list (t : ByteArray) (i j : Nat) : (t.extract i j).data.toList = (t.data.toList.take j).drop i := by
  simp [ByteArray.data_extract, List.drop_take]
theorem ba_list {s t : ByteArray} (h : s.data.toList = t.data.toList) : s = t := ByteArray.ext (Array.ext' h)
theorem ext_ext (s : ByteArray) (a v : Nat) : (s.extract a s.size).extract 0 v = s.extract a (a + v) := by
  apply ba_list
  have hl : s.data.toList.length = s.size := by simp
  rw [ext_list, ext_list, ext_list, List.drop_zero, List.take_of_length_le (show s.data.toList.length ≤ s.size by omega), List.drop_take]
  congr 1
  omega
theorem ext_rest (s : ByteArray) (a v : Nat) : (s.extract a s.size).extract v (s.size - a) = s.extract (a + v) s.size := by
  apply ba_list
  have hl : s.data.toList.length = s.size := by simp
  rw [ext_list, ext_list, ext_list, List.take_of_length_le (show s.data.toList.length ≤ s.size by omega), List.take_of_length_le (by simp), List.drop_drop]
theorem text_ok {a k : Nat} (hs : s.size ≤ maxLen) (h : HasC w b 48 #[.string s, .string whole]) (hS : Sent am af N w) (hNb : N ≤ b) (hg : textL s.data.toList = .ok a k) :
    Calls Tryd.prog 38 #[.pointer (some ⟨b, 0, none⟩)] w fun e w' => e = .returned (.tuple #[.string (s.extract a k), .nilIface]) ∧ w.grownBy w' (some b) ∧ HasC w' b 48 #[.string (s.extract k s.size), .string whole] := by
  have HS := Lib.hid hs
  obtain ⟨v, hc, rfl, hle, hv, _⟩ := text_cases hg
  have hle' : a + v ≤ s.size := by simpa using hle
  have HG := Lib.hid hc
  have hlt' : v ≤ (s.extract a s.size).size := by simp; omega
  have HL := Lib.hid hlt'
  have e1 := ext_ext s a v
  have e2 := ext_rest s a v
  have E1 := Lib.hid e1
  have E2 := Lib.hid e2
  clear hg hs hc hle hle' hlt' e1 e2
  go_enter Tryd.func38, Tryd.ntmps38
  go_wp2_with fail
  refine (count_ok (by decide) HS.out h hS hNb HG.out).mono ?_
  rintro e w2 ⟨rfl, hg2, hc2⟩
  go_wp2_with fail
  refine (take_ok b v _ whole HL.out _ hc2).mono ?_
  rintro e w3 ⟨rfl, rfl⟩
  go_wp2_with fail
  go_ret2
  refine ⟨?_, grb_set hg2 _ (.inl rfl) _, HasC.eq (hc2.set 0 _) ?_⟩
  · rw [← E1.out]
    rfl
  · rw [← E2.out]
    rfl
end

/-- What GetText answers. -/
def TextOut (s : ByteArray) : Value := match textL s.data.toList with
  | .more => .tuple #[.string { data := #[] }, .string s, .int .i64 20]
  | .bad => .tuple #[.string { data := #[] }, .string s, .int .i64 21]
  | .ok a k => .tuple #[.string (s.extract a k), .string (s.extract k s.size), .int .i64 0]

theorem getText_any {am af : Addr} {N : Nat} (s : ByteArray) (hs : s.size ≤ maxLen) (w : World) (hS : Sent am af N w) :
    Calls Tryd.prog 23 #[.string s] w fun e w' => e = .returned (TextOut s) ∧ Below w.heap.size w w' := by
  have HS := Lib.hid hs
  clear hs
  have hN := hS.all
  cases hg : textL s.data.toList
  · have ho : TextOut s = .tuple #[.string { data := #[] }, .string s, .int .i64 20] := by unfold TextOut; rw [hg]
    rw [ho]
    have HG := Lib.hid hg
    clear hg ho
    go_enter Tryd.func23, Tryd.ntmps23
    go_wp2_with fail
    refine (readerOf_any _ _).mono ?_
    rintro e w1 ⟨rfl, hb1⟩
    go_wp2_with fail
    have hz1 := hb1.size
    have hS1 : Sent am af N (w1.alloc (.cells #[.string s, .string s] 48)) := hS.below (hb1.alloc hz1 _) hN
    refine (text_more HS.out (HasC.new _ _ _) hS1 (by omega) HG.out).mono ?_
    rintro e w2 ⟨rfl, hg2, hc2⟩
    obtain ⟨r, hc2⟩ := hc2
    go_wp2_with fail
    refine (end_more hc2 (hS1.grown hg2 (by omega))).mono ?_
    rintro e w3 ⟨rfl, rfl⟩
    go_wp2_with fail
    go_ret3
    exact ⟨rfl, grb_down hg2 (by simp; omega) hz1 (hb1.alloc hz1 _)⟩
  · have ho : TextOut s = .tuple #[.string { data := #[] }, .string s, .int .i64 21] := by unfold TextOut; rw [hg]
    rw [ho]
    have HG := Lib.hid hg
    clear hg ho
    go_enter Tryd.func23, Tryd.ntmps23
    go_wp2_with fail
    refine (readerOf_any _ _).mono ?_
    rintro e w1 ⟨rfl, hb1⟩
    go_wp2_with fail
    have hz1 := hb1.size
    have hS1 : Sent am af N (w1.alloc (.cells #[.string s, .string s] 48)) := hS.below (hb1.alloc hz1 _) hN
    refine (text_bad HS.out (HasC.new _ _ _) hS1 (by omega) HG.out).mono ?_
    rintro e w2 ⟨rfl, hg2, hc2⟩
    obtain ⟨r, hc2⟩ := hc2
    go_wp2_with fail
    refine (end_field hc2 (hS1.grown hg2 (by omega))).mono ?_
    rintro e w3 ⟨rfl, rfl⟩
    go_wp2_with fail
    go_ret3
    exact ⟨rfl, grb_down hg2 (by simp; omega) hz1 (hb1.alloc hz1 _)⟩
  · rename_i a k
    have ho : TextOut s = .tuple #[.string (s.extract a k), .string (s.extract k s.size), .int .i64 0] := by unfold TextOut; rw [hg]
    rw [ho]
    have HG := Lib.hid hg
    clear hg ho
    go_enter Tryd.func23, Tryd.ntmps23
    go_wp2_with fail
    refine (readerOf_any _ _).mono ?_
    rintro e w1 ⟨rfl, hb1⟩
    go_wp2_with fail
    have hz1 := hb1.size
    have hS1 : Sent am af N (w1.alloc (.cells #[.string s, .string s] 48)) := hS.below (hb1.alloc hz1 _) hN
    refine (text_ok HS.out (HasC.new _ _ _) hS1 (by omega) HG.out).mono ?_
    rintro e w2 ⟨rfl, hg2, hc2⟩
    go_wp2_with fail
    refine (end_nil hc2).mono ?_
    rintro e w3 ⟨rfl, rfl⟩
    go_wp2_with fail
    go_ret3
    exact ⟨rfl, grb_down hg2 (by simp; omega) hz1 (hb1.alloc hz1 _)⟩
end Go.Proofs.YtbodkmeeceifoaaDoor
