/- strings.Builder as the program bears it; package field: the bytes of texts and lists (putTexts, PutText, PutList). -/
import Derived.Test.YtbodkmeeceifoaaDoorFPut
import Derived.Lib.Builder
import Derived.Lib.AppendStr
import Derived.Laws.IdiomCopy
namespace Go.Proofs.YtbodkmeeceifoaaDoor
open Go.RowKit

theorem bSize : (Tryd.prog.info? 76).map (·.size) = some 2 := by kernel_rfl
theorem bLies : liesAt Tryd.prog Tryd.prog.depth 76 (2 / Tryd.prog.cellsOf 76) 0 76 1 = true := by kernel_rfl

set_option maxRecDepth 100000 in
theorem check_used (b : Nat) (w : World) (h0 : w.cell? ⟨b, 0, none⟩ = some (.pointer (some ⟨b, 0, none⟩))) :
    Calls Tryd.prog 51 #[.pointer (some ⟨b, 0, none⟩)] w fun e w' => e = .returned (.tuple #[]) ∧ w' = w := by
  obtain ⟨j, hj, _⟩ := Option.map_eq_some_iff.1 bSize
  have hne := fun W => Lib.run_neq_ptr_same (P := Tryd.prog) W ⟨b, 0, none⟩ Tryd.underlying74 hj
  go_enter Tryd.func51, Tryd.ntmps51
  go_wp2
  go_end0
  exact ⟨rfl, rfl⟩
set_option maxRecDepth 100000 in
theorem check_fresh (b : Nat) (w : World) (h0 : w.cell? ⟨b, 0, none⟩ = some (.pointer none)) (hsh : w.shape? b = some (76, 2)) (hfz : w.frozen? ⟨b, 0, none⟩ = false) :
    Calls Tryd.prog 51 #[.pointer (some ⟨b, 0, none⟩)] w fun e w' => e = .returned (.tuple #[]) ∧ w' = w.setCell ⟨b, 0, none⟩ (.pointer (some ⟨b, 0, none⟩)) := by
  obtain ⟨j, hj, hjs⟩ := Option.map_eq_some_iff.1 bSize
  have h1 := Lib.run_to_unsafe (P := Tryd.prog) (src := 74) (dst := 89) w ⟨b, 0, none⟩ Tryd.underlying74 Tryd.underlying89 hj (by rw [hjs]; decide) hsh (Nat.zero_lt_succ 1)
  have h2 := @run_callFunc_extern Tryd.prog 54 _ Extern.AbiNoEscape.same Tryd.func54 (by kernel_rfl) (by kernel_rfl) (by kernel_rfl) (by kernel_rfl)
  have h3 := Lib.run_from_unsafe (P := Tryd.prog) (src := 89) (dst := 74) w ⟨b, 0, none⟩ Tryd.underlying89 Tryd.underlying74 hj hsh bLies
  have h4 := fun W x => Lib.run_noEscape (P := Tryd.prog) W x
  go_enter Tryd.func51, Tryd.ntmps51
  go_wp2
  go_end0
  exact ⟨rfl, rfl⟩
theorem check_any (B b : Nat) (bs : List Value) (w : World) (h : Lib.IsBuilder 76 5 B b bs w) :
    Calls Tryd.prog 51 #[.pointer (some ⟨b, 0, none⟩)] w fun e w' => e = .returned (.tuple #[]) ∧ (Lib.BuilderAt 76 5 B b (.pointer (some ⟨b, 0, none⟩)) bs w' ∧ Below B w w') := by
  rcases h with h | h
  · refine (check_fresh b w h.cell0 h.shape h.frozen0).mono ?_
    rintro e w' ⟨rfl, rfl⟩
    exact ⟨rfl, h.used _, (Below.refl B w).setCell (p := ⟨b, 0, none⟩) h.1 _⟩
  · refine (check_used b w h.cell0).mono ?_
    rintro e w' ⟨rfl, rfl⟩
    exact ⟨rfl, h, Below.refl B _⟩

set_option maxHeartbeats 400000 in
set_option maxRecDepth 100000 in
theorem write_any (B b : Nat) (bs : List Value) (s : ByteArray) (w : World) (h : Lib.IsBuilder 76 5 B b bs w) (hlen : bs.length + s.size ≤ 1000000) (hBw : B ≤ w.heap.size) :
    Calls Tryd.prog 45 #[.pointer (some ⟨b, 0, none⟩), .string s] w fun e w' => e = .returned (.tuple #[.int .i64 s.size, .nilIface]) ∧ (Lib.BuilderAt 76 5 B b (.pointer (some ⟨b, 0, none⟩)) (bs ++ Lib.strCells s) w' ∧ Below B w w') := by
  obtain ⟨i0, hi, hz0, hz1, hz2⟩ := info_parts info5
  have HL := Lib.hid hlen
  clear hlen
  go_enter Tryd.func45, Tryd.ntmps45
  go_wp2_with (go_at_call 51; refine (check_any B b bs _ h).mono ?_)
  rintro e w1 ⟨rfl, h1, hb1⟩
  obtain ⟨hB, v, hbk, hown, hne⟩ := h1
  have c0 : w1.cell? ⟨b, 0, none⟩ = some (.pointer (some ⟨b, 0, none⟩)) := by rw [Lib.cell_of_heap hbk]; rfl
  have c1 : w1.cell? ⟨b, 1, none⟩ = some v := by rw [Lib.cell_of_heap hbk]; rfl
  go_wp2_with (at_builtin; refine Lib.wpList_append_own_string _ rfl _ _ 73 9 rfl B 5 i0 Tryd.underlying73 Tryd.underlying9 hi hz0 hz1 hz2 _ _ _ rfl hown s rfl ?c3 ?c4 ?c5 ?_)
  case c3 => have := HL.out; unfold maxLen; omega
  case c4 => have := HL.out; omega
  case c5 => have := hb1.size; omega
  intro v' w2 hown' hgrow _
  have hlt : b < w1.heap.size := by
    rcases Nat.lt_or_ge b w1.heap.size with h' | h'
    · exact h'
    · simp [Array.getElem?_eq_none h'] at hbk
  have hb2 : w2.heap[b]? = some (.cells #[.pointer (some ⟨b, 0, none⟩), v] 76 (0, 0)) := by
    rw [hgrow.block b hlt (fun e => hne e.symm)]
    exact hbk
  have d0 : w2.cell? ⟨b, 0, none⟩ = some (.pointer (some ⟨b, 0, none⟩)) := by rw [Lib.cell_of_heap hb2]; rfl
  have d1 : w2.cell? ⟨b, 1, none⟩ = some v := by rw [Lib.cell_of_heap hb2]; rfl
  have f1 : w2.frozen? ⟨b, 1, none⟩ = false := Lib.frozen_of_heap hb2 1
  obtain ⟨ao, n', cap, rfl⟩ : ∃ ao n' cap, v' = .slice ao n' cap := by
    rcases hown'.2 with ⟨hv, _⟩ | ⟨g, cap, cur, hv, _⟩
    · exact ⟨_, _, _, hv⟩
    · exact ⟨_, _, _, hv⟩
  go_wp2
  go_ret2
  refine ⟨rfl, ?_, ?_⟩
  · exact Lib.BuilderAt.put (T := 76) (e := 5) hB hb2 (bs' := bs ++ Lib.strCells s) (by simpa [Lib.strCells_length] using hown') (by decide)
  · exact (hb1.grown hgrow (by have := hb1.size; omega) (fun k hk => (hown.lt k hk).1)).setCell (p := ⟨b, 1, none⟩) hB _

theorem builder_below {B b : Nat} {p : Value} {bs : List Value} {w w' : World} (h : Lib.BuilderAt 76 5 B b p bs w) (hb : Below w.heap.size w w') : Lib.BuilderAt 76 5 B b p bs w' := by
  have hlt := h.lt
  obtain ⟨hB, v, hbk, hown, hne⟩ := h
  exact ⟨hB, v, (hb.block b hlt).trans hbk, hown.kept (row := none) ⟨hb.os, hb.tape, hb.output, hb.size, fun i hi _ => hb.block i hi⟩ (Classical.em _), hne⟩
theorem isBuilder_below {B b : Nat} {bs : List Value} {w w' : World} (h : Lib.IsBuilder 76 5 B b bs w) (hb : Below w.heap.size w w') : Lib.IsBuilder 76 5 B b bs w' :=
  h.imp (fun h => builder_below h hb) (fun h => builder_below h hb)

/-- The bytes of texts, one behind another. -/
def textsL : List ByteArray → List UInt8
  | [] => []
  | t :: ts => putL t.size ++ t.data.toList ++ textsL ts
theorem textsL_snoc (ts : List ByteArray) (t : ByteArray) : textsL (ts ++ [t]) = textsL ts ++ (putL t.size ++ t.data.toList) := by
  induction ts with
  | nil => simp [textsL]
  | cons u ts ih => simp [textsL, ih]
def fits (ts : List ByteArray) : Bool := ts.all fun t => decide (t.size ≤ 400)
theorem textsL_len (ts : List ByteArray) (h : ∀ t ∈ ts, t.size ≤ 400) : (textsL ts).length ≤ 409 * ts.length := by
  induction ts with
  | nil => simp [textsL]
  | cons u ts ih =>
    have h1 := ih (fun t ht => h t (List.mem_cons_of_mem _ ht))
    have h2 := h u (List.mem_cons_self ..)
    have h3 := putL_len9 u.size
    simp [textsL]
    omega
/-- What putTexts answers. -/
def putsV (ahead : List UInt8) (ts : List ByteArray) : Value :=
  if fits ts then .tuple #[.string ⟨(ahead ++ textsL ts).toArray⟩, .int .i64 0] else .tuple #[.string { data := #[] }, .int .i64 21]

theorem cells_app (l : List UInt8) (s t : ByteArray) : Lib.byteCells l ++ Lib.strCells s ++ Lib.strCells t = Lib.byteCells (l ++ (s.data.toList ++ t.data.toList)) := by
  simp [Lib.byteCells, Lib.strCells]
theorem cells_str (s : ByteArray) : ([] : List Value) ++ Lib.strCells s = Lib.byteCells s.data.toList := by simp [Lib.byteCells, Lib.strCells]

set_option maxHeartbeats 1000000 in
set_option maxRecDepth 100000 in
theorem puts_some (ahead : ByteArray) (ts : List ByteArray) (g o c : Nat) (w : World) (ha : ahead.size ≤ 100) (hn : ts.length ≤ 200) (hg : g < w.heap.size)
    (hc : ∀ j, j < ts.length → w.cell? ⟨g, o + j, none⟩ = some (.string (ts.getD j { data := #[] }))) :
    Calls Tryd.prog 37 #[.string ahead, .slice (some ⟨g, o, none⟩) ts.length c] w fun e w' => e = .returned (putsV ahead.data.toList ts) ∧ Below w.heap.size w w' := by
  obtain ⟨n, hnn⟩ : ∃ n, n = ts.length := ⟨_, rfl⟩
  have HNN := Lib.hid hnn
  have HC := Lib.hid hc
  rw [← hnn] at hn ⊢
  have HA := Lib.hid ha
  clear hc hnn ha
  go_enter Tryd.func37, Tryd.ntmps37
  go_wp2_with fail
  refine (write_any w.heap.size w.heap.size [] ahead _ (Lib.fresh_isBuilder 76 5 w) (by have := HA.out; simp; omega) (by simp)).mono ?_
  rintro e w1 ⟨rfl, h1, hb1⟩
  rw [cells_str] at h1
  have H1 : Lib.IsBuilder 76 5 w.heap.size w.heap.size (Lib.byteCells ahead.data.toList) w1 := Or.inr h1
  have hB1 : Below w.heap.size w w1 := ((Below.refl _ _).alloc (Nat.le_refl _) _).trans hb1
  clear h1 hb1
  go_wp2_with fail
  go_loopw [13] (fun i wr => ∃ k : Nat, k ≤ n ∧ i = .int .i64 k ∧ (∀ t ∈ ts.take k, t.size ≤ 400) ∧ Lib.IsBuilder 76 5 w.heap.size w.heap.size (Lib.byteCells (ahead.data.toList ++ textsL (ts.take k))) wr ∧ Below w.heap.size w wr)
    (fun i _ => n - (intOf i).toNat)
  case atStart => exact ⟨0, Nat.zero_le _, rfl, by simp, by simpa [textsL] using H1, hB1⟩
  case round =>
    obtain ⟨k, hk, rfl, hall, hbu, hbel⟩ := hrel
    have HB := Lib.hid hbu
    have HALL := Lib.hid hall
    clear hall hbu H1 hB1
    by_cases hlt : k < n
    · obtain ⟨t, ht⟩ : ∃ t, t = ts.getD k { data := #[] } := ⟨_, rfl⟩
      have hck : wr.cell? ⟨g, o + k, none⟩ = some (.string t) := by
        rw [ht]
        exact (hbel.cell (p := ⟨g, o + k, none⟩) hg).trans (HC.out k (by have := HNN.out; omega))
      have htk : ts.take (k + 1) = ts.take k ++ [t] := by
        have hkl : k < ts.length := by have := HNN.out; omega
        rw [List.take_succ_eq_append_getElem hkl, ht, List.getD_eq_getElem?_getD, List.getElem?_eq_getElem hkl]
        rfl
      have HTK := Lib.hid htk
      have HT := Lib.hid ht
      clear htk ht
      by_cases h4 : t.size ≤ 400
      · go_wp2_with fail
        refine (put_int _ t.size rfl (by omega) _).mono ?_
        rintro e w2 ⟨rfl, hb2⟩
        go_wp2_with fail
        have hlen : (Lib.byteCells (ahead.data.toList ++ textsL (ts.take k))).length ≤ 90000 := by
          have h1 := HA.out
          have h2 := textsL_len (ts.take k) HALL.out
          have h3 : (ts.take k).length ≤ 200 := by simp; omega
          have h5 : ahead.data.toList.length = ahead.size := by simp
          simp only [Lib.byteCells, List.length_map, List.length_append]
          omega
        have HLEN := Lib.hid hlen
        clear hlen
        have hp9 := putL_len9 t.size
        rw [← putB_size] at hp9
        refine (write_any w.heap.size w.heap.size _ (putB t.size) _ (isBuilder_below HB.out hb2) (by have := HLEN.out; omega) (by have := hbel.size; have := hb2.size; omega)).mono ?_
        rintro e w3 ⟨rfl, hb3, hbel3⟩
        go_wp2_with fail
        refine (write_any w.heap.size w.heap.size _ t _ (Or.inr hb3) (by have := HLEN.out; rw [List.length_append, Lib.strCells_length]; omega) (by have := hbel.size; have := hb2.size; have := hbel3.size; omega)).mono ?_
        rintro e w4 ⟨rfl, hb4, hbel4⟩
        have hbf : Lib.IsBuilder 76 5 w.heap.size w.heap.size (Lib.byteCells (ahead.data.toList ++ textsL (ts.take (k + 1)))) w4 := by
          rw [HTK.out, textsL_snoc, ← List.append_assoc]
          rw [cells_app] at hb4
          exact Or.inr hb4
        have HBF := Lib.hid hbf
        have hB4 : Below w.heap.size w w4 := ((hbel.trans (hb2.mono hbel.size)).trans hbel3).trans hbel4
        clear hbf hb3 hb4 hp9
        go_wp2_with fail
        go_roundw
        case rel =>
          refine ⟨k + 1, by omega, by go_num, ?_, HBF.out, hB4⟩
          rw [HTK.out]
          intro u hu
          rcases List.mem_append.1 hu with hu | hu
          · exact HALL.out u hu
          · obtain rfl : u = t := by simpa using hu
            exact h4
        case measure => simp [intOf]; omega
      · have hfit : fits ts = false := by
          have hkl : k < ts.length := by have := HNN.out; omega
          have hm : t ∈ ts := by
            rw [HT.out, List.getD_eq_getElem?_getD, List.getElem?_eq_getElem hkl]
            exact List.getElem_mem hkl
          unfold fits
          rw [List.all_eq_false]
          exact ⟨t, hm, by simpa using h4⟩
        have HF := Lib.hid hfit
        clear hfit
        go_wp2_with fail
        go_ret2
        refine ⟨?_, hbel⟩
        unfold putsV
        rw [HF.out]
        rfl
    · have hkl : ts.take k = ts := List.take_of_length_le (by have := HNN.out; omega)
      have hfit : fits ts = true := by
        unfold fits
        rw [List.all_eq_true]
        intro u hu
        have := HALL.out u (by rw [hkl]; exact hu)
        simpa using this
      have HF := Lib.hid hfit
      have hbu := HB.out
      rw [hkl] at hbu
      have HB2 := Lib.hid hbu
      clear hfit hkl hbu
      go_wp2_with fail
      refine (Tryd.Builder_String_any w.heap.size w.heap.size _ _ HB2.out (by have := hbel.size; omega)).mono ?_
      rintro e w5 ⟨rfl, hb5⟩
      go_wp2_with fail
      go_ret2
      refine ⟨?_, hbel.trans hb5⟩
      unfold putsV
      rw [HF.out]
      rfl

theorem puts_none (ahead : ByteArray) (a : Option Addr) (c : Nat) (w : World) (ha : ahead.size ≤ 100) :
    Calls Tryd.prog 37 #[.string ahead, .slice a 0 c] w fun e w' => e = .returned (putsV ahead.data.toList []) ∧ Below w.heap.size w w' := by
  have HA := Lib.hid ha
  clear ha
  go_enter Tryd.func37, Tryd.ntmps37
  go_wp2_with fail
  refine (write_any w.heap.size w.heap.size [] ahead _ (Lib.fresh_isBuilder 76 5 w) (by have := HA.out; simp; omega) (by simp)).mono ?_
  rintro e w1 ⟨rfl, h1, hb1⟩
  rw [cells_str] at h1
  have H1 : Hid (Lib.IsBuilder 76 5 w.heap.size w.heap.size (Lib.byteCells ahead.data.toList) w1) := Or.inr h1
  have hB1 : Below w.heap.size w w1 := ((Below.refl _ _).alloc (Nat.le_refl _) _).trans hb1
  clear h1 hb1
  go_wp2_with fail
  refine wp_loop_rounds 1 ?_
  rw [rounds_succ]
  go_wp2_with fail
  refine (Tryd.Builder_String_any w.heap.size w.heap.size _ _ H1.out (by have := hB1.size; omega)).mono ?_
  rintro e w5 ⟨rfl, hb5⟩
  go_wp2_with fail
  go_ret2
  refine ⟨?_, hB1.trans hb5⟩
  simp [putsV, fits, textsL]

/-- A slice that reads as these texts. -/
def StrSl (w : World) (v : Value) (ts : List ByteArray) : Prop :=
  (∃ a c, v = .slice a 0 c ∧ ts = []) ∨ ∃ g o c, v = .slice (some ⟨g, o, none⟩) ts.length c ∧ g < w.heap.size ∧ ∀ j, j < ts.length → w.cell? ⟨g, o + j, none⟩ = some (.string (ts.getD j { data := #[] }))
theorem StrSl.below {w w' : World} {v : Value} {ts : List ByteArray} (h : StrSl w v ts) (hb : Below w.heap.size w w') : StrSl w' v ts := by
  rcases h with h | ⟨g, o, c, h1, h2, h3⟩
  · exact .inl h
  · exact .inr ⟨g, o, c, h1, Nat.lt_of_lt_of_le h2 hb.size, fun j hj => (hb.cell (p := ⟨g, o + j, none⟩) h2).trans (h3 j hj)⟩
theorem puts_any (ahead : ByteArray) (ts : List ByteArray) (v : Value) (w : World) (ha : ahead.size ≤ 100) (hn : ts.length ≤ 200) (h : StrSl w v ts) :
    Calls Tryd.prog 37 #[.string ahead, v] w fun e w' => e = .returned (putsV ahead.data.toList ts) ∧ Below w.heap.size w w' := by
  rcases h with ⟨a, c, rfl, rfl⟩ | ⟨g, o, c, rfl, h2, h3⟩
  · exact puts_none ahead a c w ha
  · exact puts_some ahead ts g o c w ha hn h2 h3

theorem putsV_tuple (l : List UInt8) (ts : List ByteArray) : ∃ s e, putsV l ts = .tuple #[.string s, .int .i64 e] := by
  unfold putsV
  split
  · exact ⟨_, _, rfl⟩
  · exact ⟨_, _, rfl⟩
theorem putText_any (t : ByteArray) (w : World) :
    Calls Tryd.prog 19 #[.string t] w fun e w' => e = .returned (putsV [] [t]) ∧ Below w.heap.size w w' := by
  obtain ⟨x, ex, hx⟩ := putsV_tuple [] [t]
  have HX := Lib.hid hx
  rw [hx]
  have hp : ∀ W, StrSl W (.slice (some ⟨w.heap.size, 0, none⟩) 1 1) [t] → Calls Tryd.prog 37 #[.string { data := #[] }, .slice (some ⟨w.heap.size, 0, none⟩) 1 1] W fun e w' => e = .returned (.tuple #[.string x, .int .i64 ex]) ∧ Below W.heap.size W w' := fun W hW => by
    rw [← hx]
    exact puts_any { data := #[] } [t] _ W (by decide) (by simp) hW
  have HP := Lib.hid hp
  clear hx hp
  go_enter Tryd.func19, Tryd.ntmps19
  go_wp2_with fail
  refine (HP.out _ (.inr ⟨w.heap.size, 0, 1, rfl, by simp, fun j hj => ?_⟩)).mono ?_
  · obtain rfl : j = 0 := by simpa using hj
    exact World.cell?_alloc_at _ _ _ _ rfl
  rintro e w1 ⟨rfl, hb⟩
  go_wp2_with fail
  go_ret2
  exact ⟨rfl, ((Below.refl _ _).alloc (Nat.le_refl _) _).trans (hb.mono (by simp))⟩

/-- What PutList answers. -/
def listV (ts : List ByteArray) : Value := if 100 < ts.length then .tuple #[.string { data := #[] }, .int .i64 21] else putsV (putL ts.length) ts
theorem putList_any (ts : List ByteArray) (v : Value) (w : World) (hn : ts.length ≤ maxLen) (h : StrSl w v ts) :
    Calls Tryd.prog 21 #[v] w fun e w' => e = .returned (listV ts) ∧ Below w.heap.size w w' := by
  unfold maxLen at hn
  obtain ⟨a, c, hv⟩ : ∃ a c, v = .slice a ts.length c := by
    rcases h with ⟨a, c, rfl, rfl⟩ | ⟨g, o, c, rfl, _⟩
    · exact ⟨a, c, rfl⟩
    · exact ⟨_, c, rfl⟩
  obtain ⟨n, hnn⟩ : ∃ n, n = ts.length := ⟨_, rfl⟩
  by_cases h1 : 100 < ts.length
  · unfold listV
    rw [if_pos h1]
    subst hv
    rw [← hnn] at h1 hn ⊢
    clear h hnn
    go_enter Tryd.func21, Tryd.ntmps21
    go_wp2_with fail
    go_ret2
    exact ⟨rfl, Below.refl _ _⟩
  · obtain ⟨x, ex, hx⟩ := putsV_tuple (putL ts.length) ts
    unfold listV
    rw [if_neg h1, hx]
    have hp : ∀ W, StrSl W v ts → Calls Tryd.prog 37 #[.string (putB ts.length), v] W fun e w' => e = .returned (.tuple #[.string x, .int .i64 ex]) ∧ Below W.heap.size W w' := fun W hW => by
      rw [← hx]
      exact puts_any (putB ts.length) ts _ W (by have := putL_len9 ts.length; rw [putB_size]; omega) (by omega) hW
    have HP := Lib.hid hp
    have HH := Lib.hid h
    subst hv
    rw [← hnn] at h1 HP HH ⊢
    clear hx hp h hnn hn
    go_enter Tryd.func21, Tryd.ntmps21
    go_wp2_with fail
    refine (put_int _ n rfl (by omega) _).mono ?_
    rintro e w1 ⟨rfl, hb1⟩
    go_wp2_with fail
    refine (HP.out _ (HH.out.below hb1)).mono ?_
    rintro e w2 ⟨rfl, hb2⟩
    go_wp2_with fail
    go_ret2
    exact ⟨rfl, hb1.trans (hb2.mono hb1.size)⟩
end Go.Proofs.YtbodkmeeceifoaaDoor
