/- The frames that bytes begin with; the page's own All. -/
import Derived.Test.YthbfibnpfdegaaaDoorRRead
import Derived.Test.YthbfibnpfdegaaaDoorFList
namespace Go.Proofs.YthbfibnpfdegaaaDoor
open Go.RowKit

/-- The frames' bytes, what is left, the error of that. -/
inductive AllR : ByteArray → List ByteArray → ByteArray → Int → Prop
  | more {s : ByteArray} (h : readL s.data.toList = .more) : AllR s [] s 20
  | frame {s : ByteArray} (h : readL s.data.toList = .frame) : AllR s [] s 30
  | check {s : ByteArray} (h : readL s.data.toList = .check) : AllR s [] s 31
  | step {s r : ByteArray} {a k : Nat} {ts : List ByteArray} {e : Int} (h : readL s.data.toList = .ok a k) (h2 : AllR (s.extract (k + 4) s.size) ts r e) : AllR s (s.extract a k :: ts) r e
theorem read_less {s : ByteArray} {a k : Nat} (h : readL s.data.toList = .ok a k) : (s.extract (k + 4) s.size).size + 6 ≤ s.size := by
  have := read_ok h
  simp at this ⊢
  omega
theorem all_total : ∀ (n : Nat) (s : ByteArray), s.size ≤ n → ∃ ts r e, AllR s ts r e := by
  intro n
  induction n with
  | zero =>
    intro s hs
    have hl : s.data.toList = [] := List.length_eq_zero_iff.1 (by simpa using (by omega : s.size = 0))
    exact ⟨[], s, 20, .more (by rw [hl]; rfl)⟩
  | succ n ih =>
    intro s hs
    cases h : readL s.data.toList with
    | more => exact ⟨_, _, _, .more h⟩
    | frame => exact ⟨_, _, _, .frame h⟩
    | check => exact ⟨_, _, _, .check h⟩
    | ok a k =>
      obtain ⟨ts, r, e, h2⟩ := ih (s.extract (k + 4) s.size) (by have := read_less h; omega)
      exact ⟨_, _, _, .step h h2⟩
theorem all_len {s r : ByteArray} {ts : List ByteArray} {e : Int} (h : AllR s ts r e) : ts.length ≤ s.size ∧ r.size ≤ s.size := by
  induction h with
  | more => simp
  | frame => simp
  | check => simp
  | step h _ ih =>
    have := read_less h
    simp only [List.length_cons]
    omega
theorem all_len6 {s r : ByteArray} {ts : List ByteArray} {e : Int} (h : AllR s ts r e) : 6 * ts.length ≤ s.size := by
  induction h with
  | more => simp
  | frame => simp
  | check => simp
  | step h _ ih =>
    have := read_less h
    simp only [List.length_cons]
    omega
theorem all_one {s r : ByteArray} {ts : List ByteArray} {e : Int} (h : AllR s ts r e) :
    (ts = [] ∧ r = s ∧ (e = 20 ∨ e = 30 ∨ e = 31) ∧ ReadOut s = .tuple #[.string { data := #[] }, .string s, .int .i64 e]) ∨
    ∃ x rest ts', ReadOut s = .tuple #[.string x, .string rest, .int .i64 0] ∧ AllR rest ts' r e ∧ ts = x :: ts' ∧ rest.size < s.size := by
  cases h with
  | more h => exact .inl ⟨rfl, rfl, .inl rfl, by unfold ReadOut; rw [h]⟩
  | frame h => exact .inl ⟨rfl, rfl, .inr (.inl rfl), by unfold ReadOut; rw [h]⟩
  | check h => exact .inl ⟨rfl, rfl, .inr (.inr rfl), by unfold ReadOut; rw [h]⟩
  | step h h2 => exact .inr ⟨_, _, _, by unfold ReadOut; rw [h], h2, rfl, by have := read_less h; omega⟩

def sizeV : Value → Nat
  | .string x => x.size
  | _ => 0
theorem rr_val (s : ByteArray) (v : Value) (hv : ReadOut s = v) (hs : s.size ≤ maxLen) (W : World) :
    Calls Tryd.prog 15 #[.string s] W fun e w' => e = .returned v ∧ Below W.heap.size W w' := by
  rw [← hv]
  exact refRead_any s hs W
set_option maxHeartbeats 1000000 in
set_option maxRecDepth 100000 in
theorem refAll_any {s r : ByteArray} {ts : List ByteArray} {E : Int} (hs : s.size ≤ 1000000) (h : AllR s ts r E) (w : World) :
    Calls Tryd.prog 19 #[.string s] w fun e w' => (∃ v, e = .returned (.tuple #[v, .string r, .int .i64 E]) ∧ StrSl w' v ts) ∧ Below w.heap.size w w' := by
  obtain ⟨i0, hi, hz0, hz1, hz2⟩ := info_parts info9
  have htl := (all_len h).1
  have HA := Lib.hid h
  clear h
  go_enter Tryd.func19, Tryd.ntmps19
  go_wp2_with fail
  go_loopw [0, 5] (fun cur v wr => ∃ (pre rest : List ByteArray) (ri : ByteArray), cur = .string ri ∧ Hid (AllR ri rest r E) ∧ Hid (pre ++ rest = ts) ∧ ri.size ≤ 1000000 ∧ wr.ownsRow w.heap.size 9 1 v pre.length (pre.map .string) ∧ Below w.heap.size w wr)
    (fun cur _ _ => sizeV cur)
  case atStart => exact ⟨[], ts, s, rfl, HA.out, rfl, hs, World.ownsRow_nil _ _ _ _, Below.refl _ _⟩
  case round =>
    obtain ⟨pre, rest, ri, rfl, HR, HP, hri, hown, hbel⟩ := hrel
    rcases all_one HR.out with ⟨rfl, hrr, hE, ho⟩ | ⟨x, rn, ts', ho, hall, hts', hless⟩
    · have HO := Lib.hid (fun W => rr_val ri _ ho (by unfold maxLen; omega) W)
      have HRR := Lib.hid hrr
      have hpre : pre = ts := by have := HP.out; simpa using this
      rw [hpre] at hown
      have HSL := Lib.hid (strSl_of_owns hown)
      clear ho hrr hown hpre
      rcases hE with rfl | rfl | rfl
      all_goals
        go_wp2_with fail
        with_reducible refine (HO.out _).mono ?_
        rintro e w2 ⟨rfl, hb2⟩
        have HS2 := Lib.hid (HSL.out.below hb2)
        have hb3 := hbel.trans (hb2.mono hbel.size)
        clear hb2
        go_wp2_with fail
        go_ret3
        exact ⟨⟨_, by rw [HRR.out]; rfl, HS2.out⟩, hb3⟩
    · have HO := Lib.hid (fun W => rr_val ri _ ho (by unfold maxLen; omega) W)
      have hpl : pre.length + 1 ≤ ts.length := by
        have := congrArg List.length HP.out
        rw [hts'] at this
        simp at this
        omega
      have HN : Hid (pre ++ [x] ++ ts' = ts) := by
        have := HP.out
        rw [hts'] at this
        show pre ++ [x] ++ ts' = ts
        simpa using this
      have HALL := Lib.hid hall
      clear ho hall hts'
      go_wp2_with fail
      with_reducible refine (HO.out _).mono ?_
      rintro e w2 ⟨rfl, hb2⟩
      have hg2 : wr.grownBy w2 none := ⟨hb2.os, hb2.tape, hb2.output, hb2.size, fun i hi _ => hb2.block i hi⟩
      have hown2 := hown.kept hg2 (Classical.em _)
      have hb3 := hbel.trans (hb2.mono hbel.size)
      clear hown hg2 hb2 hbel
      go_wp2_with (at_builtin; refine wpList_append_own _ rfl _ _ 32 rfl w.heap.size 9 i0 (.string { data := #[] }) 1 16 Tryd.underlying32 hi hz0 hz1 hz2 rfl (by decide) _ _ _ rfl (hown2.alloc _) ⟨w2.heap.size, 0, none⟩ 1 1 [.string x] rfl rfl ?c1 ?c2 ?c3 ?c4 ?c5 ?_)
      case c1 =>
        intro j u hj
        match j, hj with
        | 0, hj =>
          simp at hj
          subst hj
          simp [Addr.add]
      case c2 => intro u hu; simp at hu; subst hu; rfl
      case c3 => unfold maxLen; omega
      case c4 => omega
      case c5 => have := hb3.size; simp; omega
      intro v' w3 hown' hgrow _
      have hb4 : Below w.heap.size w w3 := (hb3.alloc hb3.size _).grown hgrow (by have := hb3.size; simp; omega) (fun r e => (hown2.lt r e).1)
      have hown3 : w3.ownsRow w.heap.size 9 1 v' (pre ++ [x]).length ((pre ++ [x]).map .string) := by
        rw [List.map_append, List.length_append]
        exact hown'
      have HO3 := Lib.hid hown3
      clear hown' hown3 hown2 hgrow hb3
      go_wp2
      go_roundw
      case rel => exact ⟨pre ++ [x], ts', rn, rfl, HALL.out, HN.out, by omega, HO3.out, hb4⟩
      case measure => exact hless
end Go.Proofs.YthbfibnpfdegaaaDoor
