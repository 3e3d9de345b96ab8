/- The page's own GetList. -/
import Derived.Test.YtbodkmeeceifoaaDoorFRefText
namespace Go.Proofs.YtbodkmeeceifoaaDoor
open Go.RowKit

theorem rt_more {s : ByteArray} (hs : s.size ≤ maxLen) (h : textL s.data.toList = .more) (W : World) :
    Calls Tryd.prog 24 #[.string s] W fun e w' => e = .returned (.tuple #[.string { data := #[] }, .string s, .int .i64 20]) ∧ Below W.heap.size W w' := by
  have h2 : TextOut s = .tuple #[.string { data := #[] }, .string s, .int .i64 20] := by unfold TextOut; rw [h]
  rw [← h2]
  exact refGetText_any s hs W
theorem rt_bad {s : ByteArray} (hs : s.size ≤ maxLen) (h : textL s.data.toList = .bad) (W : World) :
    Calls Tryd.prog 24 #[.string s] W fun e w' => e = .returned (.tuple #[.string { data := #[] }, .string s, .int .i64 21]) ∧ Below W.heap.size W w' := by
  have h2 : TextOut s = .tuple #[.string { data := #[] }, .string s, .int .i64 21] := by unfold TextOut; rw [h]
  rw [← h2]
  exact refGetText_any s hs W
theorem rt_ok {s : ByteArray} {a k : Nat} (hs : s.size ≤ maxLen) (h : textL s.data.toList = .ok a k) (W : World) :
    Calls Tryd.prog 24 #[.string s] W fun e w' => e = .returned (.tuple #[.string (s.extract a k), .string (s.extract k s.size), .int .i64 0]) ∧ Below W.heap.size W w' := by
  have h2 : TextOut s = .tuple #[.string (s.extract a k), .string (s.extract k s.size), .int .i64 0] := by unfold TextOut; rw [h]
  rw [← h2]
  exact refGetText_any s hs W
theorem rg_val (s : ByteArray) (v : Value) (hv : GetOut s = v) (hs : s.size ≤ maxLen) (W : World) :
    Calls Tryd.prog 13 #[.string s] W fun e w' => e = .returned v ∧ Below W.heap.size W w' := by
  rw [← hv]
  exact refGet_any s hs W

set_option maxHeartbeats 1000000 in
set_option maxRecDepth 100000 in
theorem refGetList_ok {s r : ByteArray} {ts : List ByteArray} (hs : s.size ≤ maxLen) (hg : getLS s = .ok ts r) (w : World) :
    Calls Tryd.prog 26 #[.string s] w fun e w' => (∃ v, e = .returned (.tuple #[v, .string r, .int .i64 0]) ∧ StrSl w' v ts) ∧ Below w.heap.size w w' := by
  obtain ⟨i0, hi, hz0, hz1, hz2⟩ := info_parts info9
  unfold getLS at hg
  split at hg
  · cases hg
  · cases hg
  rename_i n k hc
  obtain ⟨hgl, hn100⟩ := cnt_ok hc
  have hgo : GetOut s = .tuple #[.int .u64 (n : Int), .string (s.extract k s.size), .int .i64 0] := by unfold GetOut; rw [hgl]
  have hget := fun W => rg_val s _ hgo hs W
  have hR0 := ext_size s k hs
  obtain ⟨R0, hRR⟩ : ∃ R0, s.extract k s.size = R0 := ⟨_, rfl⟩
  rw [hRR] at hg hget hR0
  have HG := Lib.hid hg
  have HGET := Lib.hid hget
  have HR0 := Lib.hid hR0
  have HLEN := Lib.hid (listS_len HG.out)
  clear hs hg hc hgl hgo hget hRR hR0
  go_enter Tryd.func26, Tryd.ntmps26
  go_wp2_with fail
  with_reducible refine (HGET.out _).mono ?_
  rintro e w1 ⟨rfl, hb1⟩
  go_wp2_with fail
  go_loopw [6, 8, 9] (fun rs v i wr => ∃ (k : Nat) (ri : ByteArray), k ≤ n ∧ i = .int .u64 k ∧ rs = .string ri ∧ Hid (listS (n - k) ri = .ok (ts.drop k) r) ∧ Hid (ri.size ≤ maxLen) ∧ wr.ownsRow w.heap.size 9 1 v k ((ts.take k).map .string) ∧ Below w.heap.size w wr)
    (fun _ _ i _ => n - (intOf i).toNat)
  case atStart => exact ⟨0, R0, Nat.zero_le _, rfl, rfl, HG.out, HR0.out, World.ownsRow_nil _ _ _ _, hb1⟩
  case round =>
    clear hb1
    obtain ⟨i, ri, hk, rfl, rfl, HL, HRI, hown, hbel⟩ := hrel
    by_cases hlt : i < n
    · obtain ⟨m, hm⟩ : ∃ m, n - i = m + 1 := ⟨n - i - 1, by omega⟩
      have hl := HL.out
      rw [hm] at hl
      obtain ⟨a, k', ts', ht, hl', hd⟩ := listS_succ hl
      obtain ⟨x, hx⟩ : ∃ x, ri.extract a k' = x := ⟨_, rfl⟩
      have htake : ts.take (i + 1) = ts.take i ++ [x] := by
        have hlen := HLEN.out
        rw [List.take_succ_eq_append_getElem (by omega)]
        have := congrArg (fun l => l[0]?) hd
        simp only [List.getElem?_drop, Nat.add_zero, List.getElem?_cons_zero] at this
        rw [List.getElem?_eq_getElem (by omega), hx] at this
        rw [Option.some.inj this]
      have hdrop : ts.drop (i + 1) = ts' := by
        have := congrArg (List.drop 1) hd
        rw [List.drop_drop] at this
        simpa using this
      obtain ⟨rn, hrn⟩ : ∃ rn, ri.extract k' ri.size = rn := ⟨_, rfl⟩
      have hnext : listS (n - (i + 1)) rn = .ok (ts.drop (i + 1)) r := by
        rw [hdrop, ← hl', hrn]
        congr 1
        omega
      have htx := fun W => rt_ok HRI.out ht W
      have hrm := ext_size ri k' HRI.out
      rw [hx, hrn] at htx
      rw [hrn] at hrm
      have HTX := Lib.hid htx
      have HTK := Lib.hid htake
      have HNX := Lib.hid hnext
      have HRN := Lib.hid hrm
      clear hm hl ht hl' hd hx htake hdrop hnext htx hrn hrm
      go_wp2_with fail
      with_reducible refine (HTX.out _).mono ?_
      rintro e w2 ⟨rfl, hb2⟩
      have hg2 : wr.grownBy w2 none := ⟨hb2.os, hb2.tape, hb2.output, hb2.size, fun i hi _ => hb2.block i hi⟩
      have hown2 := hown.kept hg2 (Classical.em _)
      have hb3 := hbel.trans (hb2.mono hbel.size)
      clear hown hg2 hb2 hbel
      go_wp2_with (at_builtin; refine wpList_append_own _ rfl _ _ 31 rfl w.heap.size 9 i0 (.string { data := #[] }) 1 16 Tryd.underlying31 hi hz0 hz1 hz2 rfl (by decide) _ _ _ rfl (hown2.alloc _) ⟨w2.heap.size, 0, none⟩ 1 1 [.string x] rfl rfl ?c1 ?c2 ?c3 ?c4 ?c5 ?_)
      case c1 =>
        intro j u hj
        match j, hj with
        | 0, hj =>
          simp at hj
          subst hj
          simp [Addr.add]
      case c2 => intro u hu; simp at hu; subst hu; rfl
      case c3 => unfold maxLen; omega
      case c4 => omega
      case c5 => have := hb3.size; simp; omega
      intro v' w3 hown' hgrow _
      have hb4 : Below w.heap.size w w3 := (hb3.alloc hb3.size _).grown hgrow (by have := hb3.size; simp; omega) (fun r e => (hown2.lt r e).1)
      have hown3 : w3.ownsRow w.heap.size 9 1 v' (i + 1) ((ts.take (i + 1)).map .string) := by
        rw [HTK.out, List.map_append, List.map_take]
        exact hown'
      have HO := Lib.hid hown3
      clear hown' hown3 hown2 hgrow hb3
      go_wp2
      go_roundw
      case rel => exact ⟨i + 1, rn, by omega, by go_num, rfl, HNX.out, HRN.out, HO.out, hb4⟩
      case measure => simp [intOf]; omega
    · obtain rfl : i = n := by omega
      have hl := HL.out
      rw [Nat.sub_self] at hl
      have hlen := HLEN.out
      have htk : ts.take i = ts := List.take_of_length_le (by omega)
      have hr : ri = r := by
        unfold listS at hl
        simpa using (by simpa using hl : _ ∧ ri = r).2
      rw [htk] at hown
      subst hr
      have hsl := strSl_of_owns (ts := ts) (by rw [hlen]; exact hown)
      have HSL := Lib.hid hsl
      clear hl hlen htk hown hsl
      go_wp2
      go_ret3
      exact ⟨⟨_, rfl, HSL.out⟩, hbel⟩
set_option maxHeartbeats 1000000 in
set_option maxRecDepth 100000 in
theorem refGetList_err {s : ByteArray} {E : Int} (hs : s.size ≤ maxLen) (hg : (getLS s = .more ∧ E = 20) ∨ (getLS s = .bad ∧ E = 21)) (w : World) :
    Calls Tryd.prog 26 #[.string s] w fun e w' => e = .returned (.tuple #[.slice none 0 0, .string s, .int .i64 E]) ∧ Below w.heap.size w w' := by
  obtain ⟨i0, hi, hz0, hz1, hz2⟩ := info_parts info9
  have hsm := hs
  unfold maxLen at hsm
  unfold getLS at hg
  cases hgl : getL s.data.toList with
  | more =>
    have hc : cntL 100 s.data.toList = .more := by unfold cntL; rw [hgl]
    rw [hc] at hg
    obtain rfl : E = 20 := by
      rcases hg with ⟨_, h⟩ | ⟨h, _⟩
      · exact h
      · cases h
    have hgo : GetOut s = .tuple #[.int .u64 0, .string s, .int .i64 20] := by unfold GetOut; rw [hgl]
    have HGET := Lib.hid (fun W => rg_val s _ hgo hs W)
    clear hs hg hgl hc hgo
    go_enter Tryd.func26, Tryd.ntmps26
    go_wp2_with fail
    with_reducible refine (HGET.out _).mono ?_
    rintro e w1 ⟨rfl, hb1⟩
    go_wp2_with fail
    go_ret3
    exact ⟨rfl, hb1⟩
  | bad =>
    have hc : cntL 100 s.data.toList = .bad := by unfold cntL; rw [hgl]
    rw [hc] at hg
    obtain rfl : E = 21 := by
      rcases hg with ⟨h, _⟩ | ⟨_, h⟩
      · cases h
      · exact h
    have hgo : GetOut s = .tuple #[.int .u64 0, .string s, .int .i64 21] := by unfold GetOut; rw [hgl]
    have HGET := Lib.hid (fun W => rg_val s _ hgo hs W)
    clear hs hg hgl hc hgo
    go_enter Tryd.func26, Tryd.ntmps26
    go_wp2_with fail
    with_reducible refine (HGET.out _).mono ?_
    rintro e w1 ⟨rfl, hb1⟩
    go_wp2_with fail
    go_ret3
    exact ⟨rfl, hb1⟩
  | ok n k =>
    have hgo : GetOut s = .tuple #[.int .u64 (n : Int), .string (s.extract k s.size), .int .i64 0] := by unfold GetOut; rw [hgl]
    have hget := fun W => rg_val s _ hgo hs W
    have hv9 := (put_of_get s n k hgl).2
    by_cases h1 : 100 < n
    · have hc : cntL 100 s.data.toList = .bad := by unfold cntL; rw [hgl]; dsimp only; rw [if_pos h1]
      rw [hc] at hg
      obtain rfl : E = 21 := by
        rcases hg with ⟨h, _⟩ | ⟨_, h⟩
        · cases h
        · exact h
      have HGET := Lib.hid hget
      clear hs hg hgl hc hgo hget
      go_enter Tryd.func26, Tryd.ntmps26
      go_wp2_with fail
      with_reducible refine (HGET.out _).mono ?_
      rintro e w1 ⟨rfl, hb1⟩
      go_wp2_with fail
      go_ret3
      exact ⟨rfl, hb1⟩
    · have hc : cntL 100 s.data.toList = .ok n k := by unfold cntL; rw [hgl]; dsimp only; rw [if_neg h1]
      rw [hc] at hg
      dsimp only at hg
      have hR0 := ext_size s k hs
      obtain ⟨R0, hRR⟩ : ∃ R0, s.extract k s.size = R0 := ⟨_, rfl⟩
      rw [hRR] at hg hget hR0
      have HG := Lib.hid hg
      have HGET := Lib.hid hget
      have HR0 := Lib.hid hR0
      clear hs hg hc hgl hgo hget hRR hR0
      go_enter Tryd.func26, Tryd.ntmps26
      go_wp2_with fail
      with_reducible refine (HGET.out _).mono ?_
      rintro e w1 ⟨rfl, hb1⟩
      go_wp2_with fail
      go_loopw [6, 8, 9] (fun rs v i wr => ∃ (k : Nat) (ri : ByteArray), k ≤ n ∧ i = .int .u64 k ∧ rs = .string ri ∧ Hid ((listS (n - k) ri = .more ∧ E = 20) ∨ (listS (n - k) ri = .bad ∧ E = 21)) ∧ Hid (ri.size ≤ maxLen) ∧ (∃ xs, wr.ownsRow w.heap.size 9 1 v k xs) ∧ Below w.heap.size w wr)
        (fun _ _ i _ => n - (intOf i).toNat)
      case atStart => exact ⟨0, R0, Nat.zero_le _, rfl, rfl, HG.out, HR0.out, ⟨[], World.ownsRow_nil _ _ _ _⟩, hb1⟩
      case round =>
        clear hb1
        obtain ⟨i, ri, hk, rfl, rfl, HL, HRI, ⟨xs, hown⟩, hbel⟩ := hrel
        by_cases hlt : i < n
        · obtain ⟨m, hm⟩ : ∃ m, n - i = m + 1 := ⟨n - i - 1, by omega⟩
          have hl := HL.out
          rw [hm] at hl
          have hl2 : (textL ri.data.toList = .more ∧ E = 20) ∨ (textL ri.data.toList = .bad ∧ E = 21) ∨ ∃ a k, textL ri.data.toList = .ok a k ∧ ((listS m (ri.extract k ri.size) = .more ∧ E = 20) ∨ (listS m (ri.extract k ri.size) = .bad ∧ E = 21)) := by
            unfold listS at hl
            cases ht : textL ri.data.toList with
            | more =>
              rw [ht] at hl
              rcases hl with ⟨_, h⟩ | ⟨h, _⟩
              · exact .inl ⟨rfl, h⟩
              · cases h
            | bad =>
              rw [ht] at hl
              rcases hl with ⟨h, _⟩ | ⟨_, h⟩
              · cases h
              · exact .inr (.inl ⟨rfl, h⟩)
            | ok a k =>
              rw [ht] at hl
              refine .inr (.inr ⟨a, k, rfl, ?_⟩)
              dsimp only at hl
              cases hll : listS m (ri.extract k ri.size) with
              | more => rw [hll] at hl; simpa using hl
              | bad => rw [hll] at hl; simpa using hl
              | ok ts r => rw [hll] at hl; simp at hl
          rcases hl2 with ⟨ht, rfl⟩ | ⟨ht, rfl⟩ | ⟨a, k', ht, hl'⟩
          · have HTX := Lib.hid (fun W => rt_more HRI.out ht W)
            clear hm hl ht
            go_wp2_with fail
            with_reducible refine (HTX.out _).mono ?_
            rintro e w2 ⟨rfl, hb2⟩
            have hb3 := hbel.trans (hb2.mono hbel.size)
            clear hb2
            go_wp2_with fail
            go_ret3
            exact ⟨rfl, hb3⟩
          · have HTX := Lib.hid (fun W => rt_bad HRI.out ht W)
            clear hm hl ht
            go_wp2_with fail
            with_reducible refine (HTX.out _).mono ?_
            rintro e w2 ⟨rfl, hb2⟩
            have hb3 := hbel.trans (hb2.mono hbel.size)
            clear hb2
            go_wp2_with fail
            go_ret3
            exact ⟨rfl, hb3⟩
          · obtain ⟨x, hx⟩ : ∃ x, ri.extract a k' = x := ⟨_, rfl⟩
            obtain ⟨rn, hrn⟩ : ∃ rn, ri.extract k' ri.size = rn := ⟨_, rfl⟩
            have htx := fun W => rt_ok HRI.out ht W
            have hrm := ext_size ri k' HRI.out
            have hmm : m = n - (i + 1) := by omega
            rw [hx, hrn] at htx
            rw [hrn] at hrm hl'
            rw [hmm] at hl'
            have HTX := Lib.hid htx
            have HNX := Lib.hid hl'
            have HRN := Lib.hid hrm
            clear hm hl ht hl' hx htx hrn hrm hmm
            go_wp2_with fail
            with_reducible refine (HTX.out _).mono ?_
            rintro e w2 ⟨rfl, hb2⟩
            have hg2 : wr.grownBy w2 none := ⟨hb2.os, hb2.tape, hb2.output, hb2.size, fun i hi _ => hb2.block i hi⟩
            have hown2 := hown.kept hg2 (Classical.em _)
            have hb3 := hbel.trans (hb2.mono hbel.size)
            clear hown hg2 hb2 hbel
            go_wp2_with (at_builtin; refine wpList_append_own _ rfl _ _ 31 rfl w.heap.size 9 i0 (.string { data := #[] }) 1 16 Tryd.underlying31 hi hz0 hz1 hz2 rfl (by decide) _ _ _ rfl (hown2.alloc _) ⟨w2.heap.size, 0, none⟩ 1 1 [.string x] rfl rfl ?c1 ?c2 ?c3 ?c4 ?c5 ?_)
            case c1 =>
              intro j u hj
              match j, hj with
              | 0, hj =>
                simp at hj
                subst hj
                simp [Addr.add]
            case c2 => intro u hu; simp at hu; subst hu; rfl
            case c3 => unfold maxLen; omega
            case c4 => omega
            case c5 => have := hb3.size; simp; omega
            intro v' w3 hown' hgrow _
            have hb4 : Below w.heap.size w w3 := (hb3.alloc hb3.size _).grown hgrow (by have := hb3.size; simp; omega) (fun r e => (hown2.lt r e).1)
            have HO := Lib.hid hown'
            clear hown' hown2 hgrow hb3
            go_wp2
            go_roundw
            case rel => exact ⟨i + 1, rn, by omega, by go_num, rfl, HNX.out, HRN.out, ⟨_, HO.out⟩, hb4⟩
            case measure => simp [intOf]; omega
        · exfalso
          obtain rfl : i = n := by omega
          have hl := HL.out
          rw [Nat.sub_self] at hl
          rcases hl with ⟨hl, _⟩ | ⟨hl, _⟩ <;> simp [listS] at hl
end Go.Proofs.YtbodkmeeceifoaaDoor
