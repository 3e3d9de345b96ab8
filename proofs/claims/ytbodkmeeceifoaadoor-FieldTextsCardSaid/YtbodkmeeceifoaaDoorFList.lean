/- Package field's reader: a list of texts; GetList. -/
import Derived.Test.YtbodkmeeceifoaaDoorFRead
import Derived.Test.YtbodkmeeceifoaaDoorFPuts
import Derived.ScopeJumps
import Derived.WalkMore
namespace Go.Proofs.YtbodkmeeceifoaaDoor
open Go.RowKit

inductive LR
  | more
  | bad
  | ok (ts : List ByteArray) (r : ByteArray)
/-- So many texts, one behind another. -/
def listS : Nat → ByteArray → LR
  | 0, s => .ok [] s
  | n + 1, s => match textL s.data.toList with
    | .more => .more
    | .bad => .bad
    | .ok a k => match listS n (s.extract k s.size) with
      | .ok ts r => .ok (s.extract a k :: ts) r
      | .more => .more
      | .bad => .bad
/-- The list that bytes begin with, and what is behind it. -/
def getLS (s : ByteArray) : LR := match cntL 100 s.data.toList with
  | .more => .more
  | .bad => .bad
  | .ok n k => listS n (s.extract k s.size)

theorem info9 : (Tryd.prog.info? 9).map (fun i => (i.zero, i.size, i.bytes)) = some (some (.string { data := #[] }), 1, 16) := by kernel_rfl
theorem grb_own {x y z : World} {b : Nat} {row : Option Nat} (h : x.grownBy y (some b)) (k : y.grownBy z row) (hr : ∀ r, row = some r → x.heap.size ≤ r) : x.grownBy z (some b) :=
  ⟨k.os.trans h.os, k.tape.trans h.tape, k.output.trans h.output, Nat.le_trans h.size k.size,
    fun i hi hn => (k.block i (Nat.lt_of_lt_of_le hi h.size) (fun e => by have := hr i e.symm; omega)).trans (h.block i hi hn)⟩
theorem ext_size (s : ByteArray) (k : Nat) (h : s.size ≤ maxLen) : (s.extract k s.size).size ≤ maxLen := by simp; omega

theorem listS_succ {n : Nat} {s r : ByteArray} {L : List ByteArray} (h : listS (n + 1) s = .ok L r) :
    ∃ a k ts, textL s.data.toList = .ok a k ∧ listS n (s.extract k s.size) = .ok ts r ∧ L = s.extract a k :: ts := by
  unfold listS at h
  split at h
  · cases h
  · cases h
  · rename_i a k ht
    split at h
    · rename_i ts r' hl
      obtain ⟨rfl, rfl⟩ : _ = L ∧ _ = r := by simpa using h
      exact ⟨a, k, ts, ht, hl, rfl⟩
    · cases h
    · cases h
theorem listS_len {r : ByteArray} : ∀ {n : Nat} {s : ByteArray} {L : List ByteArray}, listS n s = .ok L r → L.length = n := by
  intro n
  induction n with
  | zero => intro s L h; simp [listS] at h; simp [h.1]
  | succ n ih =>
    intro s L h
    obtain ⟨a, k, ts, _, h2, rfl⟩ := listS_succ h
    simp [ih h2]
section
variable {am af : Addr} {N b : Nat} {s whole : ByteArray} {w : World}
set_option maxHeartbeats 1000000 in
set_option maxRecDepth 100000 in
theorem list_ok {ts : List ByteArray} {r : ByteArray} (hs : s.size ≤ maxLen) (h : HasC w b 48 #[.string s, .string whole]) (hS : Sent am af N w) (hNb : N ≤ b) (hg : getLS s = .ok ts r) :
    Calls Tryd.prog 39 #[.pointer (some ⟨b, 0, none⟩)] w fun e w' => (∃ v, e = .returned (.tuple #[v, .nilIface]) ∧ w'.ownsRow w.heap.size 9 1 v ts.length (ts.map .string)) ∧ w.grownBy w' (some b) ∧ HasC w' b 48 #[.string r, .string whole] ∧ ts.length ≤ 100 := by
  obtain ⟨i0, hi, hz0, hz1, hz2⟩ := info_parts info9
  have hlb := h.lt
  unfold getLS at hg
  split at hg
  · cases hg
  · cases hg
  rename_i n k hc
  obtain ⟨_, hn100⟩ := cnt_ok hc
  have HS := Lib.hid hs
  have HG := Lib.hid hg
  have HC := Lib.hid hc
  clear hs hg hc
  go_enter Tryd.func39, Tryd.ntmps39
  go_wp2
  refine wp_scope_straight ?_
  go_wp2_with fail
  refine (count_ok (by decide) HS.out h hS hNb HC.out).mono ?_
  rintro e w1 ⟨rfl, hg1, hc1⟩
  go_wp2_with fail
  have hlen := listS_len HG.out
  have HLEN := Lib.hid hlen
  clear hlen
  go_loopw [4, 16] (fun v i wr => ∃ (k : Nat) (ri : ByteArray), k ≤ n ∧ i = .int .i64 k ∧ Hid (listS (n - k) ri = .ok (ts.drop k) r) ∧ Hid (ri.size ≤ maxLen) ∧ wr.ownsRow w.heap.size 9 1 v k ((ts.take k).map .string) ∧ HasC wr b 48 #[.string ri, .string whole] ∧ w.grownBy wr (some b))
    (fun _ i _ => n - (intOf i).toNat)
  case atStart => exact ⟨0, _, Nat.zero_le _, rfl, HG.out, ext_size s k HS.out, World.ownsRow_nil _ _ _ _, hc1, hg1⟩
  case round =>
    obtain ⟨i, ri, hk, rfl, HL, HRI, hown, hcr, hgr⟩ := hrel
    by_cases hlt : i < n
    · obtain ⟨m, hm⟩ : ∃ m, n - i = m + 1 := ⟨n - i - 1, by omega⟩
      have hl := HL.out
      rw [hm] at hl
      obtain ⟨a, k', ts', ht, hl', hd⟩ := listS_succ hl
      obtain ⟨x, hx⟩ : ∃ x, ri.extract a k' = x := ⟨_, rfl⟩
      have htake : ts.take (i + 1) = ts.take i ++ [x] := by
        have hlen := HLEN.out
        rw [List.take_succ_eq_append_getElem (by omega)]
        have := congrArg (fun l => l[0]?) hd
        simp only [List.getElem?_drop, Nat.add_zero, List.getElem?_cons_zero] at this
        rw [List.getElem?_eq_getElem (by omega), hx] at this
        rw [Option.some.inj this]
      have hdrop : ts.drop (i + 1) = ts' := by
        have := congrArg (List.drop 1) hd
        rw [List.drop_drop] at this
        simpa using this
      have hnext : listS (n - (i + 1)) (ri.extract k' ri.size) = .ok (ts.drop (i + 1)) r := by
        rw [hdrop, ← hl']
        congr 1
        omega
      have htx : ∀ W, HasC W b 48 #[.string ri, .string whole] → Sent am af N W → Calls Tryd.prog 38 #[.pointer (some ⟨b, 0, none⟩)] W fun e w' => e = .returned (.tuple #[.string x, .nilIface]) ∧ W.grownBy w' (some b) ∧ HasC w' b 48 #[.string (ri.extract k' ri.size), .string whole] := fun W h1 h2 => by
        rw [← hx]
        exact text_ok HRI.out h1 h2 hNb ht
      have HTX := Lib.hid htx
      have HTK := Lib.hid htake
      have HNX := Lib.hid hnext
      have HRN : Hid ((ri.extract k' ri.size).size ≤ maxLen) := ext_size _ _ HRI.out
      clear hm hl ht hl' hd hx htake hdrop hnext htx
      go_wp2_with fail
      refine (HTX.out _ hcr (hS.grown hgr hNb)).mono ?_
      rintro e w2 ⟨rfl, hg2, hc2⟩
      have hown2 := hown.kept hg2 (.inr (fun e => by have := (hown.lt _ e).1; omega))
      have hg3 := grb_trans hgr hg2
      clear hown hg2 hcr hgr
      go_wp2_with (at_builtin; refine wpList_append_own _ rfl _ _ 31 rfl w.heap.size 9 i0 (.string { data := #[] }) 1 16 Tryd.underlying31 hi hz0 hz1 hz2 rfl (by decide) _ _ _ rfl (hown2.alloc _) ⟨w2.heap.size, 0, none⟩ 1 1 [.string x] rfl rfl ?c1 ?c2 ?c3 ?c4 ?c5 ?_)
      case c1 =>
        intro j u hj
        match j, hj with
        | 0, hj =>
          simp at hj
          subst hj
          simp [Addr.add]
      case c2 => intro u hu; simp at hu; subst hu; rfl
      case c3 => unfold maxLen; omega
      case c4 => omega
      case c5 => have := hg3.size; simp; omega
      intro v' w3 hown' hgrow _
      have hlt2 : b < w2.heap.size := hc2.lt
      have hc3 : HasC w3 b 48 #[.string (ri.extract k' ri.size), .string whole] :=
        (hgrow.block b (by simp; omega) (fun e => by have := (hown2.lt _ e.symm).1; omega)).trans (hc2.alloc _)
      have hg4 : w.grownBy w3 (some b) := grb_own (grb_alloc hg3 _) hgrow (fun r e => (hown2.lt r e).1)
      have hown3 : w3.ownsRow w.heap.size 9 1 v' (i + 1) ((ts.take (i + 1)).map .string) := by
        rw [HTK.out, List.map_append, List.map_take]
        exact hown'
      have HO := Lib.hid hown3
      clear hown' hown3 hown2 hgrow hc2 hg3
      go_wp2
      go_roundw
      case rel => exact ⟨i + 1, _, by omega, by go_num, HNX, HRN, HO.out, hc3, hg4⟩
      case measure => simp [intOf]; omega
    · obtain rfl : i = n := by omega
      have hl := HL.out
      rw [Nat.sub_self] at hl
      have hlen := HLEN.out
      have htk : ts.take i = ts := List.take_of_length_le (by omega)
      have hr : ri = r := by
        unfold listS at hl
        simpa using (by simpa using hl : _ ∧ ri = r).2
      rw [htk] at hown
      subst hr
      have HO : Hid (wr.ownsRow w.heap.size 9 1 u4 ts.length (ts.map .string)) := by rw [hlen]; exact hown
      have HL2 := Lib.hid hlen
      clear hl hlen htk hown
      go_wp2
      try rw [Exit.noGoto_ret]
      go_ret2
      exact ⟨⟨_, rfl, HO.out⟩, hgr, hcr, by have := HL2.out; omega⟩

theorem jump_ret {l : Nat} {J : Act → World → Prop} {Q : Exit → Act → World → Prop} {a : Act} {W : World} : Exit.jump l J Q .ret a W = Q .ret a W := rfl
/-- The way out: an error in its slot. -/
def OutAt (E : Addr) (b : Nat) (whole : ByteArray) (w : World) (a : Act) (W : World) : Prop :=
  (∃ u4 u5 u6 u8 u9 u10 u11 u12 u13 u14 u15 u16 u17 u18 u19 u20 u21 u22 u23 u24 u25 u26 u27 u28 u29 u30 u31 : Value, a = { tmps := #[.pointer (some ⟨b, 0, none⟩), undef, .slice none 0 0, .nilIface, u4, u5, u6, .iface 102 (.pointer (some E)), u8, u9, u10, u11, u12, u13, u14, u15, u16, u17, u18, u19, u20, u21, u22, u23, u24, u25, u26, u27, u28, u29, u30, u31], defers := [] }) ∧ w.grownBy W (some b) ∧ ∃ r, HasC W b 48 #[.string r, .string whole]

theorem listS_err {E : Addr} {n : Nat} {s : ByteArray} (h : (listS (n + 1) s = .more ∧ E = am) ∨ (listS (n + 1) s = .bad ∧ E = af)) :
    (textL s.data.toList = .more ∧ E = am) ∨ (textL s.data.toList = .bad ∧ E = af) ∨ ∃ a k, textL s.data.toList = .ok a k ∧ ((listS n (s.extract k s.size) = .more ∧ E = am) ∨ (listS n (s.extract k s.size) = .bad ∧ E = af)) := by
  cases ht : textL s.data.toList with
  | more =>
    rcases h with ⟨h, he⟩ | ⟨h, he⟩
    · exact .inl ⟨rfl, he⟩
    · simp [listS, ht] at h
  | bad =>
    rcases h with ⟨h, he⟩ | ⟨h, he⟩
    · simp [listS, ht] at h
    · exact .inr (.inl ⟨rfl, he⟩)
  | ok a k =>
    refine .inr (.inr ⟨a, k, rfl, ?_⟩)
    rcases h with ⟨h, he⟩ | ⟨h, he⟩
    · left
      refine ⟨?_, he⟩
      simp only [listS, ht] at h
      split at h
      · cases h
      · assumption
      · cases h
    · right
      refine ⟨?_, he⟩
      simp only [listS, ht] at h
      split at h
      · cases h
      · cases h
      · assumption

set_option maxHeartbeats 1000000 in
set_option maxRecDepth 100000 in
theorem list_err {E : Addr} (hs : s.size ≤ maxLen) (h : HasC w b 48 #[.string s, .string whole]) (hS : Sent am af N w) (hNb : N ≤ b) (hg : (getLS s = .more ∧ E = am) ∨ (getLS s = .bad ∧ E = af)) :
    Calls Tryd.prog 39 #[.pointer (some ⟨b, 0, none⟩)] w fun e w' => e = .returned (.tuple #[.slice none 0 0, .iface 102 (.pointer (some E))]) ∧ w.grownBy w' (some b) ∧ ∃ r, HasC w' b 48 #[.string r, .string whole] := by
  obtain ⟨i0, hi, hz0, hz1, hz2⟩ := info_parts info9
  have hlb := h.lt
  have HS := Lib.hid hs
  have HG := Lib.hid hg
  clear hs hg
  go_enter Tryd.func39, Tryd.ntmps39
  go_wp2
  refine wp_scope_jumps 0 (OutAt E b whole w) (fun _ _ => 0) rfl ?first ?pass
  case pass =>
    rintro a W ⟨⟨u4, u5, u6, u8, u9, u10, u11, u12, u13, u14, u15, u16, u17, u18, u19, u20, u21, u22, u23, u24, u25, u26, u27, u28, u29, u30, u31, rfl⟩, hgw, hcw⟩
    have HCW := Lib.hid hcw
    clear hcw
    go_wp2
    rw [jump_ret]
    go_ret2
    exact ⟨rfl, hgw, HCW.out⟩
  case first =>
    have hc := HG.out
    unfold getLS at hc
    cases hcn : cntL 100 s.data.toList with
    | more =>
      have HE : Hid (E = am) := by
        rw [hcn] at hc
        rcases hc with ⟨_, he⟩ | ⟨he, _⟩
        · exact he
        · cases he
      have HC := Lib.hid hcn
      clear hc hcn
      go_wp2_with fail
      refine (count_more HS.out h hS hNb HC.out).mono ?_
      rintro e w1 ⟨rfl, hg1, hc1⟩
      go_wp2_with fail
      refine wp_goto ?_
      show 0 = 0 ∧ OutAt E b whole w _ _
      refine ⟨rfl, ?_⟩
      exact ⟨⟨_, _, _, _, _, _, _, _, _, _, _, _, _, _, _, _, _, _, _, _, _, _, _, _, _, _, _, by rw [HE.out]⟩, hg1, _, hc1⟩
    | bad =>
      have HE : Hid (E = af) := by
        rw [hcn] at hc
        rcases hc with ⟨he, _⟩ | ⟨_, he⟩
        · cases he
        · exact he
      have HC := Lib.hid hcn
      clear hc hcn
      go_wp2_with fail
      refine (count_bad HS.out h hS hNb HC.out).mono ?_
      rintro e w1 ⟨rfl, hg1, hc1⟩
      have HCC := Lib.hid hc1
      clear hc1
      go_wp2_with fail
      refine wp_goto ?_
      show 0 = 0 ∧ OutAt E b whole w _ _
      refine ⟨rfl, ?_⟩
      exact ⟨⟨_, _, _, _, _, _, _, _, _, _, _, _, _, _, _, _, _, _, _, _, _, _, _, _, _, _, _, by rw [HE.out]⟩, hg1, HCC.out⟩
    | ok n k =>
      rw [hcn] at hc
      dsimp only at hc
      obtain ⟨_, hn100⟩ := cnt_ok hcn
      have HC := Lib.hid hcn
      have HL0 := Lib.hid hc
      clear hc hcn
      go_wp2_with fail
      refine (count_ok (by decide) HS.out h hS hNb HC.out).mono ?_
      rintro e w1 ⟨rfl, hg1, hc1⟩
      go_wp2_with fail
      go_loopw [4, 16] (fun v i wr => ∃ (k : Nat) (ri : ByteArray), k ≤ n ∧ i = .int .i64 k ∧ Hid ((listS (n - k) ri = .more ∧ E = am) ∨ (listS (n - k) ri = .bad ∧ E = af)) ∧ Hid (ri.size ≤ maxLen) ∧ (∃ xs, wr.ownsRow w.heap.size 9 1 v k xs) ∧ HasC wr b 48 #[.string ri, .string whole] ∧ w.grownBy wr (some b))
        (fun _ i _ => n - (intOf i).toNat)
      case atStart => exact ⟨0, _, Nat.zero_le _, rfl, HL0.out, ext_size s k HS.out, ⟨[], World.ownsRow_nil _ _ _ _⟩, hc1, hg1⟩
      case round =>
        obtain ⟨i, ri, hk, rfl, HL, HRI, ⟨xs, hown⟩, hcr, hgr⟩ := hrel
        by_cases hlt : i < n
        · obtain ⟨m, hm⟩ : ∃ m, n - i = m + 1 := ⟨n - i - 1, by omega⟩
          have hl := HL.out
          rw [hm] at hl
          rcases listS_err hl with ⟨ht, hE⟩ | ⟨ht, hE⟩ | ⟨a, k', ht, hl'⟩
          · have HT := Lib.hid ht
            have HE := Lib.hid hE
            clear hm hl ht hE
            go_wp2_with fail
            refine (text_more HRI.out hcr (hS.grown hgr hNb) hNb HT.out).mono ?_
            rintro e w2 ⟨rfl, hg2, hc2⟩
            have HCC := Lib.hid hc2
            clear hc2
            go_wp2_with fail
            refine wp_goto ?_
            show 0 = 0 ∧ OutAt E b whole w _ _
            refine ⟨rfl, ?_⟩
            exact ⟨⟨_, _, _, _, _, _, _, _, _, _, _, _, _, _, _, _, _, _, _, _, _, _, _, _, _, _, _, by rw [HE.out]⟩, grb_trans hgr hg2, HCC.out⟩
          · have HT := Lib.hid ht
            have HE := Lib.hid hE
            clear hm hl ht hE
            go_wp2_with fail
            refine (text_bad HRI.out hcr (hS.grown hgr hNb) hNb HT.out).mono ?_
            rintro e w2 ⟨rfl, hg2, hc2⟩
            have HCC := Lib.hid hc2
            clear hc2
            go_wp2_with fail
            refine wp_goto ?_
            show 0 = 0 ∧ OutAt E b whole w _ _
            refine ⟨rfl, ?_⟩
            exact ⟨⟨_, _, _, _, _, _, _, _, _, _, _, _, _, _, _, _, _, _, _, _, _, _, _, _, _, _, _, by rw [HE.out]⟩, grb_trans hgr hg2, HCC.out⟩
          · obtain ⟨x, hx⟩ : ∃ x, ri.extract a k' = x := ⟨_, rfl⟩
            have htx : ∀ W, HasC W b 48 #[.string ri, .string whole] → Sent am af N W → Calls Tryd.prog 38 #[.pointer (some ⟨b, 0, none⟩)] W fun e w' => e = .returned (.tuple #[.string x, .nilIface]) ∧ W.grownBy w' (some b) ∧ HasC w' b 48 #[.string (ri.extract k' ri.size), .string whole] := fun W h1 h2 => by
              rw [← hx]
              exact text_ok HRI.out h1 h2 hNb ht
            have HTX := Lib.hid htx
            have hmm : m = n - (i + 1) := by omega
            rw [hmm] at hl'
            have HNX := Lib.hid hl'
            have HRN : Hid ((ri.extract k' ri.size).size ≤ maxLen) := ext_size _ _ HRI.out
            clear hm hl ht hl' hx htx hmm
            go_wp2_with fail
            refine (HTX.out _ hcr (hS.grown hgr hNb)).mono ?_
            rintro e w2 ⟨rfl, hg2, hc2⟩
            have hown2 := hown.kept hg2 (.inr (fun e => by have := (hown.lt _ e).1; omega))
            have hg3 := grb_trans hgr hg2
            clear hown hg2 hcr hgr
            go_wp2_with (at_builtin; refine wpList_append_own _ rfl _ _ 31 rfl w.heap.size 9 i0 (.string { data := #[] }) 1 16 Tryd.underlying31 hi hz0 hz1 hz2 rfl (by decide) _ _ _ rfl (hown2.alloc _) ⟨w2.heap.size, 0, none⟩ 1 1 [.string x] rfl rfl ?c1 ?c2 ?c3 ?c4 ?c5 ?_)
            case c1 =>
              intro j u hj
              match j, hj with
              | 0, hj =>
                simp at hj
                subst hj
                simp [Addr.add]
            case c2 => intro u hu; simp at hu; subst hu; rfl
            case c3 => unfold maxLen; omega
            case c4 => omega
            case c5 => have := hg3.size; simp; omega
            intro v' w3 hown' hgrow _
            have hlt2 : b < w2.heap.size := hc2.lt
            have hc3 : HasC w3 b 48 #[.string (ri.extract k' ri.size), .string whole] :=
              (hgrow.block b (by simp; omega) (fun e => by have := (hown2.lt _ e.symm).1; omega)).trans (hc2.alloc _)
            have hg4 : w.grownBy w3 (some b) := grb_own (grb_alloc hg3 _) hgrow (fun r e => (hown2.lt r e).1)
            have HO := Lib.hid hown'
            clear hown' hown2 hgrow hc2 hg3
            go_wp2
            go_roundw
            case rel => exact ⟨i + 1, _, by omega, by go_num, HNX, HRN, ⟨_, HO.out⟩, hc3, hg4⟩
            case measure => simp [intOf]; omega
        · exfalso
          obtain rfl : i = n := by omega
          have hl := HL.out
          rw [Nat.sub_self] at hl
          rcases hl with ⟨hl, _⟩ | ⟨hl, _⟩ <;> simp [listS] at hl
end
theorem strSl_of_owns {B : Nat} {v : Value} {ts : List ByteArray} {w : World} (h : w.ownsRow B 9 1 v ts.length (ts.map .string)) : StrSl w v ts := by
  rcases h.2 with ⟨hv, h0⟩ | ⟨g, cap, cur, hv, _, hg, _, _, _, htk⟩
  · exact .inl ⟨none, 0, hv, List.length_eq_zero_iff.1 h0⟩
  · refine .inr ⟨g, 0, cap, hv, (Array.getElem?_eq_some_iff.1 hg).1, fun j hj => ?_⟩
    have h1 := congrArg (fun l => l[j]?) htk
    simp only [Nat.mul_one, List.getElem?_take, hj, if_true, List.getElem?_map, List.getElem?_eq_getElem hj, Option.map_some] at h1
    rw [cell_of_row w g (0 + j) cur 9 (0, 0) hg, Nat.zero_add, List.getD_eq_getElem?_getD, List.getElem?_eq_getElem hj]
    simpa using h1

theorem getList_more {am af : Addr} {N : Nat} (s : ByteArray) (hs : s.size ≤ maxLen) (w : World) (hS : Sent am af N w) (hg : getLS s = .more) :
    Calls Tryd.prog 25 #[.string s] w fun e w' => e = .returned (.tuple #[.slice none 0 0, .string s, .int .i64 20]) ∧ Below w.heap.size w w' := by
  have HS := Lib.hid hs
  have HG := Lib.hid hg
  clear hs hg
  have hN := hS.all
  go_enter Tryd.func25, Tryd.ntmps25
  go_wp2_with fail
  refine (readerOf_any _ _).mono ?_
  rintro e w1 ⟨rfl, hb1⟩
  go_wp2_with fail
  have hz1 := hb1.size
  have hS1 : Sent am af N (w1.alloc (.cells #[.string s, .string s] 48)) := hS.below (hb1.alloc hz1 _) hN
  refine (list_err HS.out (HasC.new _ _ _) hS1 (by omega) (.inl ⟨HG.out, rfl⟩)).mono ?_
  rintro e w2 ⟨rfl, hg2, r, hc2⟩
  go_wp2_with fail
  refine (end_more hc2 (hS1.grown hg2 (by omega))).mono ?_
  rintro e w3 ⟨rfl, rfl⟩
  go_wp2_with fail
  go_ret3
  exact ⟨rfl, grb_down hg2 (by simp; omega) hz1 (hb1.alloc hz1 _)⟩
theorem getList_bad {am af : Addr} {N : Nat} (s : ByteArray) (hs : s.size ≤ maxLen) (w : World) (hS : Sent am af N w) (hg : getLS s = .bad) :
    Calls Tryd.prog 25 #[.string s] w fun e w' => e = .returned (.tuple #[.slice none 0 0, .string s, .int .i64 21]) ∧ Below w.heap.size w w' := by
  have HS := Lib.hid hs
  have HG := Lib.hid hg
  clear hs hg
  have hN := hS.all
  go_enter Tryd.func25, Tryd.ntmps25
  go_wp2_with fail
  refine (readerOf_any _ _).mono ?_
  rintro e w1 ⟨rfl, hb1⟩
  go_wp2_with fail
  have hz1 := hb1.size
  have hS1 : Sent am af N (w1.alloc (.cells #[.string s, .string s] 48)) := hS.below (hb1.alloc hz1 _) hN
  refine (list_err HS.out (HasC.new _ _ _) hS1 (by omega) (.inr ⟨HG.out, rfl⟩)).mono ?_
  rintro e w2 ⟨rfl, hg2, r, hc2⟩
  go_wp2_with fail
  refine (end_field hc2 (hS1.grown hg2 (by omega))).mono ?_
  rintro e w3 ⟨rfl, rfl⟩
  go_wp2_with fail
  go_ret3
  exact ⟨rfl, grb_down hg2 (by simp; omega) hz1 (hb1.alloc hz1 _)⟩
theorem getList_ok {am af : Addr} {N : Nat} (s : ByteArray) (hs : s.size ≤ maxLen) (w : World) (hS : Sent am af N w) {ts : List ByteArray} {r : ByteArray} (hg : getLS s = .ok ts r) :
    Calls Tryd.prog 25 #[.string s] w fun e w' => (∃ v, e = .returned (.tuple #[v, .string r, .int .i64 0]) ∧ StrSl w' v ts) ∧ Below w.heap.size w w' := by
  have HS := Lib.hid hs
  have HG := Lib.hid hg
  clear hs hg
  have hN := hS.all
  go_enter Tryd.func25, Tryd.ntmps25
  go_wp2_with fail
  refine (readerOf_any _ _).mono ?_
  rintro e w1 ⟨rfl, hb1⟩
  go_wp2_with fail
  have hz1 := hb1.size
  have hS1 : Sent am af N (w1.alloc (.cells #[.string s, .string s] 48)) := hS.below (hb1.alloc hz1 _) hN
  refine (list_ok HS.out (HasC.new _ _ _) hS1 (by omega) HG.out).mono ?_
  rintro e w2 ⟨⟨v, rfl, hown⟩, hg2, hc2, hl⟩
  have hsl := strSl_of_owns hown
  have HSL := Lib.hid hsl
  clear hown hsl
  go_wp2_with fail
  refine (end_nil hc2).mono ?_
  rintro e w3 ⟨rfl, rfl⟩
  go_wp2_with fail
  go_ret3
  exact ⟨⟨v, rfl, HSL.out⟩, grb_down hg2 (by simp; omega) hz1 (hb1.alloc hz1 _)⟩
end Go.Proofs.YtbodkmeeceifoaaDoor
