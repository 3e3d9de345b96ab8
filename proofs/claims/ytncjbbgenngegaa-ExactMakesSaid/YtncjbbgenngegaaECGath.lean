/- Package exact: gather. -/
import Derived.Test.YtncjbbgenngegaaECCopy
import Derived.Sort.QuietIn
namespace Go.Proofs.Ytncjbbgenngegaa
open Go.RowKit Go.Shelf
attribute [local go_sem] Oper.semAt_some

set_option maxRecDepth 100000 in
/-- The closure place. -/
theorem place_any (L : List Nat) (x S : Nat) (v : Value) (w : World) (hS : HasC w S 22 #[v]) (hL : NumSl w v L) (hr : riseB L = true) (hn : L.length ≤ 1000) :
    Calls Try.prog 34 #[nV x, .pointer (some ⟨S, 0, none⟩)] w fun e w' => (∃ p : Nat, e = .returned (.tuple #[.int .i64 (p : Int), .bool (decide (x ∈ L))]) ∧ p ≤ L.length ∧ LoB L x p ∧ HiB L x p) ∧ Below w.heap.size w w' := by
  have F1 := Lib.hid (find_any L x v w hL hr hn)
  have c0 := hS.cell 0
  clear hS hL hr hn
  go_enter Try.func34, Try.ntmps34
  go_wp2_with fail
  with_reducible refine (F1.out).mono ?_
  rintro e w2 ⟨⟨p, rfl, h1, h2, h3⟩, hb⟩
  go_wp2_with fail
  go_ret2
  exact ⟨⟨p, rfl, h1, h2, h3⟩, hb⟩
/-- A list in a block that is neither below lo nor one of those from S to D + 1. -/
def RowG (lo S D : Nat) (w : World) (v : Value) (L : List Nat) : Prop :=
  (∃ a c, v = .slice a 0 c ∧ (a = none → c = 0) ∧ L = []) ∨ ∃ g o c, v = .slice (some ⟨g, o, none⟩) L.length c ∧ L.length ≤ c ∧ lo ≤ g ∧ g < w.heap.size ∧ (g < S ∨ D + 1 < g) ∧ ∀ j (hj : j < L.length), w.cell? ⟨g, o + j, none⟩ = some (nV L[j]) ∧ w.frozen? ⟨g, o + j, none⟩ = false
theorem RowG.f {lo S D : Nat} {w : World} {v : Value} {L : List Nat} (h : RowG lo S D w v L) : NumF lo w v L := by
  rcases h with h | ⟨g, o, c, h1, h2, h3, h4, _, h5⟩
  · exact .inl h
  · exact .inr ⟨g, o, c, h1, h2, h3, h4, h5⟩
theorem RowG.keep {lo S D : Nat} {w w' : World} {v : Value} {L : List Nat} (h : RowG lo S D w v L) (hz : w.heap.size ≤ w'.heap.size) (hb : ∀ b, b < w.heap.size → (b < S ∨ D + 1 < b) → w'.heap[b]? = w.heap[b]?) : RowG lo S D w' v L := by
  rcases h with h | ⟨g, o, c, h1, h2, h3, h4, h5, h6⟩
  · exact .inl h
  · refine .inr ⟨g, o, c, h1, h2, h3, by omega, h5, fun j hj => ?_⟩
    have hh := hb g h4 h5
    exact ⟨(World.cell?_of_block (a := ⟨g, o + j, none⟩) hh).trans (h6 j hj).1, (World.frozen?_of_block (a := ⟨g, o + j, none⟩) hh).trans (h6 j hj).2⟩
theorem RowG.below {lo S D : Nat} {w w' : World} {v : Value} {L : List Nat} (h : RowG lo S D w v L) (hb : Below w.heap.size w w') : RowG lo S D w' v L :=
  h.keep hb.size fun b h1 _ => hb.block b h1
theorem RowG.put {lo S D : Nat} {w : World} {v : Value} {L : List Nat} (h : RowG lo S D w v L) (hS : S ≤ D + 1) (o : Obj) : RowG lo S D (w.putObj (D + 1) o) v L :=
  h.keep (by simp) fun b _ h2 => World.putObj_heap_other (by omega)
theorem RowG.set {lo S D b : Nat} {w : World} {v : Value} {L : List Nat} (h : RowG lo S D w v L) (h1 : S ≤ b) (h2 : b ≤ D + 1) (u : Value) : RowG lo S D (w.setCell ⟨b, 0, none⟩ u) v L :=
  h.keep (by simp) fun b' _ h3 => Below.heap_setCell w ⟨b, 0, none⟩ u b' (by intro e; simp only at e; omega)
theorem RowG.new {lo S D : Nat} {w : World} {v : Value} {L : List Nat} (h : NumF (D + 2) w v L) (hlo : lo ≤ D + 2) : RowG lo S D w v L := by
  rcases h with h | ⟨g, o, c, h1, h2, h3, h4, h5⟩
  · exact .inl h
  · exact .inr ⟨g, o, c, h1, h2, by omega, h4, .inr (by omega), h5⟩

/-- One more number of a rising list. -/
theorem put_at {L : List Nat} {x p : Nat} (hr : riseB L = true) (hlo : LoB L x p) (hhi : HiB L x p) (hp : p ≤ L.length) (hx : x ∉ L) : L.take p ++ x :: L.drop p = putN x L := by
  induction L generalizing p with
  | nil => obtain rfl : p = 0 := by simpa using hp
           rfl
  | cons a t ih =>
    have hne : a ≠ x := fun e => hx (e ▸ List.mem_cons_self ..)
    unfold putN
    cases p with
    | zero =>
      have := hhi 0 (by simp) (Nat.le_refl _)
      simp only [List.getElem_cons_zero] at this
      rw [if_neg (by omega), if_neg hne]
      rfl
    | succ p =>
      have := hlo 0 (by simp) (by omega)
      simp only [List.getElem_cons_zero] at this
      rw [if_pos this, List.take_succ_cons, List.drop_succ_cons, List.cons_append]
      congr 1
      refine ih (rise_tail hr) (fun j hj h => ?_) (fun j hj h => ?_) (by simpa using hp) fun h => hx (List.mem_cons_of_mem _ h)
      · have := hlo (j + 1) (by simpa using hj) (by omega)
        simpa using this
      · have := hhi (j + 1) (by simpa using hj) (by omega)
        simpa using this
theorem put_mem {L : List Nat} {x : Nat} (hr : riseB L = true) (hx : x ∈ L) : putN x L = L :=
  rise_ext (rise_put x L hr) hr fun y => by rw [mem_put]; exact ⟨fun h => h.elim (fun e => e ▸ hx) id, .inr⟩
theorem put_len_new {L : List Nat} {x p : Nat} (h : L.take p ++ x :: L.drop p = putN x L) (hp : p ≤ L.length) : (putN x L).length = L.length + 1 := by
  rw [← h, List.length_append, List.length_cons, List.length_take, List.length_drop]; omega
theorem RowG.shape {lo S D : Nat} {w : World} {v : Value} {L : List Nat} (h : RowG lo S D w v L) : ∃ a c, v = .slice a L.length c := by
  rcases h with ⟨a, c, rfl, _, rfl⟩ | ⟨g, o, c, rfl, _⟩
  · exact ⟨_, _, rfl⟩
  · exact ⟨_, _, rfl⟩
set_option maxRecDepth 100000 in
/-- A closure laid into a new cell. -/
theorem store_place (W : World) (S : Nat) : (store ⟨W.heap.size, 0, none⟩ (.func (.func 34) #[] #[.pointer (some ⟨S, 0, none⟩)])).run Try.prog (W.alloc (.cells #[.nilFunc] 56)) = .ok () (W.alloc (.cells #[.func (.func 34) #[] #[.pointer (some ⟨S, 0, none⟩)]] 56)) := by
  rw [run_store Try.prog _ _ _ _ (by rfl), World.cell?_alloc_at _ _ _ _ rfl, World.frozen?_alloc_at _ _ _ _ rfl, World.setCell_alloc_at (hn := rfl)]
  rfl
/-- What gather answers. -/
def GatV (L M : List Nat) (B : Nat) (W : World) (v e : Value) : Prop :=
  (rightN L = true ∧ (ofN (L ++ M)).length ≤ 64 ∧ NumF B W v (ofN (L ++ M)) ∧ e = .nilIface) ∨
  ((rightN L = false ∨ 64 < (ofN (L ++ M)).length) ∧ (∃ a n c, v = .slice a n c) ∧ ∃ s, e = .iface 60 (.string s))
theorem NumF.slice {B : Nat} {W : World} {v : Value} {L : List Nat} (h : NumF B W v L) : ∃ a n c, v = .slice a n c := by
  rcases h with ⟨a, c, rfl, _⟩ | ⟨g, o, c, rfl, _⟩
  · exact ⟨_, _, _, rfl⟩
  · exact ⟨_, _, _, rfl⟩
set_option maxHeartbeats 4000000 in
set_option maxRecDepth 100000 in
theorem gather_in (n : Nat) (h3 : 3 ≤ n) (L M : List Nat) (v u : Value) (w : World) (hv : NumSl w v L) (hu : NumSl w u M) (hn : L.length ≤ 900) (hm : M.length ≤ 900) :
    CallsIn Fence.wide n Try.prog 28 #[.agg #[v], u] w fun e w' => (∃ x y, e = .returned (.tuple #[x, y]) ∧ GatV L M w.heap.size w' x y) ∧ Below w.heap.size w w' := by
  obtain ⟨i0, hi, hz0, hz1, hz2⟩ := partsE infoN
  have i1 := Lib.hid hi
  have i2 := Lib.hid hz0
  have i3 := Lib.hid hz1
  have i4 := Lib.hid hz2
  clear hi hz0 hz1 hz2
  have C1 := Lib.hid (fun W h => check_any L v W h (by omega))
  have HV := Lib.hid hv
  obtain ⟨ao, c, rfl, _⟩ := hv.shape
  obtain ⟨bo, d, rfl, hA⟩ := hu.at_
  have HU := Lib.hid hA
  obtain ⟨m, hmm⟩ : ∃ m, m = L.length := ⟨_, rfl⟩
  obtain ⟨q, hqq⟩ : ∃ q, q = M.length := ⟨_, rfl⟩
  have HM := Lib.hid hmm
  have HQ := Lib.hid hqq
  rw [← hmm] at hn HV C1 ⊢
  rw [← hqq] at hm ⊢
  clear hv hu hA hmm hqq
  have hx0 := HasC.new w 24 #[.slice ao m c]
  have hb0 := (Below.refl w.heap.size w).alloc (Nat.le_refl _) (Obj.cells #[.slice ao m c] 24)
  have HX0 := Lib.hid hx0
  have HB0 := Lib.hid hb0
  clear hx0 hb0
  cases hr : rightN L with
  | false =>
    have HR := Lib.hid hr
    rw [hr] at C1
    clear hr
    refine callsIn_of_wp Try.func28 rfl trivial ?_ rfl
    simp only [Try.ntmps28, List.size_toArray, List.length_cons, List.length_nil, Nat.reduceAdd, Nat.reduceSub, Array.replicate_succ, Array.replicate_zero, List.push_toArray, List.append_toArray, List.nil_append, List.cons_append]
    gi_wp2
    refine wpIn_scope' ?_
    gi_wp2_with fail
    refine ⟨trivial, fun _ => by omega, ?_⟩
    refine (callsIn_wide.2 (C1.out _ (HV.out.below HB0.out))).mono ?_
    rintro e w1 ⟨⟨y, rfl, hy⟩, hb⟩
    have hb1 := HB0.out.trans (hb.mono HB0.out.size)
    rcases hy with ⟨hy, _⟩ | ⟨_, s, rfl⟩
    · cases hy
    · gi_wp2_with fail
      rw [Exit.noGoto_ret]
      go_ret2
      exact ⟨⟨_, _, rfl, .inr ⟨.inl HR.out, ⟨_, _, _, rfl⟩, _, rfl⟩⟩, hb1⟩
  | true =>
    have HR := Lib.hid hr
    rw [hr] at C1
    clear hr
    refine callsIn_of_wp_marks Try.func28 rfl trivial ?_ rfl
    simp only [Try.ntmps28, List.size_toArray, List.length_cons, List.length_nil, Nat.reduceAdd, Nat.reduceSub, Array.replicate_succ, Array.replicate_zero, List.push_toArray, List.append_toArray, List.nil_append, List.cons_append]
    gi_wp2
    refine wpIn_scope' ?_
    gi_wp2_with fail
    refine ⟨trivial, fun _ => by omega, ?_⟩
    refine (callsIn_wide.2 (C1.out _ (HV.out.below HB0.out))).mono ?_
    rintro e w1 ⟨⟨y, rfl, hy⟩, hb⟩
    have hb1 := HB0.out.trans (hb.mono HB0.out.size)
    have hx1 := HX0.out.below hb (by simp)
    have hlt1 := hx1.lt
    clear hb
    rcases hy with ⟨_, rfl⟩ | ⟨hy, _⟩
    · have cx := hx1.cell 0
      have hv1 := HV.out.below hb1
      gi_wp2_with (first
        | (gi_at_make; refine wpListIn_make_full _ rfl (.tmp 21) (.tmp 21) 22 rfl w1.heap.size 25 i0 (.int .u64 0) 1 Try.underlying22 i1.out i2.out i3.out .i64 .i64 _ _ m rfl rfl rfl rfl (by rw [i4.out]; omega) (by unfold maxLen; omega) (by omega) ?_; intro w2 hown2 hgrow2; have hb12 := (Below.refl w1.heap.size w1).grown hgrow2 (Nat.le_refl _) (fun k hk => by cases hk); have hx2 := hx1.below hb12 hx1.lt; have hb2 := hb1.trans (hb12.mono hb1.size); have hz2 := hgrow2.size; have c2 := (hx2.alloc (Obj.cells #[.slice (some ⟨w1.heap.size, 0, none⟩) m m] 22)).cell 0; have HO2 := Lib.hid hown2; have HX2 := Lib.hid hx2; clear hown2 hgrow2 cx hx2)
        | (refine wpListIn_copyN _ rfl (.tmp 23) (.tmp 25) rfl w1.heap.size w1.heap.size m _ rfl (HO2.out.alloc _) (.slice ao m c) L rfl (HV.out.below (hb2.alloc (by omega) _)) HM.out.symm ?_; intro w3 hown3 hgrow3; have hst := store_place w3 w2.heap.size; have HO3 := Lib.hid hown3; have HG3 := Lib.hid hgrow3; clear hown3 hgrow3))
      refine wpIn_label ?_
      gi_wp2_with fail
      have hlt2 : w1.heap.size < w2.heap.size := (HO2.out.lt _ rfl).2
      have hlt3 : w2.heap.size + 1 ≤ w3.heap.size := by have := HG3.out.size; simpa using this
      have hb3 : Below w.heap.size w w3 := (hb2.alloc (by omega) _).grown HG3.out (by simp; omega) (fun k hk => by cases hk; omega)
      have hS3 : HasC w3 w2.heap.size 22 #[.slice (some ⟨w1.heap.size, 0, none⟩) m m] := (HG3.out.block w2.heap.size (by simp) (by simp; omega)).trans (HasC.new w2 _ _)
      have hr3 : NumF w1.heap.size w3 (.slice (some ⟨w1.heap.size, 0, none⟩) m m) L := numF_of_owns (by rw [← HM.out]; exact HO3.out)
      refine ⟨trivial, fun _ => by omega, ?_⟩
      refine (callsIn_wide.2 (each_any _ _ _ _)).mono ?_
      rintro e w4 ⟨rfl, rfl⟩
      gi_wp2_with fail
      obtain ⟨W0, hW0⟩ : ∃ W0, W0 = ((w3.alloc (.cells #[.func (.func 34) #[] #[.pointer (some ⟨w2.heap.size, 0, none⟩)]] 56)).alloc (.cells #[.nilIface] 48)).alloc (.cells #[.slice bo q d] 22) := ⟨_, rfl⟩
      have hz0 : W0.heap.size = w3.heap.size + 3 := by rw [hW0]; simp
      have hb0 : Below w.heap.size w W0 := by
        rw [hW0]
        exact (((hb3.alloc (by omega) _).alloc (by simp; omega) _).alloc (by simp; omega) _)
      have hb30 : Below w3.heap.size w3 W0 := by
        rw [hW0]
        exact (((Below.refl _ w3).alloc (Nat.le_refl _) _).alloc (by simp) _).alloc (by simp; omega) _
      have hS0 : HasC W0 w2.heap.size 22 #[.slice (some ⟨w1.heap.size, 0, none⟩) m m] := hS3.below hb30 hS3.lt
      have hF0 : HasC W0 w3.heap.size 56 #[.func (.func 34) #[] #[.pointer (some ⟨w2.heap.size, 0, none⟩)]] := by rw [hW0]; exact ((HasC.new w3 _ _).alloc _).alloc _
      have hE0 : HasC W0 (w3.heap.size + 1) 48 #[.nilIface] := by rw [hW0]; exact (HasC.at_ _ _ _ (by simp)).alloc _
      have hB0 : HasC W0 (w3.heap.size + 2) 22 #[.slice bo q d] := by rw [hW0]; exact HasC.at_ _ _ _ (by simp)
      have hG0 : RowG w.heap.size w2.heap.size W0.heap.size W0 (.slice (some ⟨w1.heap.size, 0, none⟩) m m) L := by
        rcases hr3 with h | ⟨g, o, c', h1, h2, h3, h4, h5⟩
        · exact .inl h
        · simp only [Value.slice.injEq, Option.some.injEq, Addr.mk.injEq] at h1
          obtain ⟨⟨hg, ho, _⟩, _, hc⟩ := h1
          subst hg ho hc
          refine .inr ⟨w1.heap.size, 0, m, by rw [HM.out], h2, by omega, by omega, .inl hlt2, fun j hj => ?_⟩
          have hh := hb30.block w1.heap.size h4
          exact ⟨(World.cell?_of_block (a := ⟨w1.heap.size, 0 + j, none⟩) hh).trans (h5 j hj).1, (World.frozen?_of_block (a := ⟨w1.heap.size, 0 + j, none⟩) hh).trans (h5 j hj).2⟩
      rw [← hW0]
      have HZ0 := Lib.hid hz0
      have hb0s := Lib.hid hb0.size
      clear hW0 hz0 hr3 hS3 hb3 hb30 c2 hv1 hx1
      have hL64 := right_parts HR.out
      have hrise := Lib.hid hL64.1
      have hoL := of_rise hL64.1
      refine range_each (Bn := w3.heap.size + 2) (c := d) (ao := bo) (L := M) (by omega) rfl rfl (by have := HQ.out; omega) w.heap.size
        (fun k W => HasC W (w3.heap.size + 2) 22 #[.slice bo q d] ∧ Below w.heap.size w W ∧ HasC W w3.heap.size 56 #[.func (.func 34) #[] #[.pointer (some ⟨w2.heap.size, 0, none⟩)]] ∧ HasC W (w3.heap.size + 1) 48 #[.nilIface] ∧
          ∃ sv A, HasC W w2.heap.size 22 #[sv] ∧ RowG w.heap.size w2.heap.size W0.heap.size W sv A ∧ A = ofN (L ++ M.take k) ∧ A.length ≤ 64)
        (fun j W => j = .exit 0 ∧ Below w.heap.size w W ∧ (∃ a n c, HasC W w2.heap.size 22 #[.slice a n c]) ∧ (∃ s, HasC W (w3.heap.size + 1) 48 #[.iface 60 (.string s)]) ∧ 64 < (ofN (L ++ M)).length)
        (fun k W h => ⟨by rw [← HQ.out]; exact h.1.cell 0, HU.out.below h.2.1⟩) ?_ ?_ ?_ ?_ ?_ ?_
      · rintro k W o ⟨hB, hbw, hF, hE, sv, A, hS, hG, hA, h64⟩
        have hz := HZ0.out
        exact ⟨hB.put (by omega) o, below_put hbw _ o (by omega), hF.put (by omega) o, hE.put (by omega) o, sv, A, hS.put (by omega) o, hG.put (by omega) o, hA, h64⟩
      · rintro j W o ⟨hj, hbw, ⟨a, n', c', hS⟩, ⟨s, hE⟩, h64⟩
        have hz := HZ0.out
        exact ⟨hj, below_put hbw _ o (by omega), ⟨a, n', c', hS.put (by omega) o⟩, ⟨s, hE.put (by omega) o⟩, h64⟩
      · intro o
        have hk : Below W0.heap.size W0 ((W0.alloc (.deferred (some []))).alloc o) := ((Below.refl _ W0).alloc (Nat.le_refl _) _).alloc (by simp) _
        exact ⟨hB0.below hk hB0.lt, hb0.trans (hk.mono hb0.size), hF0.below hk hF0.lt, hE0.below hk hE0.lt, _, L, hS0.below hk hS0.lt, hG0.below hk, by rw [List.take_zero, List.append_nil, hoL], hL64.2⟩
      · rintro k hk W ⟨hB, hbw, hF, hE, sv, A, hS, hG, hA, h64⟩ rd bz hL
        clear hB0 hb0 hF0 hE0 hS0 hG0 hL64 hoL
        obtain ⟨x, hx⟩ : ∃ x, M[k] = x := ⟨_, rfl⟩
        have hnext : ofN (L ++ M.take (k + 1)) = putN x A := by
          rw [List.take_succ_eq_append_getElem hk, ← List.append_assoc, of_snoc, hx, hA]
        have hAr : riseB A = true := by rw [hA]; exact rise_of _
        have HX := Lib.hid hx
        have HN := Lib.hid hnext
        have HA := Lib.hid hAr
        have hLt := hL.lt
        have hz := HZ0.out
        rw [hx]
        unfold encE
        clear hx hnext hAr hA
        gi_wp2_with fail
        refine ⟨hL, ?_⟩
        have hB1 := hB.put (L := W0.heap.size + 1) (by omega) bz
        have hF1 := hF.put (L := W0.heap.size + 1) (by omega) bz
        have hE1 := hE.put (L := W0.heap.size + 1) (by omega) bz
        have hS1 := hS.put (L := W0.heap.size + 1) (by omega) bz
        have hG1 := hG.put (by omega) bz
        have hL1 := hL.put bz
        have hbw1 := below_put hbw (W0.heap.size + 1) bz (by omega)
        have hVs : W0.heap.size + 1 < (W.putObj (W0.heap.size + 1) bz).heap.size := by simpa using hLt
        generalize W.putObj (W0.heap.size + 1) bz = V at hB1 hF1 hE1 hS1 hG1 hL1 hbw1 hVs
        have HZ := Lib.hid hz
        clear hB hF hE hS hG hL hbw hLt hz
        have cf := hF1.cell 0
        have P1 := Lib.hid (fun W hS hL => place_any A x w2.heap.size sv W hS hL HA.out (by omega))
        gi_wp2_with fail
        refine ⟨trivial, fun _ => by omega, ?_⟩
        refine (CallsIn.inRound _ (callsIn_wide.2 (P1.out _ hS1 hG1.f.sl))).mono ?_
        rintro e V2 ⟨⟨p, rfl, hp, hlo, hhi⟩, hb2⟩
        have hB2 := hB1.below hb2 hB1.lt
        have hF2 := hF1.below hb2 hF1.lt
        have hE2 := hE1.below hb2 hE1.lt
        have hS2 := hS1.below hb2 hS1.lt
        have hG2 := hG1.below hb2
        have hL2 := hL1.below hb2 hVs
        have hbw2 := hbw1.trans (hb2.mono hbw1.size)
        have hV2 := hb2.size
        clear hB1 hF1 hE1 hS1 hG1 hL1 hbw1 hb2 cf P1
        by_cases hin : x ∈ A
        · have hnx : putN x A = A := put_mem HA.out hin
          have HNX := Lib.hid hnx
          rw [decide_eq_true hin]
          clear hnx hin hlo hhi
          gi_wp2_with fail
          exact ⟨hL2, hB2, hbw2, hF2, hE2, sv, A, hS2, hG2, by rw [HN.out, HNX.out], h64⟩
        · have hpa := put_at HA.out hlo hhi hp hin
          have hpl := put_len_new hpa hp
          have HPA := Lib.hid hpa
          have HPL := Lib.hid hpl
          rw [decide_eq_false hin]
          obtain ⟨sa, sc, rfl⟩ := hG2.shape
          have U1 := Lib.hid (put_any A x p (.slice sa A.length sc) V2 hG2.f.sl hp (by omega))
          obtain ⟨na, hna⟩ : ∃ na, na = A.length := ⟨_, rfl⟩
          have HNA := Lib.hid hna
          rw [← hna] at hS2 hG2 h64 hp U1
          clear hpa hpl hlo hhi hin hna
          have cs := hS2.cell 0
          by_cases hfull : na = 64
          · subst hfull
            have cz := hE2.cell 0
            have zz := hE2.frozen 0
            have h65 : 64 < (ofN (L ++ M)).length := by
              have h1 : (ofN (L ++ M.take (k + 1))).length ≤ (ofN (L ++ M)).length := of_mono fun y hy => by
                rcases List.mem_append.1 hy with h | h
                · exact List.mem_append.2 (.inl h)
                · exact List.mem_append.2 (.inr (List.mem_of_mem_take h))
              rw [HN.out, HPL.out, ← HNA.out] at h1
              exact h1
            have H65 := Lib.hid h65
            clear h65
            gi_wp2_with fail
            have hz := HZ.out
            exact ⟨hL2.set _ _ (by simp; omega) (by simp; omega), rfl, hbw2.setCell (p := ⟨w3.heap.size + 1, 0, none⟩) (by simp; omega) _, ⟨_, _, _, hS2.far _ _ (by simp; omega)⟩, ⟨_, (hE2.set 0 _).eq rfl⟩, H65.out⟩
          · have hfull' : ¬ (na : Int) = 64 := by omega
            gi_wp2_with fail
            refine ⟨trivial, fun _ => by omega, ?_⟩
            refine (CallsIn.inRound _ (callsIn_wide.2 U1.out)).mono ?_
            rintro e V3 ⟨⟨v3, rfl, hown⟩, hb3⟩
            have hB3 := hB2.below hb3 hB2.lt
            have hF3 := hF2.below hb3 hF2.lt
            have hE3 := hE2.below hb3 hE2.lt
            have hS3 := hS2.below hb3 hS2.lt
            have hL3 := hL2.below hb3 (by omega)
            have hbw3 := hbw2.trans (hb3.mono hbw2.size)
            have hG3 : RowG w.heap.size w2.heap.size W0.heap.size V3 v3 (putN x A) := by
              refine RowG.new (numF_of_owns ?_) (by have := hb0s.out; omega)
              rw [HPL.out, ← HNA.out, ← HPA.out]
              exact owns_mono hown (by omega)
            have HG3 := Lib.hid hG3
            have c3 := hS3.cell 0
            have z3 := hS3.frozen 0
            obtain ⟨sa3, sc3, rfl⟩ := hG3.shape
            clear hB2 hF2 hE2 hS2 hL2 hbw2 hG2 hb3 hown cs U1 hG3
            gi_wp2_with fail
            have hz := HZ.out
            refine ⟨hL3.set _ _ (by simp; omega) (by simp; omega), hB3.far _ _ (by simp; omega), hbw3.setCell (p := ⟨w2.heap.size, 0, none⟩) (by simp; omega) _, hF3.far _ _ (by simp; omega), hE3.far _ _ (by simp; omega), _, putN x A, (hS3.set 0 _).eq rfl, HG3.out.set (Nat.le_refl _) (by omega) _, HN.out.symm, by rw [HPL.out, ← HNA.out]; omega⟩
      · rintro W ⟨hB, hbw, hF, hE, sv, A, hS, hG, hA, h64⟩ hK
        have c1 := hS.cell 0
        have c2 := hE.cell 0
        have hK1 : ∀ j, (W.drewN j).heap[W0.heap.size]? = some (.deferred (some [])) := fun j => hK
        gi_wp2_with fail
        gi_quiet (fail)
        gi_wp2_with fail
        rw [Exit.noGoto_ret]
        refine ⟨by simp, .inl ⟨_, _, rfl, run_takeDeferred (b := W0.heap.size) (hK1 nq), ?_⟩⟩
        have hz := HZ0.out
        rw [List.take_of_length_le (Nat.le_refl _)] at hA
        refine ⟨_, results_tmp2 rfl _ _ _, ⟨_, _, rfl, .inl ⟨HR.out, by rw [← hA]; exact h64, ?_, rfl⟩⟩, below_put (bel_drewN hbw _) _ _ (by omega)⟩
        rw [← hA]
        have hG2 : RowG w.heap.size w2.heap.size W0.heap.size ((W.drewN nq).putObj W0.heap.size (.deferred none)) sv A :=
          hG.keep (by simp [World.drewN]) fun b _ h2 => (World.putObj_heap_other (by omega)).trans rfl
        exact hG2.f
      · rintro j W ⟨rfl, hbw, ⟨a, n', c', hS⟩, ⟨s, hE⟩, h64⟩ hK
        have c1 := hS.cell 0
        have c2 := hE.cell 0
        have hK1 : ∀ j, (W.drewN j).heap[W0.heap.size]? = some (.deferred (some [])) := fun j => hK
        gi_wp2_with fail
        gi_quiet (fail)
        gi_wp2_with fail
        rw [Exit.noGoto_ret]
        refine ⟨by simp, .inl ⟨_, _, rfl, run_takeDeferred (b := W0.heap.size) (hK1 nq), ?_⟩⟩
        have hz := HZ0.out
        exact ⟨_, results_tmp2 rfl _ _ _, ⟨_, _, rfl, .inr ⟨.inr h64, ⟨_, _, _, rfl⟩, _, rfl⟩⟩, below_put (bel_drewN hbw _) _ _ (by omega)⟩
    · cases hy
theorem gather_any (L M : List Nat) (v u : Value) (w : World) (hv : NumSl w v L) (hu : NumSl w u M) (hn : L.length ≤ 900) (hm : M.length ≤ 900) :
    Calls Try.prog 28 #[.agg #[v], u] w fun e w' => (∃ x y, e = .returned (.tuple #[x, y]) ∧ GatV L M w.heap.size w' x y) ∧ Below w.heap.size w w' :=
  callsIn_wide.1 (gather_in 5 (by decide) L M v u w hv hu hn hm)
end Go.Proofs.Ytncjbbgenngegaa
