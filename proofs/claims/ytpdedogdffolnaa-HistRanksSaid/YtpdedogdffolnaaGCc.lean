/- Package hist: how many values are in each bucket, in a map. Package hist: put. An iterator that has blocks of its own, which a body does not touch; a range over it. Package hist: how many values are in the buckets up to each one: the iterator. Package hist: the buckets, rising: the iterator. -/
import Derived.Test.YtpdedogdffolnaaGCb
import Derived.Maps.RangeWalk
import Derived.Maps.OwnSet
import Derived.Maps.OwnIn
namespace Go.Proofs.Ytpdedogdffolnaa
open Go.RowKit

theorem gKeyed : Maps.Keyed Try.prog 3 := Maps.int_keyed Try.underlying3
theorem gKey {a : Int} (h0 : 0 ≤ a) (h : a ≤ 1000) : keyOf Try.prog 3 (.int .i64 a) = some (.int .i64 a) := Maps.keyOf_int_mk Try.underlying3 (WalkArith.wf_i64 (by omega))
theorem gNodup : ∀ (m : Nat) (l : List Nat), l.Nodup → (∀ x ∈ l, x < m) → l.length ≤ m := by
  intro m
  induction m with
  | zero => intro l _ h; cases l with
    | nil => exact Nat.le_refl _
    | cons x l => exact absurd (h x (List.mem_cons_self ..)) (by omega)
  | succ m ih =>
    intro l hn h
    by_cases hm : m ∈ l
    · have := ih (l.erase m) (hn.erase m) fun x hx => by
        have h1 := (hn.mem_erase_iff).1 hx
        have := h x h1.2
        have := h1.1
        omega
      rw [List.length_erase_of_mem hm] at this
      omega
    · have := ih l hn fun x hx => by
        have := h x hx
        have : x ≠ m := fun e => hm (e ▸ hx)
        omega
      omega
/-- How many are in a bucket. -/
def cntB (L : List Bn) (a : Int) : Nat := sumP (fun b => decide (b = a)) L
theorem cnt_nil' (a : Int) : cntB [] a = 0 := rfl
theorem cnt_le' {L : List Bn} (h : RiseG L) (a : Int) : cntB L a ≤ topN := sum_top h a
theorem cnt_pos {L : List Bn} {a : Int} (h : cntB L a ≠ 0) : ∃ x ∈ L, x.1 = a := by
  by_cases hx : ∃ x ∈ L, x.1 = a
  · exact hx
  · exact absurd (sum_none (fun y hy he => hx ⟨y, hy, he⟩)) h
theorem cnt_mem {L : List Bn} (h : RiseG L) : ∀ x ∈ L, cntB L x.1 = x.2 := by
  induction L with
  | nil => intro x hx; cases hx
  | cons y t ih =>
    intro x hx
    rcases List.mem_cons.1 hx with rfl | hx
    · exact sum_head h
    · have hlt := h.1 x hx
      have := ih h.tail x hx
      unfold cntB at this ⊢
      simp only [sumP]
      rw [if_neg (fun e => by have := of_decide_eq_true e; omega), Nat.zero_add]
      exact this
theorem cnt_put {L : List Bn} (h : RiseG L) (a : Int) {n : Nat} (hn : n ≤ topN) (a' : Int) : cntB (putBn L a n) a' = if a' = a then plusS (cntB L a) n else cntB L a' := by
  have h1 := put_sum (fun b => decide (b = a')) L a n
  have h2 := cnt_le' (putBn_rise h a hn) a'
  have h3 := cnt_le' h a'
  unfold cntB at h2 h3 ⊢
  by_cases e : a' = a
  · subst e
    rw [if_pos rfl]
    simp only [decide_true, if_true] at h1
    unfold plusS
    omega
  · rw [if_neg e]
    have : decide (a = a') = false := decide_eq_false (fun x => e x.symm)
    rw [this] at h1
    simp only [Bool.false_eq_true, if_false] at h1
    omega
/-- A bucket less. -/
def delBn (L : List Bn) (a : Int) : List Bn := L.filter fun x => decide (x.1 ≠ a)
theorem del_mem {L : List Bn} {a : Int} {x : Bn} (h : x ∈ delBn L a) : x ∈ L := (List.mem_filter.1 h).1
theorem del_rise {L : List Bn} (h : RiseG L) (a : Int) : RiseG (delBn L a) := by
  induction L with
  | nil => trivial
  | cons y t ih =>
    unfold delBn
    by_cases e : y.1 = a
    · rw [List.filter_cons_of_neg (by simp [e])]
      exact ih h.tail
    · rw [List.filter_cons_of_pos (by simp [e])]
      exact ⟨fun z hz => h.1 z (del_mem (a := a) hz), h.2.1, h.2.2.1, ih h.tail⟩
theorem cnt_del (L : List Bn) (a a' : Int) : cntB (delBn L a) a' = if a' = a then 0 else cntB L a' := by
  unfold delBn cntB
  induction L with
  | nil => simp [sumP]
  | cons y t ih =>
    by_cases e : y.1 = a
    · rw [List.filter_cons_of_neg (by simp [e]), ih]
      by_cases e2 : a' = a
      · rw [if_pos e2, if_pos e2]
      · rw [if_neg e2, if_neg e2]
        simp only [sumP]
        rw [if_neg (fun e3 => by have := of_decide_eq_true e3; omega), Nat.zero_add]
    · rw [List.filter_cons_of_pos (by simp [e])]
      simp only [sumP]
      rw [ih]
      by_cases e2 : a' = a
      · rw [if_pos e2, if_pos e2, if_neg (fun e3 => by have := of_decide_eq_true e3; omega)]
      · rw [if_neg e2, if_neg e2]
/-- Buckets that may be keys. -/
def KeysB (L : List Bn) : Prop := ∀ x ∈ L, 0 ≤ x.1 ∧ x.1 ≤ 1000
theorem KeysB.put {L : List Bn} (h : KeysB L) {a : Int} (h0 : 0 ≤ a) (h1 : a ≤ 1000) (n : Nat) : KeysB (putBn L a n) := fun x hx => by
  rcases putBn_mem hx with e | e
  · rw [e]; exact ⟨h0, h1⟩
  · exact h x e
theorem KeysB.del {L : List Bn} (h : KeysB L) (a : Int) : KeysB (delBn L a) := fun x hx => h x (del_mem hx)
/-- What the map in a block reads as. -/
def CtD (D : DataW Unit) (L : List Bn) : Prop := (∀ kl, Maps.has D kl = true ↔ ∃ a : Int, kl = .int .i64 a ∧ cntB L a ≠ 0) ∧ ∀ a : Int, D.atKey (.int .i64 a) (.lit (.int .u64 0)) = .lit (.int .u64 (cntB L a : Int))
/-- Block b is a map of these buckets. -/
def CtM (W : World) (b : Nat) (L : List Bn) : Prop := RiseG L ∧ KeysB L ∧ ∃ D, W.ownsMap Try.prog 3 (plainElem (H := Unit) Try.prog 22) b 1001 D ∧ CtD D L
theorem CtM.lt {W : World} {b : Nat} {L : List Bn} (h : CtM W b L) : b < W.heap.size := by obtain ⟨_, _, D, h, _⟩ := h; exact h.lt
theorem CtM.of_block {W W' : World} {b : Nat} {L : List Bn} (h : CtM W b L) (hb : W'.heap[b]? = W.heap[b]?) : CtM W' b L := by
  obtain ⟨h1, h2, D, ⟨es, clock, hh, F, hs, hD⟩, h4⟩ := h
  exact ⟨h1, h2, D, ⟨es, clock, hb.trans hh, F, hs, hD⟩, h4⟩
theorem CtM.below {W W' : World} {B b : Nat} {L : List Bn} (h : CtM W b L) (hb : Below B W W') (hB : b < B) : CtM W' b L := h.of_block (hb.block b hB)
theorem ctM_made (W : World) : CtM (W.alloc (.map #[] 0)) W.heap.size [] :=
  ⟨trivial, (fun x hx => by cases hx), .map [], (World.ownsMap_made W _ _ _).mono (Nat.zero_le _), ⟨fun kl => ⟨fun h => by simp [Maps.has] at h, fun ⟨_, _, h⟩ => absurd (cnt_nil' _) h⟩, fun a => rfl⟩⟩
theorem gRenorm {H : Type} {P : Program} {k : TypeId} {R : Value → Option (DataW H × List MemPlace)} {w : World} {b n : Nat} {D : DataW H} (h : w.ownsMap P k R b n D) : w.ownsMap P k R b (Maps.size D) D := by
  obtain ⟨es, clock, hb, F, _, rfl⟩ := h
  exact ⟨es, clock, hb, F, by rw [Maps.size_eq, length_read]; exact Nat.le_refl _, rfl⟩
theorem gSize {w : World} {b n m : Nat} {D : DataW Unit} (h : w.ownsMap Try.prog 3 (plainElem (H := Unit) Try.prog 22) b n D) (hk : ∀ kl, Maps.has D kl = true → ∃ k : Nat, kl = .int .i64 (k : Int) ∧ k ≤ m) : Maps.size D ≤ m + 1 := by
  obtain ⟨es, rfl, hp, hkey⟩ := h.entries gKeyed
  rw [Maps.size_eq]
  have hnum : ∀ p ∈ es, ∃ k : Nat, p.1 = .int .i64 (k : Int) ∧ k ≤ m := fun p hpm => hk p.1 (List.any_eq_true.2 ⟨p, hpm, WideAt.sameKey_self (hkey p hpm)⟩)
  let f : Lit × DataW Unit → Nat := fun p => match p.1 with | .int _ k => k.toNat | _ => 0
  have hl : (es.map f).length ≤ m + 1 := by
    refine gNodup _ _ ?_ ?_
    · refine List.pairwise_map.2 (List.Pairwise.imp_of_mem ?_ hp)
      intro p q hpm hqm hne he
      obtain ⟨k, e1, _⟩ := hnum p hpm
      obtain ⟨j, e2, _⟩ := hnum q hqm
      have h1 : f p = k := by simp [f, e1]
      have h2 : f q = j := by simp [f, e2]
      rw [h1, h2] at he
      exact hne (by rw [e1, e2, he])
    · intro x hx
      obtain ⟨p, hpm, rfl⟩ := List.mem_map.1 hx
      obtain ⟨k, e1, hk⟩ := hnum p hpm
      have h1 : f p = k := by simp [f, e1]
      omega
  rwa [List.length_map] at hl
theorem gKey_lit {a : Int} : WideAt.IsKeyLit (.int .i64 a) := trivial
theorem ct_keys {D : DataW Unit} {L : List Bn} (h : CtD D L) (hk : KeysB L) (kl : Lit) (h1 : Maps.has D kl = true) : ∃ k : Nat, kl = .int .i64 (k : Int) ∧ k ≤ 1000 := by
  obtain ⟨a, rfl, ha⟩ := (h.1 kl).1 h1
  obtain ⟨x, hx, rfl⟩ := cnt_pos ha
  obtain ⟨h2, h3⟩ := hk x hx
  exact ⟨x.1.toNat, by congr 1; omega, by omega⟩
/-- The number in a bucket, read. -/
theorem ctM_look {W : World} {b : Nat} {L : List Bn} (h : CtM W b L) {a : Int} (h0 : 0 ≤ a) (h1 : a ≤ 1000) : (Instr.lookup 93 (.map (some b)) (.int .i64 a) false).run Try.prog W = .ok (gV (cntB L a)) W := by
  obtain ⟨_, _, D, hown, hD⟩ := h
  obtain ⟨c, hrun, hat, _⟩ := hown.lookup_int gKeyed Try.underlying93 Try.underlying22 (Try.zeroValue22 W) (gKey h0 h1)
  rw [hrun]
  rw [hD.2 a] at hat
  simp only [DataW.lit.injEq, Lit.int.injEq, true_and] at hat
  rw [← hat]
/-- More in a bucket, at the operation. -/
theorem wpListIn_gput {F : Fence} {m : Nat} {W : World} {ops : Array Oper} {rest : List Oper} {o : Oper} {a : Act} {Q : Exit → Act → World → Prop} (hg : o.guard = none) (mo xo vo : Operand)
    (hop : o.op = Op.mapUpdate 93 mo xo vo) {b : Nat} {L : List Bn} (hm : a.eval mo = .map (some b)) (hM : CtM W b L) (k : Int) (n : Nat) (hx : a.eval xo = .int .i64 k) (hv : a.eval vo = gV (plusS (cntB L k) n)) (hk0 : 0 ≤ k) (hk : k ≤ 1000) (hn0 : n ≠ 0) (hn : n ≤ topN)
    (h : ∀ W', CtM W' b (putBn L k n) → W.grownBy W' (some b) → wpListIn F m Try.prog ops Q rest (a.put o.dst undef) W') : wpListIn F m Try.prog ops Q (o :: rest) a W := by
  obtain ⟨hr, hkb, D, hown, hD⟩ := hM
  have hp0 : plusS (cntB L k) n ≠ 0 := by unfold plusS; omega
  refine wpListIn_mapUpdate_own W hg mo xo vo 93 hop 3 22 gKeyed Try.underlying93 (plainElem (H := Unit) Try.prog 22) b _ D hm hown (by unfold maxLen; omega) _ _ (.int .i64 k) hx hv (gKey hk0 hk) (.lit (.int .u64 (plusS (cntB L k) n : Int))) [] (plainElem_int Try.underlying22 (WalkArith.wf_u64 (by have := plus_le (cntB L k) n; have ht : topN = 18446744073709551615 := rfl; omega))) fun W' h1 h2 => h W' ?_ h2
  have hc := cnt_put hr k hn
  have hD' : CtD (D.put (.int .i64 k) (.lit (.int .u64 (plusS (cntB L k) n : Int)))) (putBn L k n) := by
    constructor
    · intro kl
      by_cases he : kl = .int .i64 k
      · rw [he, Maps.has_put_same hown.isMap gKey_lit]
        exact ⟨fun _ => ⟨k, rfl, by rw [hc k, if_pos rfl]; exact hp0⟩, fun _ => rfl⟩
      · rw [Maps.has_put_other he, hD.1]
        constructor
        · rintro ⟨j, e, h1⟩
          exact ⟨j, e, by rw [hc j, if_neg (fun e2 => he (by rw [e, e2]))]; exact h1⟩
        · rintro ⟨j, e, h1⟩
          rw [hc j, if_neg (fun e2 => he (by rw [e, e2]))] at h1
          exact ⟨j, e, h1⟩
    · intro j
      by_cases he : j = k
      · subst he
        rw [Maps.atKey_put_same hown.isMap gKey_lit, hc j, if_pos rfl]
      · rw [Maps.atKey_put_other (fun e => he (by cases e; rfl)), hD.2 j, hc j, if_neg he]
  have hkb' := hkb.put hk0 hk n
  exact ⟨putBn_rise hr k hn, hkb', _, (gRenorm h1).mono (gSize h1 (ct_keys hD' hkb')), hD'⟩
/-- A bucket less, at the operation. -/
theorem wpListIn_gdel {F : Fence} {m : Nat} {W : World} {ops : Array Oper} {rest : List Oper} {o : Oper} {a : Act} {Q : Exit → Act → World → Prop} (hg : o.guard = none) (mo xo : Operand)
    (hop : o.op = Op.call { callee := Callee.builtin Builtin.delete, args := #[mo, xo], argTypes := #[93, 3] }) {b : Nat} {L : List Bn} (hm : a.eval mo = .map (some b)) (hM : CtM W b L) (k : Int) (hx : a.eval xo = .int .i64 k) (hk0 : 0 ≤ k) (hk : k ≤ 1000)
    (h : ∀ W', CtM W' b (delBn L k) → W.grownBy W' (some b) → wpListIn F m Try.prog ops Q rest (a.put o.dst (.tuple #[])) W') : wpListIn F m Try.prog ops Q (o :: rest) a W := by
  obtain ⟨hr, hkb, D, hown, hD⟩ := hM
  refine wpListIn_delete_own W hg mo xo 93 3 hop 22 gKeyed Try.underlying93 (plainElem (H := Unit) Try.prog 22) b _ D hm hown _ (.int .i64 k) hx (gKey hk0 hk) fun W' h1 h2 => h W' ⟨del_rise hr k, hkb.del k, _, h1, ?_⟩ h2.grown
  have hc := cnt_del L k
  constructor
  · intro kl
    by_cases he : kl = .int .i64 k
    · rw [he, Maps.has_del_same]
      constructor
      · intro e; cases e
      · rintro ⟨j, e, h1⟩
        simp only [Lit.int.injEq, true_and] at e
        rw [hc j, if_pos e.symm] at h1
        exact absurd rfl h1
    · rw [Maps.has_del_other he, hD.1]
      constructor
      · rintro ⟨j, e, h1⟩
        exact ⟨j, e, by rw [hc j, if_neg (fun e2 => he (by rw [e, e2]))]; exact h1⟩
      · rintro ⟨j, e, h1⟩
        rw [hc j, if_neg (fun e2 => he (by rw [e, e2]))] at h1
        exact ⟨j, e, h1⟩
  · intro j
    by_cases he : j = k
    · subst he
      rw [Maps.atKey_del_same, hc j, if_pos rfl]
      rfl
    · rw [Maps.atKey_del_other (fun e => he (by cases e; rfl)), hD.2 j, hc j, if_neg he]
/-- Its keys, rising. -/
theorem ct_sorted {W : World} {b : Nat} {L : List Bn} {D : DataW Unit} (hr : RiseG L) (hown : W.ownsMap Try.prog 3 (plainElem (H := Unit) Try.prog 22) b 1001 D) (hD : CtD D L) {ss : List Int} (hp : ss.Perm (intKeys D)) : ss.mergeSort (fun x y => decide (x ≤ y)) = L.map (·.1) := by
  obtain ⟨es, rfl, hpw, _⟩ := hown.entries gKeyed
  have hsort : (L.map (·.1)).Pairwise (fun a b => a < b) := by
    clear hD hp
    induction L with
    | nil => exact List.Pairwise.nil
    | cons y t ih =>
      rw [List.map_cons]
      refine List.Pairwise.cons (fun z hz => ?_) (ih hr.tail)
      obtain ⟨x, hx, rfl⟩ := List.mem_map.1 hz
      exact hr.1 x hx
  have hk : ∀ p ∈ es, ∃ x, p.1 = .int .i64 x := fun p hpm => by
    have : Maps.has (.map es) p.1 = true := by
      rw [Maps.has_eq]
      exact List.any_eq_true.2 ⟨p, hpm, by have := hown.entries gKeyed; obtain ⟨es', he, _, hkey⟩ := this; cases he; exact WideAt.sameKey_self (hkey p hpm)⟩
    obtain ⟨a, h1, _⟩ := (hD.1 p.1).1 this
    exact ⟨a, h1⟩
  have hpi := perm_intKeys hpw hk (ss := L.map (fun x : Bn => x.1)) (show (L.map (·.1)).Pairwise (fun a b => a ≠ b) from hsort.imp (fun h => by omega)) (fun x => by
    rw [hD.1]
    constructor
    · intro hx
      obtain ⟨y, hy, rfl⟩ := List.mem_map.1 hx
      exact ⟨_, rfl, by rw [cnt_mem hr y hy]; exact rise_nz hr y hy⟩
    · rintro ⟨a, e, ha⟩
      simp only [Lit.int.injEq, true_and] at e
      subst e
      obtain ⟨y, hy, rfl⟩ := cnt_pos ha
      exact List.mem_map.2 ⟨y, hy, rfl⟩)
  have h1 := mergeSort_of_perm_i (hp.trans hpi.symm)
  refine h1.trans ?_
  exact List.mergeSort_of_pairwise (hsort.imp (fun h => by simp only [leI, decide_eq_true_eq]; omega))
end Go.Proofs.Ytpdedogdffolnaa
namespace Go.Proofs.Ytpdedogdffolnaa
open Go.RowKit Go.Shelf
attribute [local go_sem] Oper.semAt_some

theorem grow_of_below {w w' : World} (h : Below w.heap.size w w') (row : Option Nat) : w.grownBy w' row := by
  obtain ⟨h1, h2, h3, h4, h5⟩ := h
  exact ⟨h1, h2, h3, h4, fun j hj _ => h5 j hj⟩
theorem below_of_grow {B : Nat} {w w' w'' : World} {b : Nat} (h : Below B w w') (hg : w'.grownBy w'' (some b)) (hB : B ≤ b) (hz : B ≤ w'.heap.size) : Below B w w'' := by
  refine h.trans ?_
  obtain ⟨h1, h2, h3, h4, h5⟩ := hg
  exact ⟨h1, h2, h3, h4, fun j hj => h5 j (by omega) (fun e => by have := Option.some.inj e; omega)⟩
/-- A histogram at work. -/
abbrev WkG (W : World) (gW b : Nat) (f : Int) : Prop := HasC W gW 95 #[.map (some b), .int .i64 f]
set_option maxHeartbeats 4000000 in
set_option maxRecDepth 100000 in
theorem gPut_in (n : Nat) (h3 : 3 ≤ n) (gW b : Nat) (f : Int) (L : List Bn) (a : Int) (c : Nat) (w : World) (hW : WkG w gW b f) (hM : CtM w b L) (h0 : 0 ≤ a) (h1 : a ≤ 1000) (hc : c ≤ topN) :
    CallsIn Fence.wide n Try.prog 59 #[.pointer (some ⟨gW, 0, none⟩), .int .i64 a, gV c] w fun e w' => (∃ v, e = .returned v) ∧ CtM w' b (putBn L a c) ∧ w.grownBy w' (some b) := by
  by_cases hc0 : c = 0
  · subst hc0
    have hp : putBn L a 0 = L := by unfold putBn; rw [if_pos rfl]
    rw [hp]
    have HM := Lib.hid hM
    clear hM hp hW h0 h1 hc
    refine callsIn_of_wp Try.func59 rfl trivial ?_ rfl
    simp only [Try.ntmps59, List.size_toArray, List.length_cons, List.length_nil, Nat.reduceAdd, Nat.reduceSub, Array.replicate_succ, Array.replicate_zero, List.push_toArray, List.append_toArray, List.nil_append, List.cons_append]
    gi_wp2_with fail
    go_end0
    exact ⟨⟨_, rfl⟩, HM.out, grow_of_below (Below.refl _ w) _⟩
  · have hci : (0 : Int) < (c : Int) := by omega
    obtain ⟨D, hDk, hDd⟩ : ∃ D : World → Prop, (∀ W, D W → Below w.heap.size w W) ∧ (∀ W, Below w.heap.size w W → D W) := ⟨_, fun _ h => h, fun _ h => h⟩
    have hbl := hM.lt
    obtain ⟨q, hq⟩ : ∃ q, q = cntB L a := ⟨_, rfl⟩
    have E1 : ∀ i : InC D, i.w.cell? ⟨gW, 0, none⟩ = some (.map (some b)) := fun i => (hW.below (hDk _ i.h) hW.lt).cell 0
    have E2 : (Instr.lookup 93 (.map (some b)) (.int .i64 a) false).run Try.prog w.drew = .ok (gV q) w.drew := by rw [hq]; exact ctM_look (hM.below (Below.refl _ w).drew hbl) h0 h1
    have HE2 := Lib.hid E2
    have HDD := Lib.hid hDd
    have HDK := Lib.hid hDk
    have HM := Lib.hid hM
    have HQ := Lib.hid hq
    have HC0 := Lib.hid hc0
    have T0 : Calls Try.prog 58 #[.slice (some ⟨w.heap.size, 0, none⟩) 2 2] ((w.alloc (.cells #[gV q, gV c] 22)).drew) fun e w' => e = .returned (gV (plusS q c)) ∧ Below (w.heap.size + 1) ((w.alloc (.cells #[gV q, gV c] 22)).drew) w' := gTog2_any q c w.drew
    have T1 := Lib.hid T0
    clear T0
    clear hDk hDd hM hW hq hc0 E2
    refine callsIn_of_wp Try.func59 rfl trivial ?_ rfl
    simp only [Try.ntmps59, List.size_toArray, List.length_cons, List.length_nil, Nat.reduceAdd, Nat.reduceSub, Array.replicate_succ, Array.replicate_zero, List.push_toArray, List.append_toArray, List.nil_append, List.cons_append]
    gi_wp2_with fail
    refine region_heldIn 14 [0, 1, 2, 3, 4, 5, 6, 7, 8, 9, 11] [10, 12, 13] D (by kernel_rfl) (FOk.wide _) (by kernel_rfl) (by intro c a d v w h; cases d <;> exact h) (HDD.out _ (Below.refl _ _).drew) ?_
    intro hne
    simp only [pickL, nthL]
    repeat (go_big_quiet_step (fail))
    refine wpQuiet_nil ?_
    intro Q0 hQ0
    have E2 := HE2.out
    clear E1
    gi_wp2_with fail
    refine hQ0.out _ _ ⟨⟨w.drew, HDD.out _ (Below.refl _ _).drew⟩, rfl⟩ ?_
    intro Q2 hQ2
    clear hQ0 E2
    gi_wp2_with fail
    refine hQ2.out _ _ ⟨⟨w.drew.alloc (.cells #[gV q, gV c] 22), HDD.out _ ((Below.refl _ _).drew.alloc (by simp) _)⟩, rfl⟩ ?_
    intro Q1 hQ1
    clear hQ2
    gi_wp2_with fail
    refine ⟨trivial, fun _ => by omega, ?_⟩
    refine (callsIn_wide.2 (T1.out)).mono ?_
    rintro e W3 ⟨rfl, hb3⟩
    have hb : Below w.heap.size w W3 := ((Below.refl w.heap.size w).alloc (Nat.le_refl _) (.cells #[gV q, gV c] 22)).drew.trans (hb3.mono (by omega))
    have HB := Lib.hid hb
    clear hb3 hb
    gi_wp2_with fail
    refine hQ1.out _ _ ⟨⟨W3, HDD.out _ HB.out⟩, rfl⟩ ?_
    simp only [heavyRun, List.drop_succ_cons, List.drop_zero]
    clear hQ1 hne
    have hM3 := HM.out.below HB.out hbl
    gi_wp2_with (gi_at_mapUpdate; refine wpListIn_gput (by rfl) (.tmp 11) (.tmp 12) (.tmp 21) (by rfl) (by rfl) hM3 a c (by rfl) (by rw [← HQ.out]; rfl) h0 h1 HC0.out hc ?_; intro w1 hM1 hg1)
    go_end0
    exact ⟨⟨_, rfl⟩, hM1, (grow_of_below HB.out (some b)).trans hg1⟩
end Go.Proofs.Ytpdedogdffolnaa
namespace Go.Proofs.Ytpdedogdffolnaa
open Go.RowKit Go.Shelf
attribute [local go_sem] Oper.semAt_some

/-- A row of bins. -/
def BinRow (o : Obj) : Prop := ∃ cs fr, o = .cells cs 68 fr
/-- What an iterator leaves of the blocks from B on: rows of bins. -/
def Kp (B : Nat) (W W' : World) : Prop := Below B W W' ∧ W.heap.size ≤ W'.heap.size ∧ ∀ (b : Nat) (o : Obj), W.heap[b]? = some o → BinRow o → W'.heap[b]? = some o
/-- What a body leaves of the blocks from B on: all but rows of bins. -/
def Kr (B : Nat) (W W' : World) : Prop := W.heap.size ≤ W'.heap.size ∧ ∀ (b : Nat) (o : Obj), B ≤ b → W.heap[b]? = some o → ¬ BinRow o → W'.heap[b]? = some o
theorem Kp.of_below {B : Nat} {W W' : World} (h : Below W.heap.size W W') (hB : B ≤ W.heap.size) : Kp B W W' :=
  ⟨h.mono hB, h.size, fun b _ ho _ => (h.block b (Array.getElem?_eq_some_iff.1 ho).1).trans ho⟩
theorem Kp.refl (B : Nat) (W : World) : Kp B W W := ⟨Below.refl _ _, Nat.le_refl _, fun _ _ h _ => h⟩
theorem Kp.trans {B : Nat} {W W' W'' : World} (h : Kp B W W') (h2 : Kp B W' W'') : Kp B W W'' := ⟨h.1.trans h2.1, Nat.le_trans h.2.1 h2.2.1, fun b o ho hr => h2.2.2 b o (h.2.2 b o ho hr) hr⟩
theorem Kp.put {B l : Nat} {W : World} {o : Obj} (o' : Obj) (ho : W.heap[l]? = some o) (hr : ¬ BinRow o) (hl : B ≤ l) : Kp B W (W.putObj l o') :=
  ⟨below_put (Below.refl _ W) l o' hl, by simp, fun b x hx hxr => by
    by_cases e : b = l
    · subst e
      rw [ho] at hx
      cases hx
      exact absurd hxr hr
    · exact (World.putObj_heap_other e).trans hx⟩
theorem Kp.set {B : Nat} {W : World} {p : Addr} {o : Obj} (u : Value) (ho : W.heap[p.block]? = some o) (hr : ¬ BinRow o) (hl : B ≤ p.block) : Kp B W (W.setCell p u) :=
  ⟨(Below.refl _ W).setCell (p := p) hl u, by simp, fun b x hx hxr => by
    by_cases e : b = p.block
    · subst e
      rw [ho] at hx
      cases hx
      exact absurd hxr hr
    · exact (Below.heap_setCell W p u b e).trans hx⟩
theorem loop_row (o : Loop) : ¬ BinRow (.loop o) := fun ⟨_, _, h⟩ => by cases h
theorem def_row (o : Option (List Deferred)) : ¬ BinRow (.deferred o) := fun ⟨_, _, h⟩ => by cases h
theorem cells_row {T : TypeId} {cs : Array Value} (h : T ≠ 68) : ¬ BinRow (.cells cs T (0, 0)) := fun ⟨_, _, e⟩ => by cases e; exact h rfl
theorem Kr.refl (B : Nat) (W : World) : Kr B W W := ⟨Nat.le_refl _, fun _ _ _ h _ => h⟩
theorem Kr.trans {B : Nat} {W W' W'' : World} (h : Kr B W W') (h2 : Kr B W' W'') : Kr B W W'' := ⟨Nat.le_trans h.1 h2.1, fun b o hb ho hr => h2.2 b o hb (h.2 b o hb ho hr) hr⟩
theorem Kr.of_below {B : Nat} {W W' : World} (h : Below W.heap.size W W') : Kr B W W' := ⟨h.size, fun b _ _ ho _ => (h.block b (Array.getElem?_eq_some_iff.1 ho).1).trans ho⟩
/-- A block below B is another one. -/
theorem Kr.of_grow {B : Nat} {W W' : World} {r : Nat} (h : W.grownBy W' (some r)) (hr : r < B) : Kr B W W' := ⟨h.size, fun b _ hb ho _ => (h.block b (Array.getElem?_eq_some_iff.1 ho).1 (fun e => by have := Option.some.inj e; omega)).trans ho⟩
/-- A row of bins is another one. -/
theorem Kr.of_row {B : Nat} {W W' : World} {row : Option Nat} (h : W.grownBy W' row) (hr : ∀ r o, row = some r → W.heap[r]? = some o → BinRow o) : Kr B W W' := ⟨h.size, fun b o _ ho hn => (h.block b (Array.getElem?_eq_some_iff.1 ho).1 (fun e => hn (hr b o e.symm ho))).trans ho⟩
theorem Kr.put {B l : Nat} {W : World} (o' : Obj) (hl : l < B) : Kr B W (W.putObj l o') := ⟨by simp, fun _ _ hb ho _ => (World.putObj_heap_other (by omega)).trans ho⟩
theorem Kr.set {B : Nat} {W : World} {p : Addr} (u : Value) (hl : p.block < B) : Kr B W (W.setCell p u) := ⟨by simp, fun b _ hb ho _ => (Below.heap_setCell W p u b (by omega)).trans ho⟩
theorem Kr.has {B b : Nat} {W W' : World} {T : TypeId} {cs : Array Value} (h : Kr B W W') (hc : HasC W b T cs) (hb : B ≤ b) (hT : T ≠ 68) : HasC W' b T cs := h.2 b _ hb hc (cells_row hT)
theorem YieldAt.anyN {m m' : Nat} {P : Program} {l : Nat} {args : Array Value} {W : World} {R : Ending → World → Prop} (h : YieldAt Fence.wide m P l args W R) : YieldAt Fence.wide m' P l args W R := by
  obtain ⟨fn, tmps, asg, bd, hr, h1, h2⟩ := h
  exact ⟨fn, tmps, asg, bd, hr, h1, fun c cs _ => h2 c cs (room_wide _)⟩

/-- An iterator's contract: as IterOk, but the iterator may turn blocks of its own (from B on), which no body touches. -/
def IterP (f : Nat) (caps : Array Value) {α : Type} (enc : α → Array Value) (L : List α) (G : Nat → World → Prop) : Prop :=
  ∀ (n : Nat), 9 ≤ n → ∀ (l B : Nat) (J : Nat → World → Prop) (Jx : World → Prop), (∀ k W W', J k W → Kp B W W' → J k W') → (∀ W W', Jx W → Kp B W W' → Jx W') → (∀ k W, J k W → G k W) →
    (∀ k (hk : k < L.length) W, J k W → B ≤ W.heap.size → YieldAt Fence.wide (n - 1) Try.prog l (enc L[k]) W fun e W' => ((e = .returned (.bool true) ∧ J (k + 1) W') ∨ (e = .returned (.bool false) ∧ Jx W')) ∧ Kr B W W') →
    ∀ W, B ≤ W.heap.size → J 0 W → CallsIn Fence.wide n Try.prog f (#[.func (.yield l) #[] #[]] ++ caps) W fun e W' => (∃ v, e = .returned v) ∧ (J L.length W' ∨ Jx W')

set_option maxHeartbeats 1000000 in
/-- A range over such an iterator. -/
theorem range_fnP {α : Type} {n : Nat} (h1 : 10 ≤ n) {f : Nat} {caps : Array Value} {enc : α → Array Value} {L : List α} {G : Nat → World → Prop} (hit : IterP f caps enc L G)
    (heg : ∀ args w, (callFunc f args).run Try.prog w = .ok (.enter f args) w)
    {g : Operand} {ps : Array Tmp} {assign body : Code} {Q : Exit → Act → World → Prop} {a : Act} {w : World}
    (hg : a.eval g = .func (.func f) #[] caps) (hps : ∀ x, ps.size = (enc x).size)
    (I : Nat → World → Prop) (Ix : Code → World → Prop) (hIb : ∀ k W W', I k W → Kp (w.heap.size + 2) W W' → I k W') (hXb : ∀ c W W', Ix c W → Kp (w.heap.size + 2) W W' → Ix c W') (hIG : ∀ k W, I k W → G k W)
    (hIp : ∀ k W (lo o : Loop), I k W → Lp w.heap.size (.loop lo) W → I k (W.putObj (w.heap.size + 1) (.loop o))) (hXp : ∀ c W (lo o : Loop), Ix c W → Lp w.heap.size (.loop lo) W → Ix c (W.putObj (w.heap.size + 1) (.loop o)))
    (h0 : ∀ o : Loop, I 0 ((w.alloc (.deferred (some []))).alloc (.loop o)))
    (hbody : ∀ k (hk : k < L.length) W, I k W → w.heap.size + 2 ≤ W.heap.size → ∀ rd bz : Loop, Lp w.heap.size (.loop rd) W →
      assign.wpIn (Fence.wide.inRound (w.heap.size + 1)) (n - 1 - 1) Try.prog (Exit.then (fun a₁ w₁ => Lp w.heap.size (.loop rd) w₁ ∧ body.wpIn (Fence.wide.inRound (w.heap.size + 1)) (n - 1 - 1) Try.prog (fun e a2 W2 => eachPost w.heap.size (.loop bz) (fun W3 => I (k + 1) W3 ∧ Kr (w.heap.size + 2) W W3) (fun c W3 => Ix c W3 ∧ Kr (w.heap.size + 2) W W3) e a2 W2) a₁ (w₁.putObj (w.heap.size + 1) (.loop bz))) (fun _ _ _ => False))
        { tmps := (ps.zip (enc L[k])).foldl (fun tmps (t, a) => tmps.setIfInBounds t a) a.tmps, defers := [] } W)
    (hdone : ∀ W, I L.length W → W.heap[w.heap.size]? = some (.deferred (some [])) → Q .normal { a with defers := { target := .collected w.heap.size, args := #[] } :: a.defers } W)
    (hstop : ∀ c W, Ix c W → W.heap[w.heap.size]? = some (.deferred (some [])) → c.wpIn Fence.wide n Try.prog Q { a with defers := { target := .collected w.heap.size, args := #[] } :: a.defers } W) :
    (Code.rangeFunc g ps assign body).wpIn Fence.wide n Try.prog Q a w := by
  refine wpIn_rangeFunc fun fn _ => ?_
  have he := run_enterLoop_outer (P := Try.prog) (w := w) fn a.tmps ps assign body
  obtain ⟨o, ho⟩ : ∃ o : Loop, o = { state := .ready, pending := none, fn, tmps := a.tmps, params := ps, assign, body, defers := w.heap.size } := ⟨_, rfl⟩
  rw [← ho] at he
  have hst : o.state = .ready := by rw [ho]
  have hpe : o.pending = none := by rw [ho]
  have hto : o.tmps = a.tmps := by rw [ho]
  have hpo : o.params = ps := by rw [ho]
  have hao : o.assign = assign := by rw [ho]
  have hbo : o.body = body := by rw [ho]
  clear ho
  have hL1 : Lp w.heap.size (.loop o) ((w.alloc (.deferred (some []))).alloc (.loop o)) := by
    refine ⟨?_, ?_⟩
    · exact (Below.heap_alloc _ _ _ (by simp)).trans (World.alloc_heap_new w _)
    · have := World.alloc_heap_new (w.alloc (.deferred (some []))) (.loop o)
      rwa [World.size_alloc] at this
  have hI1 := h0 o
  have hz1 : w.heap.size + 2 ≤ ((w.alloc (.deferred (some []))).alloc (.loop o)).heap.size := by simp
  generalize (w.alloc (.deferred (some []))).alloc (.loop o) = W1 at he hL1 hI1 hz1
  have hLk : ∀ (lo : Loop) W W', Lp w.heap.size (.loop lo) W → Kp (w.heap.size + 2) W W' → Lp w.heap.size (.loop lo) W' := fun lo W W' h hk => h.below hk.1 (by omega)
  refine ⟨_, _, W1, { target := .fn (.func f) caps, args := #[.func (.yield (w.heap.size + 1)) #[] #[]] }, W1, f, _, W1, he, ?_, fun _ _ => trivial, ?_, fun _ => by omega,
    (hit (n - 1) (by omega) (w.heap.size + 1) (w.heap.size + 2) (fun k W => I k W ∧ Lp w.heap.size (.loop o) W) (fun W => ∃ (j : Code) (o' : Loop), Ix j W ∧ o'.state = .done ∧ o'.pending = some j ∧ Lp w.heap.size (.loop o') W)
      (fun k W W' h hb => ⟨hIb k W W' h.1 hb, hLk _ _ _ h.2 hb⟩) (fun W W' ⟨j, o', h, h2, h3, h4⟩ hb => ⟨j, o', hXb j W W' h hb, h2, h3, hLk _ _ _ h4 hb⟩) (fun k W h => hIG k W h.1) ?_ W1 hz1 ⟨hI1, hL1⟩).mono ?_⟩
  · simp only [resolve, hg]
    simp [go_sem]
  · simp [invoke, go_sem, heg]
  · rintro k hk W ⟨hI, hL⟩ hzW
    have hb := hbody k hk W hI hzW o { o with state := .busy } hL
    refine ⟨_, _, _, _, run_yield hL.2 (by rw [hpo, hps]), roundIn_of_wpIn trivial ?_⟩
    rw [hpo, hto, hao, hbo]
    refine wpIn_mono hb ?_
    rintro e a' W'
    cases e with
    | normal =>
      rintro ⟨hL', hbd⟩
      refine ⟨_, run_beginRound hL'.2 hst, ?_⟩
      refine wpIn_mono hbd ?_
      rintro e2 a2 W2 hp
      have hready : ({ ({ o with state := .busy } : Loop) with state := .ready, pending := none } : Loop) = o := by
        cases o
        dsimp only at hst hpe
        subst hst
        subst hpe
        rfl
      cases e2 with
      | normal =>
        obtain ⟨hLb, hI2, hkr⟩ := hp
        refine ⟨_, _, run_endRound none hLb.2, .inl ⟨rfl, hIp _ _ _ _ hI2 hLb, ?_⟩, hkr.trans (Kr.put _ (by omega))⟩
        have := hLb.put (.loop { ({ o with state := .busy } : Loop) with state := .ready, pending := none })
        rw [hready] at this
        simpa [hready] using this
      | ret => obtain ⟨hLb, hx, hkr⟩ := hp; exact ⟨_, _, run_endRound (some .ret) hLb.2, .inr ⟨rfl, _, _, hXp _ _ _ _ hx hLb, rfl, rfl, hLb.put _⟩, hkr.trans (Kr.put _ (by omega))⟩
      | exit id => obtain ⟨hLb, hx, hkr⟩ := hp; exact ⟨_, _, run_endRound (some (.exit id)) hLb.2, .inr ⟨rfl, _, _, hXp _ _ _ _ hx hLb, rfl, rfl, hLb.put _⟩, hkr.trans (Kr.put _ (by omega))⟩
      | goto t => obtain ⟨hLb, hx, hkr⟩ := hp; exact ⟨_, _, run_endRound (some (.goto t)) hLb.2, .inr ⟨rfl, _, _, hXp _ _ _ _ hx hLb, rfl, rfl, hLb.put _⟩, hkr.trans (Kr.put _ (by omega))⟩
      | panic _ => exact hp
      | outgrown => exact hp
    | _ => exact fun h => h
  · rintro e W ⟨⟨v, rfl⟩, ⟨hI, hL⟩ | ⟨j, o', hx, hs', hp', hL⟩⟩
    · refine ⟨none, W.putObj (w.heap.size + 1) (.loop { o with state := .exhausted }), ?_, ?_⟩
      · rw [run_endLoop (P := Try.prog) hL.2 (by rw [hst]; simp), hpe]
      · exact hdone _ (hIp _ _ _ _ hI hL) (hL.put (.loop { o with state := .exhausted })).1
    · refine ⟨some j, W.putObj (w.heap.size + 1) (.loop { o' with state := .exhausted }), ?_, hstop j _ (hXp _ _ _ _ hx hL) (hL.put (.loop { o' with state := .exhausted })).1⟩
      rw [run_endLoop (P := Try.prog) hL.2 (by rw [hs']; simp), hp']
end Go.Proofs.Ytpdedogdffolnaa
namespace Go.Proofs.Ytpdedogdffolnaa
open Go.RowKit Go.Shelf
attribute [local go_sem] Oper.semAt_some

/-- So many up to each. -/
def accB (L : List Bn) (k : Nat) : Nat := min ((L.take k).map (·.2)).sum topN
def upL (L : List Bn) : List (Int × Nat) := (List.range L.length).map fun k => ((L.getD k (0, 0)).1, accB L (k + 1))
theorem up_len (L : List Bn) : (upL L).length = L.length := by simp [upL]
theorem up_at (L : List Bn) (k : Nat) (hk : k < (upL L).length) : (upL L)[k] = ((L.getD k (0, 0)).1, accB L (k + 1)) := by simp [upL]
theorem acc_zero (L : List Bn) : accB L 0 = 0 := by simp [accB]
theorem acc_next {L : List Bn} {k : Nat} (hk : k < L.length) : accB L (k + 1) = plusS (accB L k) L[k].2 := by
  unfold accB
  rw [List.take_succ_eq_append_getElem hk, List.map_append, List.sum_append, plus_sat]
  simp
def encU (x : Int × Nat) : Array Value := #[.int .i64 x.1, gV x.2]
def UpG (Bx n0 : Nat) (ao : Option Addr) (c : Nat) (L : List Bn) (W : World) : Prop := W.cell? ⟨Bx, 1, none⟩ = some (.slice ao L.length c) ∧ GBnAt n0 ao L W
theorem ne_u64 : 22 ≠ 68 := by decide
theorem ne_bins : 23 ≠ 68 := by decide
theorem ne_yield : 87 ≠ 68 := by decide
theorem Lp.kr {B D : Nat} {o : Loop} {W W' : World} (h : Lp D (.loop o) W) (hk : Kr B W W') (hD : B ≤ D) : Lp D (.loop o) W' := ⟨hk.2 D _ hD h.1 (def_row _), hk.2 (D + 1) _ (by omega) h.2 (loop_row _)⟩

set_option maxHeartbeats 4000000 in
set_option maxRecDepth 100000 in
theorem up_it (Bx n0 : Nat) (ao : Option Addr) (c : Nat) (L : List Bn) (hn1 : L.length ≤ 1000) :
    IterP 56 #[.pointer (some ⟨Bx, 0, none⟩)] encU (upL L) (fun _ W => UpG Bx n0 ao c L W) := by
  intro n hn l B J Jx hJK hXK hJG hY W hB h0
  show CallsIn Fence.wide n Try.prog 56 #[.func (.yield l) #[] #[], .pointer (some ⟨Bx, 0, none⟩)] W _
  rw [up_len]
  obtain ⟨m, hm⟩ : ∃ m, m = L.length := ⟨_, rfl⟩
  have HM := Lib.hid hm
  have hJ1 := hJK 0 W _ h0 (Kp.of_below (((Below.refl _ W).alloc (Nat.le_refl _) (.cells #[.func (.yield l) #[] #[]] 87)).alloc (by simp) (.cells #[.int .u64 0] 22)) hB)
  have g1 := (hJG 0 _ hJ1).1
  rw [← hm] at g1
  have HJK := Lib.hid hJK
  have HXK := Lib.hid hXK
  have HJG := Lib.hid hJG
  have HY := Lib.hid hY
  have H0 := Lib.hid h0
  rw [← hm] at hn1 ⊢
  clear hm hJK hXK hJG hY h0 hJ1
  refine callsIn_of_wp_marks Try.func56 rfl trivial ?_ rfl
  simp only [Try.ntmps56, List.size_toArray, List.length_cons, List.length_nil, Nat.reduceAdd, Nat.reduceSub, Array.replicate_succ, Array.replicate_zero, List.push_toArray, List.append_toArray, List.nil_append, List.cons_append]
  gi_wp2_with fail
  refine ⟨trivial, fun _ => by omega, ?_⟩
  refine (callsIn_wide.2 (GBn_each _ _ _ _)).mono ?_
  rintro e w2 ⟨rfl, rfl⟩
  gi_wp2_with fail
  obtain ⟨W0, hW0⟩ : ∃ W0, W0 = ((W.alloc (.cells #[.func (.yield l) #[] #[]] 87)).alloc (.cells #[.int .u64 0] 22)).alloc (.cells #[.slice ao m c] 23) := ⟨_, rfl⟩
  have hz0 : W0.heap.size = W.heap.size + 3 := by rw [hW0]; simp
  have hb0 : Below W.heap.size W W0 := by
    rw [hW0]
    exact (((Below.refl _ W).alloc (Nat.le_refl _) _).alloc (by simp) _).alloc (by simp; omega) _
  have hY0 : HasC W0 W.heap.size 87 #[.func (.yield l) #[] #[]] := by rw [hW0]; exact ((HasC.new W _ _).alloc _).alloc _
  have hN0 : HasC W0 (W.heap.size + 1) 22 #[gV 0] := by rw [hW0]; exact (HasC.at_ _ _ _ (by simp)).alloc _
  have hS0 : HasC W0 (W.heap.size + 2) 23 #[.slice ao m c] := by rw [hW0]; exact HasC.at_ _ _ _ (by simp)
  rw [← hW0]
  clear hW0
  refine range_fn (by omega) (GBn_it (W.heap.size + 2) n0 ao c L (by have := HM.out; omega)) (enters_of Try.func64 (by kernel_rfl) rfl) rfl (fun _ => rfl)
    (fun k V => J k V ∧ W.heap.size + 3 ≤ V.heap.size ∧ HasC V W.heap.size 87 #[.func (.yield l) #[] #[]] ∧ HasC V (W.heap.size + 1) 22 #[gV (accB L k)] ∧ HasC V (W.heap.size + 2) 23 #[.slice ao m c])
    (fun j V => j = .ret ∧ Jx V)
    (fun k V V' h hb => ⟨HJK.out k V V' h.1 (Kp.of_below hb (by omega)), Nat.le_trans h.2.1 hb.size, h.2.2.1.below hb h.2.2.1.lt, h.2.2.2.1.below hb h.2.2.2.1.lt, h.2.2.2.2.below hb h.2.2.2.2.lt⟩)
    (fun k V h => ⟨by rw [← HM.out]; exact h.2.2.2.2.cell 0, (HJG.out k V h.1).2⟩) ?_ ?_ ?_ ?_ ?_ ?_
  · rintro k V lo o ⟨hJ, hz, hYb, hN, hS⟩ hLp
    exact ⟨HJK.out _ _ _ hJ (Kp.put _ hLp.2 (loop_row _) (by omega)), by simpa using hz, hYb.put (by omega) _, hN.put (by omega) _, hS.put (by omega) _⟩
  · rintro j V lo o ⟨hj, hx⟩ hLp
    exact ⟨hj, HXK.out _ _ hx (Kp.put _ hLp.2 (loop_row _) (by omega))⟩
  · intro o
    have hk : Below W0.heap.size W0 ((W0.alloc (.deferred (some []))).alloc (.loop o)) := ((Below.refl _ W0).alloc (Nat.le_refl _) _).alloc (by simp) _
    refine ⟨HJK.out _ _ _ H0.out (Kp.of_below (hb0.trans (hk.mono hb0.size)) hB), by simp; omega, hY0.below hk hY0.lt, ?_, hS0.below hk hS0.lt⟩
    rw [acc_zero]
    exact hN0.below hk hN0.lt
  · rintro k hk V ⟨hJ, hz, hYb, hN, hS⟩ rd bz hLp
    have hku : k < (upL L).length := by rw [up_len]; exact hk
    have HYk := HY.out k hku
    rw [up_at, getD_in hk] at HYk
    have hac := Lib.hid (acc_next hk)
    obtain ⟨x, hx⟩ : ∃ x, x = L[k] := ⟨_, rfl⟩
    rw [← hx] at HYk hac
    unfold encGBn
    rw [← hx]
    obtain ⟨xa, xn⟩ := x
    dsimp only [encU] at HYk hac ⊢
    obtain ⟨s, hs⟩ : ∃ s, s = accB L k := ⟨_, rfl⟩
    rw [← hs] at hN hac
    rw [hac.out] at HYk
    have HYK := Lib.hid HYk
    have HLP := Lib.hid hLp
    have hLt : W.heap.size + 4 < V.heap.size := by have := hLp.lt; omega
    clear hY0 hN0 hS0 hb0 hx hs HYk g1
    have hJa := HJK.out _ _ _ hJ (Kp.of_below ((Below.refl _ V).alloc (Nat.le_refl _) (.cells #[.int .i64 xa, gV xn] 68)) (by omega))
    have hJb := HJK.out _ _ _ hJa (Kp.put (.loop bz) (hLp.alloc _).2 (loop_row _) (by omega))
    have hX1 : HasC ((V.alloc (.cells #[.int .i64 xa, gV xn] 68)).putObj (W0.heap.size + 1) (.loop bz)) V.heap.size 68 #[.int .i64 xa, gV xn] := (HasC.new V _ _).put (by omega) _
    have hY1 := (hYb.alloc (.cells #[.int .i64 xa, gV xn] 68)).put (L := W0.heap.size + 1) (by omega) (.loop bz)
    have hN1 := (hN.alloc (.cells #[.int .i64 xa, gV xn] 68)).put (L := W0.heap.size + 1) (by omega) (.loop bz)
    have hS1 := (hS.alloc (.cells #[.int .i64 xa, gV xn] 68)).put (L := W0.heap.size + 1) (by omega) (.loop bz)
    have hL1 := (hLp.alloc (.cells #[.int .i64 xa, gV xn] 68)).put (.loop bz)
    have hz1 : W.heap.size + 3 ≤ ((V.alloc (.cells #[.int .i64 xa, gV xn] 68)).putObj (W0.heap.size + 1) (.loop bz)).heap.size := by simp; omega
    have HZ := Lib.hid hz0
    clear hJ hJa hYb hN hS hLp hz hz0
    gi_wp2_with fail
    refine ⟨HLP.out.alloc _, ?_⟩
    generalize (V.alloc (.cells #[.int .i64 xa, gV xn] 68)).putObj (W0.heap.size + 1) (.loop bz) = V1 at hJb hX1 hY1 hN1 hS1 hL1 hz1 ⊢
    have cn := hN1.cell 0
    have x1 := hX1.cell 1
    have T1 := Lib.hid (gTog2_any s xn V1)
    gi_wp2_with fail
    refine ⟨trivial, fun _ => by omega, ?_⟩
    refine (CallsIn.inRound _ (callsIn_wide.2 T1.out)).mono ?_
    rintro e V2 ⟨rfl, hb⟩
    have hb2 : Below V1.heap.size V1 V2 := ((Below.refl _ V1).alloc (Nat.le_refl _) _).trans (hb.mono (by omega))
    have hJ2 := HJK.out _ _ _ hJb (Kp.of_below hb2 (by omega))
    have hX2 := hX1.below hb2 hX1.lt
    have hY2 := hY1.below hb2 hY1.lt
    have hN2 := hN1.below hb2 hN1.lt
    have hS2 := hS1.below hb2 hS1.lt
    have hL2 := hL1.below hb2 hL1.lt
    have hz2 := Nat.le_trans hz1 hb2.size
    clear hJb hX1 hY1 hN1 hS1 hL1 hz1 cn x1 T1 hb
    obtain ⟨t, ht⟩ : ∃ t, t = plusS s xn := ⟨_, rfl⟩
    rw [← ht] at HYK hac
    have HT := Lib.hid ht
    have hJ3 := HJK.out _ _ _ hJ2 (Kp.set (p := ⟨W.heap.size + 1, 0, none⟩) (gV t) hN2 (cells_row ne_u64) (by show B ≤ W.heap.size + 1; omega))
    have hz3 : B ≤ (V2.setCell ⟨W.heap.size + 1, 0, none⟩ (gV t)).heap.size := by simp; omega
    obtain ⟨fn, tmps, asg, bod, hyv, hR⟩ := YieldAt.anyN (m' := n - 1 - 1 - 1) (HYK.out _ hJ3 hz3)
    have HR := Lib.hid hR
    have zn := hN2.frozen 0
    have cn := hN2.cell 0
    have cy := hY2.cell 0
    have x0 := hX2.cell 0
    have HJ3 := Lib.hid hJ3
    rw [ht] at hyv HR HJ3
    clear hR hJ3 hJ2 ht
    gi_wp2_with fail
    refine ⟨fun _ => by omega, ?_⟩
    refine RoundIn.mono (F := Fence.wide.inRound (W0.heap.size + 1)) HR.out ?_
    rintro e V4 ⟨hor, hkr⟩
    have hz0 := HZ.out
    have hY4 := hkr.has (hY2.far ⟨W.heap.size + 1, 0, none⟩ (gV (plusS s xn)) (by simp)) hB ne_yield
    have hN3 : HasC (V2.setCell ⟨W.heap.size + 1, 0, none⟩ (gV (plusS s xn))) (W.heap.size + 1) 22 #[gV (plusS s xn)] := (hN2.set 0 _).eq rfl
    have hN4 := hkr.has hN3 (by omega) ne_u64
    have hS4 := hkr.has (hS2.far ⟨W.heap.size + 1, 0, none⟩ (gV (plusS s xn)) (by simp)) (by omega) ne_bins
    have hL4 := (hL2.set ⟨W.heap.size + 1, 0, none⟩ (gV (plusS s xn)) (by simp; omega) (by simp; omega)).kr hkr (by omega)
    have hz4 : W.heap.size + 3 ≤ V4.heap.size := Nat.le_trans hz2 (Nat.le_trans (by simp) hkr.1)
    rw [← HT.out, ← hac.out] at hN4
    clear hY2 hN2 hS2 hL2 hN3 hkr hyv HR zn cn cy x0 hz3 hb2 hX2 hz0
    rcases hor with ⟨rfl, hJ4⟩ | ⟨rfl, hx4⟩
    · gi_wp2_with fail
      exact ⟨hL4, hJ4, hz4, hY4, hN4, hS4⟩
    · gi_wp2_with fail
      exact ⟨hL4, rfl, hx4⟩
  · rintro V ⟨hJ, hz, hYb, hN, hS⟩ hK
    rw [← HM.out] at hJ
    have hJ2 := HJK.out _ _ _ hJ (Kp.put (.deferred none) hK (def_row _) (by omega))
    have HJ2 := Lib.hid hJ2
    clear hJ hJ2
    gi_wp2_with fail
    refine ⟨by simp, .inl ⟨_, _, rfl, run_takeDeferred (b := W0.heap.size) hK, ?_⟩⟩
    exact ⟨_, results_none rfl _ _ _, ⟨_, rfl⟩, .inl HJ2.out⟩
  · rintro j V ⟨rfl, hx⟩ hK
    have hX2 := HXK.out _ _ hx (Kp.put (.deferred none) hK (def_row _) (by omega))
    gi_wp2_with fail
    refine ⟨by simp, .inl ⟨_, _, rfl, run_takeDeferred (b := W0.heap.size) hK, ?_⟩⟩
    exact ⟨_, results_none rfl _ _ _, ⟨_, rfl⟩, .inr hX2⟩
set_option maxRecDepth 100000 in
theorem gUpTo_any (f : Int) (v : Value) (w : World) :
    Calls Try.prog 46 #[hgV f v] w fun e w' => e = .returned (.func (.func 56) #[] #[.pointer (some ⟨w.heap.size, 0, none⟩)]) ∧ w' = w.alloc (.cells #[.int .i64 f, v] 25) := by
  unfold hgV
  go_enter Try.func46, Try.ntmps46
  go_wp2_with fail
  go_ret
  exact ⟨rfl, rfl⟩
end Go.Proofs.Ytpdedogdffolnaa
namespace Go.Proofs.Ytpdedogdffolnaa
open Go.RowKit Go.Shelf Go.Maps
attribute [local go_sem] Oper.semAt_some

/-- slices.Sort's two contracts at this program, at the fence that asks nothing. -/
theorem gSorts (m : Nat) : AnyZI.SortsIn Try.prog Try.sortedA_ren Fence.wide m :=
  ⟨fun blk off cap ss W hH hblk hsz => callsIn_wide.2 (AnyM.slices_Sort_int Try.sortA blk off cap ss W hH hblk hsz),
   fun p cap W => callsIn_wide.2 (AnyM.slices_Sort_int_none Try.sortA p cap W)⟩
/-- The keys in a row of their own. -/
def IRow (B n0 : Nat) (ao : Option Addr) (K : List Int) (V : World) : Prop := K = [] ∨ ∃ g cur, B ≤ g ∧ g < n0 ∧ ao = some ⟨g, 0, none⟩ ∧ HasC V g 3 cur ∧ cur.toList.take K.length = K.map (Value.int .i64)
theorem IRow.below {B n0 : Nat} {ao : Option Addr} {K : List Int} {V V' : World} (h : IRow B n0 ao K V) (hb : Below V.heap.size V V') : IRow B n0 ao K V' := by
  rcases h with h | ⟨g, cur, h1, h2, h3, h4, h5⟩
  · exact .inl h
  · exact .inr ⟨g, cur, h1, h2, h3, h4.below hb h4.lt, h5⟩
theorem IRow.put {B n0 l : Nat} {ao : Option Addr} {K : List Int} {V : World} (h : IRow B n0 ao K V) (o : Obj) (hl : n0 ≤ l) : IRow B n0 ao K (V.putObj l o) := by
  rcases h with h | ⟨g, cur, h1, h2, h3, h4, h5⟩
  · exact .inl h
  · exact .inr ⟨g, cur, h1, h2, h3, h4.put (by omega) o, h5⟩
theorem ne_int : 3 ≠ 68 := by decide
theorem ne_ints : 108 ≠ 68 := by decide
theorem IRow.kr {B n0 : Nat} {ao : Option Addr} {K : List Int} {V V' : World} (h : IRow B n0 ao K V) (hk : Kr B V V') : IRow B n0 ao K V' := by
  rcases h with h | ⟨g, cur, h1, h2, h3, h4, h5⟩
  · exact .inl h
  · exact .inr ⟨g, cur, h1, h2, h3, hk.has h4 h1 ne_int, h5⟩
theorem IRow.at_ {B n0 : Nat} {ao : Option Addr} {K : List Int} {V : World} (h : IRow B n0 ao K V) : GInAt n0 ao K V := by
  intro j hj
  rcases h with rfl | ⟨g, cur, h1, h2, rfl, h4, h5⟩
  · simp at hj
  · refine ⟨g, 0, rfl, h2, ?_⟩
    rw [h4.cell, Nat.zero_add]
    have h6 : (cur.toList.take K.length)[j]? = (K.map (Value.int .i64))[j]? := by rw [h5]
    rw [List.getElem?_take, if_pos hj, List.getElem?_map, List.getElem?_eq_getElem hj] at h6
    simpa using h6
theorem irow_of_owns {B : Nat} {v : Value} {K : List Int} {V : World} {m : Nat} (hm : m = K.length) (h : V.ownsRow B 3 1 v m (K.map (Value.int .i64))) : ∃ ao c, v = .slice ao m c ∧ IRow B V.heap.size ao K V := by
  rcases h.2 with ⟨hv, h0⟩ | ⟨g, cap, cur, hv, hB, hg, hnc, _, _, htk⟩
  · subst hv
    have : K = [] := List.eq_nil_of_length_eq_zero (by omega)
    exact ⟨none, 0, by rw [h0], .inl this⟩
  · refine ⟨_, cap, hv, .inr ⟨g, cur, hB, (Array.getElem?_eq_some_iff.1 hg).1, rfl, hg, ?_⟩⟩
    rw [Nat.mul_one, hm] at htk
    exact htk
/-- What the iterator reads when so many have come. -/
def RsG (B1 gW b : Nat) (L : List Bn) (k : Nat) (W : World) : Prop :=
  W.cell? ⟨B1, 0, none⟩ = some (.pointer (some ⟨gW, 0, none⟩)) ∧ W.cell? ⟨gW, 0, none⟩ = some (.map (some b)) ∧ (k = 0 → CtM W b L) ∧ ∀ hk : k < L.length, ∃ S, CtM W b S ∧ cntB S L[k].1 = L[k].2

set_option maxHeartbeats 4000000 in
set_option maxRecDepth 100000 in
theorem rise_it (B1 gW b : Nat) (L : List Bn) (hn1 : L.length ≤ 1000) :
    IterP 66 #[.pointer (some ⟨B1, 0, none⟩)] encU L (RsG B1 gW b L) := by
  intro n hn l B J Jx hJK hXK hJG hY W hB h0
  show CallsIn Fence.wide n Try.prog 66 #[.func (.yield l) #[] #[], .pointer (some ⟨B1, 0, none⟩)] W _
  obtain ⟨K, hK⟩ : ∃ K, K = L.map (fun x => x.1) := ⟨_, rfl⟩
  obtain ⟨m, hm⟩ : ∃ m, m = L.length := ⟨_, rfl⟩
  have hKl : K.length = m := by rw [hK, hm, List.length_map]
  have HM := Lib.hid hm
  obtain ⟨W1, hW1⟩ : ∃ W1, W1 = W.alloc (.cells #[.func (.yield l) #[] #[]] 87) := ⟨_, rfl⟩
  have hz1 : W1.heap.size = W.heap.size + 1 := by rw [hW1]; simp
  have hb1 : Below W.heap.size W W1 := by rw [hW1]; exact (Below.refl _ W).alloc (Nat.le_refl _) _
  have hY1 : HasC W1 W.heap.size 87 #[.func (.yield l) #[] #[]] := by rw [hW1]; exact HasC.new W _ _
  have hJ1 := hJK 0 W _ h0 (Kp.of_below hb1 hB)
  obtain ⟨g1, g2, g3, _⟩ := hJG 0 _ hJ1
  obtain ⟨hri, hkb, D, hown, hD⟩ := g3 rfl
  have hsz : Maps.size D ≤ 1001 := gSize hown (ct_keys hD hkb)
  have hbl := hown.lt
  obtain ⟨W2, hW2⟩ : ∃ W2, W2 = W1.alloc (.cells #[.map (some b)] 93) := ⟨_, rfl⟩
  have hb2 : Below W1.heap.size W1 W2 := by rw [hW2]; exact (Below.refl _ W1).alloc (Nat.le_refl _) _
  have hown2 : W2.ownsMap Try.prog 3 (plainElem (H := Unit) Try.prog 22) b 1001 D := by
    obtain ⟨es, clock, hb, Ft, hs, hD⟩ := hown
    exact ⟨es, clock, (hb2.block b hbl).trans hb, Ft, hs, hD⟩
  have hseq : SeqGives Fence.wide 2 Try.prog 73 #[.pointer (some ⟨W1.heap.size, 0, none⟩)] encZ (fun ss => ss.Perm (intKeys D)) (Maps.size D) W2 :=
    AnyZI.keys_gives (ρ := Try.keysA_ren) { Try.keysA with } Fence.wide _ trivial rfl (by omega) W1.heap.size b 1001 D _ (by rw [hW2]; simp) (by rw [hW2]; simp) hown2
  have cK : ∀ mb W, CallsIn Fence.wide 5 Try.prog 69 #[.map mb] W fun e w' => e = .returned (.func (.func 73) #[] #[.pointer (some ⟨W.heap.size, 0, none⟩)]) ∧ w' = W.alloc (.cells #[.map mb] 93) := fun mb W => AnyZI.keys_in Try.keysA Fence.wide 5 trivial rfl mb W
  have cS := AnyZI.sorted_in Try.sortedA Fence.wide 5 trivial trivial trivial trivial rfl (by omega) (gSorts _) (enters_of Try.func72 (by kernel_rfl) rfl) 73 #[.pointer (some ⟨W1.heap.size, 0, none⟩)] trivial (enters_of Try.func73 (by kernel_rfl) rfl) _ _ (Nat.le_trans hsz (by decide)) (by omega) _ hseq
  change CallsIn _ _ Try.prog 68 _ _ _ at cS
  have cS2 : CallsIn Fence.wide 5 Try.prog 68 #[.func (.func 73) #[] #[.pointer (some ⟨W1.heap.size, 0, none⟩)]] W2 fun e w' => (∃ ao c, e = .returned (.slice ao m c) ∧ IRow W1.heap.size w'.heap.size ao K w') ∧ Below W1.heap.size W1 w' := by
    refine cS.mono ?_
    rintro e w' ⟨v, ss, rfl, hS, hrow, _, hb⟩
    have hms := ct_sorted hri hown hD hS
    have hln : ss.length = m := by rw [← List.length_mergeSort ss (le := fun x y => decide (x ≤ y)), hms, ← hK, hKl]
    rw [hms, ← hK, hln] at hrow
    obtain ⟨ao, c, rfl, hr⟩ := irow_of_owns hKl.symm hrow
    refine ⟨⟨ao, c, rfl, ?_⟩, hb2.trans (hb.mono hb2.size)⟩
    rcases hr with h | ⟨g, cur, q1, q2, q3, q4, q5⟩
    · exact .inl h
    · exact .inr ⟨g, cur, Nat.le_trans hb2.size q1, q2, q3, q4, q5⟩
  have HKB := Lib.hid hkb
  have HCK := Lib.hid cK
  have HCS := Lib.hid cS2
  have HJK := Lib.hid hJK
  have HXK := Lib.hid hXK
  have HJG := Lib.hid hJG
  have HY := Lib.hid hY
  have HJ1 := Lib.hid hJ1
  have HW2 := Lib.hid hW2
  have HB1 := Lib.hid hb1
  have HKL := Lib.hid hKl
  have HKK := Lib.hid hK
  have HY1 := Lib.hid hY1
  rw [← hm] at hn1 ⊢
  clear hm hJK hXK hJG hY h0 hJ1 cK cS cS2 hseq hown hown2 hD hsz hbl hri hkb g3 hb1 hb2 hK hKl hY1 hW2
  refine callsIn_of_wp_marks Try.func66 rfl trivial ?_ rfl
  simp only [Try.ntmps66, List.size_toArray, List.length_cons, List.length_nil, Nat.reduceAdd, Nat.reduceSub, Array.replicate_succ, Array.replicate_zero, List.push_toArray, List.append_toArray, List.nil_append, List.cons_append]
  have HZ1 := Lib.hid hz1
  rw [hW1] at g1 g2
  clear hz1
  gi_wp2_with fail
  rw [← hW1]
  clear hW1 g1 g2
  refine ⟨trivial, fun _ => by omega, ?_⟩
  refine (callsIn_wide.2 (callsIn_wide.1 (HCK.out (some b) W1))).mono ?_
  rintro e w2 ⟨rfl, rfl⟩
  gi_wp2_with fail
  refine ⟨trivial, fun _ => by omega, ?_⟩
  rw [← HW2.out]
  refine (callsIn_wide.2 (callsIn_wide.1 HCS.out)).mono ?_
  rintro e W3 ⟨⟨ao, c, rfl, hR3⟩, hb3⟩
  have HR3 := Lib.hid hR3
  have HB3 := Lib.hid hb3
  clear hR3 hb3
  gi_wp2_with fail
  refine ⟨trivial, fun _ => by omega, ?_⟩
  refine (callsIn_wide.2 (GIn_each _ _ _ _)).mono ?_
  rintro e w4 ⟨rfl, rfl⟩
  gi_wp2_with fail
  obtain ⟨W0, hW0⟩ : ∃ W0, W0 = W3.alloc (.cells #[.slice ao m c] 108) := ⟨_, rfl⟩
  have hz1 := HZ1.out
  have hz0 : W0.heap.size = W3.heap.size + 1 := by rw [hW0]; simp
  have hb0 : Below W3.heap.size W3 W0 := by rw [hW0]; exact (Below.refl _ W3).alloc (Nat.le_refl _) _
  have hS0 : HasC W0 W3.heap.size 108 #[.slice ao m c] := by rw [hW0]; exact HasC.new W3 _ _
  rw [← hW0]
  have hz3 : W1.heap.size ≤ W3.heap.size := HB3.out.size
  have hb10 : Below W1.heap.size W1 W0 := HB3.out.trans (hb0.mono hz3)
  have hR0 : IRow W1.heap.size W3.heap.size ao K W0 := HR3.out.below hb0
  have hY0 : HasC W0 W.heap.size 87 #[.func (.yield l) #[] #[]] := HY1.out.below hb10 (by omega)
  have hJ0 : J 0 W0 := HJK.out _ _ _ HJ1.out (Kp.of_below hb10 (by omega))
  clear hW0
  refine range_fn (by omega) (GIn_it W3.heap.size W3.heap.size ao c K (by have := HKL.out; omega)) (enters_of Try.func70 (by kernel_rfl) rfl) rfl (fun _ => rfl)
    (fun k V => J k V ∧ W3.heap.size + 1 ≤ V.heap.size ∧ HasC V W.heap.size 87 #[.func (.yield l) #[] #[]] ∧ HasC V W3.heap.size 108 #[.slice ao m c] ∧ IRow W1.heap.size W3.heap.size ao K V)
    (fun j V => j = .ret ∧ Jx V)
    (fun k V V' h hb => ⟨HJK.out k V V' h.1 (Kp.of_below hb (by omega)), Nat.le_trans h.2.1 hb.size, h.2.2.1.below hb h.2.2.1.lt, h.2.2.2.1.below hb h.2.2.2.1.lt, h.2.2.2.2.below hb⟩)
    (fun k V h => ⟨by rw [HKL.out]; exact h.2.2.2.1.cell 0, h.2.2.2.2.at_⟩) ?_ ?_ ?_ ?_ ?_ ?_
  · rintro k V lo o ⟨hJ, hz, hYb, hS, hR⟩ hLp
    exact ⟨HJK.out _ _ _ hJ (Kp.put _ hLp.2 (loop_row _) (by omega)), by simpa using hz, hYb.put (by omega) _, hS.put (by omega) _, hR.put _ (by omega)⟩
  · rintro j V lo o ⟨hj, hx⟩ hLp
    exact ⟨hj, HXK.out _ _ hx (Kp.put _ hLp.2 (loop_row _) (by omega))⟩
  · intro o
    have hk : Below W0.heap.size W0 ((W0.alloc (.deferred (some []))).alloc (.loop o)) := ((Below.refl _ W0).alloc (Nat.le_refl _) _).alloc (by simp) _
    exact ⟨HJK.out _ _ _ hJ0 (Kp.of_below hk (by omega)), by simp; omega, hY0.below hk hY0.lt, hS0.below hk hS0.lt, hR0.below hk⟩
  · rintro k hk V ⟨hJ, hz, hYb, hS, hR⟩ rd bz hLp
    have hkl : k < L.length := by have := HKL.out; have := HM.out; omega
    have HYk := HY.out k hkl
    have hKk : K[k] = L[k].1 := by have := HKK.out; subst this; simp
    rw [hKk] at ⊢
    have hcnt := Lib.hid (fun V' (hV : J k V') => (HJG.out k V' hV).2.2.2 hkl)
    have hmem := Lib.hid (HKB.out L[k] (List.getElem_mem hkl))
    obtain ⟨x, hx⟩ : ∃ x, x = L[k] := ⟨_, rfl⟩
    rw [← hx] at HYk hcnt hmem ⊢
    unfold encGIn
    obtain ⟨xa, xn⟩ := x
    dsimp only [encU] at HYk hcnt hmem ⊢
    have HYK := Lib.hid HYk
    have HLP := Lib.hid hLp
    have hLt : W3.heap.size + 2 < V.heap.size := by have := hLp.lt; omega
    clear hY0 hS0 hb0 hR0 hJ0 hb10 hx HYk hKk
    have hJb := HJK.out _ _ _ hJ (Kp.put (.loop bz) hLp.2 (loop_row _) (by omega))
    have hY1 := hYb.put (L := W0.heap.size + 1) (by omega) (.loop bz)
    have hS1 := hS.put (L := W0.heap.size + 1) (by omega) (.loop bz)
    have hR1 := hR.put (l := W0.heap.size + 1) (.loop bz) (by omega)
    have hL1 := hLp.put (.loop bz)
    have hzv : W3.heap.size + 1 ≤ (V.putObj (W0.heap.size + 1) (.loop bz)).heap.size := by simp; omega
    have HZ := Lib.hid (And.intro hz0 (And.intro hz1 hz3))
    clear hJ hYb hS hR hLp hz hz0 hz1 hz3
    gi_wp2_with fail
    refine ⟨HLP.out, ?_⟩
    generalize V.putObj (W0.heap.size + 1) (.loop bz) = V1 at hJb hY1 hS1 hR1 hL1 hzv ⊢
    obtain ⟨q1, q2, _, _⟩ := HJG.out k V1 hJb
    have hJ2 := HJK.out _ _ _ hJb (Kp.of_below (Below.refl _ V1).drew (by have := HZ.out; omega))
    obtain ⟨S, hS2, hSc⟩ := hcnt.out _ hJ2
    have hxk : 0 ≤ xa ∧ xa ≤ 1000 := hmem.out
    have E3 := ctM_look hS2 hxk.1 hxk.2
    rw [hSc] at E3
    have HE3 := Lib.hid E3
    have E1 : ∀ i : InC (GDr V1), i.w.cell? ⟨W.heap.size, 0, none⟩ = some (.func (.yield l) #[] #[]) := fun ⟨_, _, h⟩ => by subst h; exact hY1.cell 0
    have E2 : ∀ i : InC (GDr V1), i.w.cell? ⟨B1, 0, none⟩ = some (.pointer (some ⟨gW, 0, none⟩)) := fun ⟨_, _, h⟩ => by subst h; exact q1
    have E4 : ∀ i : InC (GDr V1), i.w.cell? ⟨gW, 0, none⟩ = some (.map (some b)) := fun ⟨_, _, h⟩ => by subst h; exact q2
    have HJ2 := Lib.hid hJ2
    clear q1 q2 E3 hS2 hSc hcnt hJ2 hJb hxk
    gi_wp2_with fail
    refine region_heldIn 8 [0, 1, 2, 3, 4, 5, 6] [7] (GDr V1) (by kernel_rfl) (FOk.round _ (by kernel_rfl)) (by kernel_rfl) (by intro c a d v w h; cases d <;> exact h) ⟨1, rfl⟩ ?_
    intro hne
    simp only [pickL, nthL]
    repeat (go_big_quiet_step (fail))
    refine wpQuiet_nil ?_
    intro Q0 hQ0
    have E3 := HE3.out
    clear E1 E2 E4
    gi_wp2_with fail
    refine hQ0.out _ _ ⟨⟨V1.drew, 1, rfl⟩, rfl⟩ ?_
    simp only [heavyRun, List.drop_succ_cons, List.drop_zero]
    clear hQ0 hne E3
    obtain ⟨fn, tmps, asg, bod, hyv, hRn⟩ := YieldAt.anyN (m' := n - 1 - 1 - 1) (HYK.out _ HJ2.out (by show B ≤ V1.heap.size; have := HZ.out; omega))
    have HR := Lib.hid hRn
    clear hRn
    gi_wp2_with fail
    refine ⟨fun _ => by omega, ?_⟩
    refine RoundIn.mono (F := Fence.wide.inRound (W0.heap.size + 1)) HR.out ?_
    rintro e V4 ⟨hor, hkr⟩
    obtain ⟨hz0, hz1, hz3⟩ := HZ.out
    have hY4 := hkr.has hY1.drew hB ne_yield
    have hS4 := hkr.has hS1.drew (by omega) ne_ints
    have hR4 : IRow W1.heap.size W3.heap.size ao K V4 := by
      have hRd : IRow W1.heap.size W3.heap.size ao K V1.drew := hR1.below (Below.refl _ V1).drew
      have hk1 : Kr W1.heap.size V1.drew V4 := ⟨hkr.1, fun b o hb => hkr.2 b o (by omega)⟩
      exact hRd.kr hk1
    have hL4 : Lp W0.heap.size (.loop bz) V4 := Lp.kr (W := V1.drew) hL1 hkr (by omega)
    have hz4 : W3.heap.size + 1 ≤ V4.heap.size := Nat.le_trans hzv hkr.1
    clear hY1 hS1 hR1 hL1 hkr hyv HR hz0 hz1 hz3
    rcases hor with ⟨rfl, hJ4⟩ | ⟨rfl, hx4⟩
    · gi_wp2_with fail
      exact ⟨hL4, hJ4, hz4, hY4, hS4, hR4⟩
    · gi_wp2_with fail
      exact ⟨hL4, rfl, hx4⟩
  · rintro V ⟨hJ, hz, hYb, hS, hR⟩ hK
    rw [HKL.out] at hJ
    have hJ2 := HJK.out _ _ _ hJ (Kp.put (.deferred none) hK (def_row _) (by omega))
    have HJ2 := Lib.hid hJ2
    clear hJ hJ2
    gi_wp2_with fail
    refine ⟨by simp, .inl ⟨_, _, rfl, run_takeDeferred (b := W0.heap.size) hK, ?_⟩⟩
    exact ⟨_, results_none rfl _ _ _, ⟨_, rfl⟩, .inl HJ2.out⟩
  · rintro j V ⟨rfl, hx⟩ hK
    have hX2 := HXK.out _ _ hx (Kp.put (.deferred none) hK (def_row _) (by omega))
    gi_wp2_with fail
    refine ⟨by simp, .inl ⟨_, _, rfl, run_takeDeferred (b := W0.heap.size) hK, ?_⟩⟩
    exact ⟨_, results_none rfl _ _ _, ⟨_, rfl⟩, .inr hX2⟩
set_option maxRecDepth 100000 in
theorem gRising_any (gW : Nat) (w : World) :
    Calls Try.prog 61 #[.pointer (some ⟨gW, 0, none⟩)] w fun e w' => e = .returned (.func (.func 66) #[] #[.pointer (some ⟨w.heap.size, 0, none⟩)]) ∧ w' = w.alloc (.cells #[.pointer (some ⟨gW, 0, none⟩)] 78) := by
  go_enter Try.func61, Try.ntmps61
  go_wp2_with fail
  go_ret
  exact ⟨rfl, rfl⟩
end Go.Proofs.Ytpdedogdffolnaa
