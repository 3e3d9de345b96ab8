/- Package field's reader: a number (its bytes one after another, up to the first one behind it; what they come to). -/
import Derived.Test.YthbfibnpfdegaaaDoorFTake
import Derived.Test.YthbfibnpfdegaaaDoorQuietIn
import Derived.Laws.BitsAllLaws
import Derived.Test.YthbfibnpfdegaaaDoorMid
namespace Go.Proofs.YthbfibnpfdegaaaDoor
open Go.RowKit Go.Shelf
attribute [local go_sem] Oper.semAt_some

theorem or_stp (q : Nat) (c : UInt8) : bits .or .u64 (IntKind.u64.wrap ((q : Int) * 256)) (IntKind.u64.wrap (c.toNat : Int)) = (((256 * q + c.toNat) % 18446744073709551616 : Nat) : Int) := by
  have hc := c.toNat_lt
  have hw : ∀ x : Int, IntKind.u64.wrap x = x % 18446744073709551616 := fun x => rfl
  rw [hw, hw, show (q : Int) * 256 % 18446744073709551616 = ((256 * (q % 72057594037927936) : Nat) : Int) by omega, show (c.toNat : Int) % 18446744073709551616 = ((c.toNat : Nat) : Int) by omega,
    u64_or_nat _ _ (by omega) (by omega)]
  have := Nat.two_pow_add_eq_or_of_lt (i := 8) (b := c.toNat) (by omega) (q % 72057594037927936)
  simp only [Nat.reducePow] at this
  rw [← this]
  omega
/-- The number's three blocks. -/
def Trio (W : World) (B : Nat) (q : Nat × UInt8 × Nat) : Prop :=
  HasC W B 44 #[.int .u64 (q.1 : Int)] ∧ HasC W (B + 1) 5 #[.int .u8 (q.2.1.toNat : Int)] ∧ HasC W (B + 1 + 1) 3 #[.int .i64 (q.2.2 : Int)]
theorem own_trio {β : Type} (B : Nat) (f : β → Nat × UInt8 × Nat) : Own (fun s W => Trio W B (f s)) := fun s A C row hs hg hr =>
  ⟨own_hasC B 44 (fun s => #[.int .u64 ((f s).1 : Int)]) s A C row hs.1 hg hr, own_hasC (B + 1) 5 (fun s => #[.int .u8 ((f s).2.1.toNat : Int)]) s A C row hs.2.1 hg hr,
    own_hasC (B + 1 + 1) 3 (fun s => #[.int .i64 ((f s).2.2 : Int)]) s A C row hs.2.2 hg hr⟩
theorem Trio.set0 {W : World} {B : Nat} {q : Nat × UInt8 × Nat} (h : Trio W B q) (v : Nat) : Trio (W.setCell ⟨B, 0, none⟩ (.int .u64 (v : Int))) B (v, q.2.1, q.2.2) :=
  ⟨HasC.eq (h.1.set 0 _) rfl, h.2.1.far _ _ (by simp), h.2.2.far _ _ (by simp; omega)⟩

theorem grb_put {w V : World} {b D : Nat} (h : w.grownBy V (some b)) (hD : w.heap.size ≤ D) (o : Obj) : w.grownBy (V.putObj D o) (some b) :=
  ⟨h.os, h.tape, h.output, by have := h.size; simpa [World.putObj] using this, fun i hi hn => (World.putObj_heap_other (by omega)).trans (h.block i hi hn)⟩
/-- A world in which what was read is reckoned: the size, the reader, the sentinels, the deferred calls; and the value. -/
def NumR (am af : Addr) (N b D z : Nat) (s whole : ByteArray) (w V : World) : Prop :=
  HasC V (w.heap.size + 1 + 1) 3 #[.int .i64 (z : Int)] ∧ HasC V b 96 #[.string (s.extract z s.size), .string whole] ∧ Sent am af N V ∧ w.grownBy V (some b) ∧ V.heap[D]? = some (.deferred (some []))
theorem NumR.set {am af : Addr} {N b D z : Nat} {s whole : ByteArray} {w V : World} (h : NumR am af N b D z s whole w V) (hNb : N ≤ b) (hb : b < w.heap.size) (hD : w.heap.size + 1 + 1 + 1 < D) (p : Addr) (hp : p.block = w.heap.size ∨ p.block = w.heap.size + 1) (u : Value) :
    NumR am af N b D z s whole w (V.setCell p u) :=
  ⟨h.1.far _ _ (by omega), h.2.1.far _ _ (by omega), h.2.2.1.below ((Below.refl N V).setCell (p := p) (by omega) _) (Nat.le_refl _), grb_set h.2.2.2.1 _ (.inr (by omega)) _, (Below.heap_setCell _ _ _ _ (by omega)).trans h.2.2.2.2⟩
def NumD (am af : Addr) (N b D vv z : Nat) (s whole : ByteArray) (w V : World) : Prop := HasC V w.heap.size 44 #[.int .u64 (vv : Int)] ∧ NumR am af N b D z s whole w V
theorem NumD.on {am af : Addr} {N b D vv z : Nat} {s whole : ByteArray} {w V V' : World} (h : NumD am af N b D vv z s whole w V) (hb : Below V.heap.size V V') : NumD am af N b D vv z s whole w V' :=
  ⟨h.1.below hb h.1.lt, h.2.1.below hb h.2.1.lt, h.2.2.1.below hb h.2.2.1.lt, h.2.2.2.1.on hb, grb_below h.2.2.2.2.1 hb, (hb.block _ (Array.getElem?_eq_some_iff.1 h.2.2.2.2.2).1).trans h.2.2.2.2.2⟩
theorem NumD.first {am af : Addr} {N b D vv z m : Nat} {c : UInt8} {s whole : ByteArray} {w V : World} (hT : Trio V w.heap.size (m, c, z)) (h : NumR am af N b D z s whole w V) (e : vv = m) : NumD am af N b D vv z s whole w V :=
  ⟨by rw [e]; exact hT.1, h⟩
theorem NumD.third {am af : Addr} {N b D vv z m : Nat} {c : UInt8} {s whole : ByteArray} {w V : World} (hT : Trio V w.heap.size (m, c, z)) (h : NumR am af N b D z s whole w V) (hNb : N ≤ b) (hb : b < w.heap.size) (hD : w.heap.size + 1 + 1 + 1 < D) (y : Int) (e : y = vv) :
    NumD am af N b D vv z s whole w (V.setCell ⟨w.heap.size, 0, none⟩ (.int .u64 y)) :=
  ⟨by rw [e]; exact HasC.eq (hT.1.set 0 _) rfl, h.set hNb hb hD _ (.inl rfl) _⟩
theorem NumD.second {am af : Addr} {N b D vv z m : Nat} {c : UInt8} {s whole : ByteArray} {w V : World} (hT : Trio V w.heap.size (m, c, z)) (h : NumR am af N b D z s whole w V) (hNb : N ≤ b) (hb : b < w.heap.size) (hD : w.heap.size + 1 + 1 + 1 < D) (u u' : Value) (y : Int) (e : y = vv) :
    NumD am af N b D vv z s whole w (((V.setCell ⟨w.heap.size, 0, none⟩ u).setCell ⟨w.heap.size + 1, 0, none⟩ u').setCell ⟨w.heap.size, 0, none⟩ (.int .u64 y)) :=
  ⟨by rw [e]; exact HasC.eq ((((hT.1.set 0 _)).far _ _ (by simp)).set 0 _) rfl, ((h.set hNb hb hD _ (.inl rfl) _).set hNb hb hD _ (.inr rfl) _).set hNb hb hD _ (.inl rfl) _⟩
/-- What reading a number comes to. -/
def NumPost (am af : Addr) (s whole : ByteArray) (b : Nat) (w : World) (e : Ending) (W' : World) : Prop :=
  w.grownBy W' (some b) ∧ ((getL s.data.toList = .more ∧ e = .returned (.tuple #[.int .u64 0, .iface 128 (.pointer (some am))]) ∧ HasC W' b 96 #[.string s, .string whole]) ∨
    (getL s.data.toList = .bad ∧ e = .returned (.tuple #[.int .u64 0, .iface 128 (.pointer (some af))]) ∧ ∃ r, HasC W' b 96 #[.string r, .string whole]) ∨
    (∃ v k : Nat, getL s.data.toList = .ok v k ∧ e = .returned (.tuple #[.int .u64 (v : Int), .nilIface]) ∧ HasC W' b 96 #[.string (s.extract k s.size), .string whole]))

set_option maxRecDepth 100000 in
set_option maxHeartbeats 400000 in
theorem number_in {am af : Addr} {N : Nat} (n : Nat) (hn : 3 ≤ n) (b : Nat) (s whole : ByteArray) (hs : s.size ≤ maxLen) (w : World) (h : HasC w b 96 #[.string s, .string whole]) (hS : Sent am af N w) (hNb : N ≤ b) :
    CallsIn Fence.wide n Tryd.prog 49 #[.pointer (some ⟨b, 0, none⟩)] w (NumPost am af s whole b w) := by
  have h1 : 1 ≤ n := by omega
  have hlb := h.lt
  refine callsIn_of_wp_marks Tryd.func49 rfl trivial ?_ rfl
  simp only [Tryd.ntmps49, List.size_toArray, List.length_cons, List.length_nil, Nat.reduceAdd, Nat.reduceSub, Array.replicate_succ, Array.replicate_zero, List.push_toArray, List.append_toArray, List.nil_append, List.cons_append]
  gi_wp2
  refine wpIn_scope' ?_
  gi_wp2_with fail
  refine wpIn_label ?_
  gi_wp2_with fail
  refine ⟨trivial, ?_⟩
  refine (callsIn_wide.2 (bytes_any b _)).mono ?_
  rintro e w2 ⟨rfl, rfl⟩
  gi_wp2_with fail
  refine wpIn_mono (Q := fun e a' W => (e = .normal ∨ e = .exit 0) ∧ Trio W w.heap.size (rdN s.data.toList) ∧ Below w.heap.size w W ∧ ∃ D, w.heap.size + 1 + 1 + 1 < D ∧ W.heap[D]? = some (.deferred (some [])) ∧
    a' = { tmps := #[.pointer (some ⟨b, 0, none⟩), undef, .int .u64 0, .nilIface, .pointer (some ⟨w.heap.size, 0, none⟩), .pointer (some ⟨w.heap.size + 1, 0, none⟩), .pointer (some ⟨w.heap.size + 1 + 1, 0, none⟩), undef, undef, undef, undef, .pointer (some ⟨b, 0, none⟩), .pointer (some ⟨b, 0, none⟩), .pointer (some ⟨b, 0, none⟩), .func (.func 57) #[] #[.pointer (some ⟨w.heap.size + 1 + 1 + 1, 0, none⟩)], undef, undef, undef, undef, undef, undef, undef, undef, undef, undef, undef, undef, undef, undef, undef, undef, undef, undef, undef, undef, undef, undef, undef, undef, undef, undef, undef, undef, undef, undef, undef, undef, undef, undef, undef, undef, undef, undef, undef, undef, undef, undef, undef, undef, undef, undef, undef, undef, undef, undef, undef, undef], defers := [{ target := .collected D, args := #[] }] }) ?_ ?_
  · refine wpIn_rangeFunc_ownF rfl h1 (gf := 57) (lb := #[.pointer (some ⟨w.heap.size + 1 + 1 + 1, 0, none⟩)]) rfl trivial (enters_of Tryd.func57 (by kernel_rfl) rfl)
      (bytes_stops (n - 1) (by omega) (w.heap.size + 1 + 1 + 1) b s whole hs _ (HasC.at_ _ _ _ (by simp)) (HasC.alloc (HasC.alloc (HasC.alloc (HasC.alloc h _) _) _) _))
      (fun h k => ⟨k.1.trans h.1, k.2.trans h.2⟩)
      (fun W l o o' hl ho _ _ => ⟨World.putObj_heap_other (by simp at hl; omega), World.putObj_heap_other (by simp at hl; omega)⟩) (Below.refl _ _) (fun _ => rfl)
      (fun pre W => (Trio W w.heap.size (fld pre) ∧ noStop pre) ∧ Below w.heap.size w W)
      (fun c pre W => (c = .exit 0 ∧ ∃ pre' x, pre = pre' ++ [x] ∧ x.1 ≠ 0 ∧ x.1 = (fld pre').2.2 ∧ Trio W w.heap.size (fld pre')) ∧ Below w.heap.size w W)
      (OwnFrom.and (Own.from (fun s A C row hs hg hr => ⟨own_trio _ fld s A C row hs.1 hg hr, hs.2⟩) _) (ownFrom_below (Nat.le_refl _) (by simp; omega)))
      (fun c => OwnFrom.and (Own.from (fun s A C row hs hg hr => by
        obtain ⟨h0, pre', p, h1, h2, h3, h4⟩ := hs
        exact ⟨h0, pre', p, h1, h2, h3, own_trio _ (fun _ : Unit => _) () A C row h4 hg hr⟩) _) (ownFrom_below (Nat.le_refl _) (by simp; omega)))
      ⟨⟨⟨HasC.alloc (HasC.alloc (HasC.alloc (HasC.new _ _ _) _) _) _, HasC.alloc (HasC.alloc (HasC.at_ _ _ _ (by simp)) _) _, HasC.alloc (HasC.at_ _ _ _ (by simp)) _⟩, noStop_nil⟩,
        ((((Below.refl _ _).alloc (Nat.le_refl _) _).alloc (by simp) _).alloc (by simp; omega) _).alloc (by simp; omega) _⟩
      (fun x => { tmps := #[.pointer (some ⟨b, 0, none⟩), undef, .int .u64 0, .nilIface, .pointer (some ⟨w.heap.size, 0, none⟩), .pointer (some ⟨w.heap.size + 1, 0, none⟩), .pointer (some ⟨w.heap.size + 1 + 1, 0, none⟩), .int .i64 (x.1 : Int), .int .u8 (x.2.toNat : Int), undef, undef, .pointer (some ⟨b, 0, none⟩), .pointer (some ⟨b, 0, none⟩), .pointer (some ⟨b, 0, none⟩), .func (.func 57) #[] #[.pointer (some ⟨w.heap.size + 1 + 1 + 1, 0, none⟩)], .int .i64 (x.1 : Int), .int .u8 (x.2.toNat : Int), undef, undef, undef, undef, undef, undef, undef, undef, undef, undef, undef, undef, undef, undef, undef, undef, undef, undef, undef, undef, undef, undef, undef, undef, undef, undef, undef, undef, undef, undef, undef, undef, undef, undef, undef, undef, undef, undef, undef, undef, undef, undef, undef, undef, undef, undef, undef, undef, undef, undef], defers := [] }) ?assign ?body ?done ?stop
    case assign =>
      intro l x W K hK
      unfold encP
      gi_wp2
      exact hK
    case body =>
      rintro l pre ⟨i, c⟩ W ⟨⟨hT, hns⟩, hB⟩ _
      dsimp only
      obtain ⟨q, hq⟩ : ∃ q, q = fld pre := ⟨_, rfl⟩
      have HQ := Lib.hid hq
      rw [← hq] at hT
      have hst := fld_snoc pre (i, c)
      rw [← hq] at hst
      clear hq
      have HS := Lib.hid hst
      clear hst
      have c0 : W.cell? ⟨w.heap.size, 0, none⟩ = some (.int .u64 (q.1 : Int)) := hT.1.cell 0
      have c1 : W.cell? ⟨w.heap.size + 1, 0, none⟩ = some (.int .u8 (q.2.1.toNat : Int)) := hT.2.1.cell 0
      have c2 : W.cell? ⟨w.heap.size + 1 + 1, 0, none⟩ = some (.int .i64 (q.2.2 : Int)) := hT.2.2.cell 0
      have z0 := hT.1.frozen 0
      have z1 := hT.2.1.frozen 0
      have z2 := hT.2.2.frozen 0
      by_cases hi : i = 0
      · subst hi
        gi_wp2_with fail
        refine ⟨trivial, fun _ => by omega, ?_⟩
        refine (CallsIn.inRound l (callsIn_wide.2 (follow_any c W))).mono ?_
        rintro e w3 ⟨rfl, rfl⟩
        have hf8 := fol_byte c
        gi_wp2
        have e2 : ((1 : Int) + (fol c.toNat : Int)) = ((1 + fol c.toNat : Nat) : Int) := by omega
        refine ⟨(KeepsOthers.setCell _ _ _).trans (KeepsOthers.setCell _ _ _), ⟨?_, ?_⟩, ⟨?_, noStop_snoc hns (.inl rfl)⟩, (hB.setCell (p := ⟨w.heap.size + 1, 0, none⟩) (by simp) _).setCell (p := ⟨w.heap.size + 1 + 1, 0, none⟩) (by simp; omega) _⟩
        · rw [Below.heap_setCell _ _ _ _ (by simp; omega), Below.heap_setCell _ _ _ _ (by simp; omega)]
        · rw [Below.heap_setCell _ _ _ _ (by simp), Below.heap_setCell _ _ _ _ (by simp; omega)]
        · rw [HS.out, e2]
          exact ⟨(hT.1.far _ _ (by simp)).far _ _ (by simp; omega), (HasC.eq (hT.2.1.set 0 _) rfl).far _ _ (by simp), HasC.eq ((hT.2.2.far _ _ (by simp)).set 0 _) rfl⟩
      · by_cases hj : i = q.2.2
        · gi_wp2
          refine ⟨.refl _, ⟨rfl, pre, (i, c), rfl, hi, ?_, ?_⟩, hB⟩
          · rw [← HQ.out]; exact hj
          · rw [← HQ.out]; exact hT
        · gi_wp2
          rw [or_stp]
          refine ⟨KeepsOthers.setCell _ _ _, ⟨?_, ?_⟩, ⟨?_, noStop_snoc hns (.inr ?_)⟩, hB.setCell (p := ⟨w.heap.size, 0, none⟩) (Nat.le_refl _) _⟩
          · rw [Below.heap_setCell _ _ _ _ (by simp; omega)]
          · rw [Below.heap_setCell _ _ _ _ (by simp; omega)]
          · rw [HS.out]
            have e3 : stp q (i, c) = ((256 * q.1 + c.toNat) % 18446744073709551616, q.2.1, q.2.2) := by simp [stp, hi]
            rw [e3]
            exact hT.set0 _
          · rw [← HQ.out]; exact hj
    case done =>
      rintro D ys V hD rfl ⟨⟨hT, hns⟩, hB⟩ hK
      refine ⟨.inl rfl, ?_, hB, D, by simp at hD; omega, hK, rfl⟩
      rw [← done_rd _ hns]
      exact hT
    case stop =>
      rintro D c pre V hD hpre ⟨⟨rfl, pre', p, rfl, h0, hp, hT⟩, hB⟩ hK
      gi_wp2
      refine ⟨?_, by simp at hD; omega⟩
      rw [← stop_rd _ _ _ hpre h0 hp]
      exact hT
  · rintro e a2 W ⟨he, hT, hB, D, hD, hK, rfl⟩
    rename_i K0 hcont
    have hgo := hcont { tmps := #[.pointer (some ⟨b, 0, none⟩), undef, .int .u64 0, .nilIface, .pointer (some ⟨w.heap.size, 0, none⟩), .pointer (some ⟨w.heap.size + 1, 0, none⟩), .pointer (some ⟨w.heap.size + 1 + 1, 0, none⟩), undef, undef, undef, undef, .pointer (some ⟨b, 0, none⟩), .pointer (some ⟨b, 0, none⟩), .pointer (some ⟨b, 0, none⟩), .func (.func 57) #[] #[.pointer (some ⟨w.heap.size + 1 + 1 + 1, 0, none⟩)], undef, undef, undef, undef, undef, undef, undef, undef, undef, undef, undef, undef, undef, undef, undef, undef, undef, undef, undef, undef, undef, undef, undef, undef, undef, undef, undef, undef, undef, undef, undef, undef, undef, undef, undef, undef, undef, undef, undef, undef, undef, undef, undef, undef, undef, undef, undef, undef, undef, undef, undef, undef], defers := [{ target := .collected D, args := #[] }] } W
    suffices hk : K0 _ W by
      rcases he with rfl | rfl
      · exact hk
      · exact hk
    refine hgo (wpIn_wide.2 ?_)
    clear hgo hcont he
    dsimp only
    generalize hQf : Exit.noGoto (bodyPostM Fence.wide n Tryd.prog Tryd.f49 (NumPost am af s whole b w)) = Qf
    have HQF := Lib.hid hQf
    clear hQf
    have hb : HasC W b 96 #[.string s, .string whole] := h.below hB hlb
    have hSW : Sent am af N W := hS.on hB
    obtain ⟨q, hq⟩ : ∃ q, q = rdN s.data.toList := ⟨_, rfl⟩
    rw [← hq] at hT
    have c0 : W.cell? ⟨w.heap.size, 0, none⟩ = some (.int .u64 (q.1 : Int)) := hT.1.cell 0
    have c1 : W.cell? ⟨w.heap.size + 1, 0, none⟩ = some (.int .u8 (q.2.1.toNat : Int)) := hT.2.1.cell 0
    have c2 : W.cell? ⟨w.heap.size + 1 + 1, 0, none⟩ = some (.int .i64 (q.2.2 : Int)) := hT.2.2.cell 0
    have hz := hB.size
    by_cases hlen : s.size < q.2.2
    · have hmore : getL s.data.toList = .more := rd_more _ (by rw [← hq]; simpa using hlen)
      have HM := Lib.hid hmore
      have HL := Lib.hid hlen
      clear hmore hq hlen
      go_wp2
      refine region_mid 4 (fun V => HasC V (w.heap.size + 1 + 1) 3 #[.int .i64 (q.2.2 : Int)] ∧ HasC V b 96 #[.string s, .string whole] ∧ Sent am af N V ∧ Below w.heap.size w V ∧ V.heap[D]? = some (.deferred (some [])))
        (fun V => HasC V b 96 #[.string s, .string whole] ∧ Below w.heap.size w V ∧ V.heap[D]? = some (.deferred (some []))) (by kernel_rfl) (by kernel_rfl)
        ⟨hT.2.2.drew, hb.drew, hSW.on ((Below.refl _ _).drew), hB.drew, hK⟩ ?_
      intro hne
      have e0 : ∀ i : InC (fun V => HasC V (w.heap.size + 1 + 1) 3 #[.int .i64 (q.2.2 : Int)] ∧ HasC V b 96 #[.string s, .string whole] ∧ Sent am af N V ∧ Below w.heap.size w V ∧ V.heap[D]? = some (.deferred (some []))), i.w.cell? ⟨w.heap.size + 1 + 1, 0, none⟩ = some (.int .i64 (q.2.2 : Int)) := fun i => i.h.1.cell 0
      simp only [List.take_succ_cons, List.take_zero, List.drop_succ_cons, List.drop_zero]
      repeat (go_big_quiet_step (fail))
      refine wpQuiet_nil ?_
      clear e0 hne hT hb hSW c0 c1 c2 hK hB
      rintro ⟨w3, hC3, hb3, hS3, hB3, hK3⟩ K hKK
      dsimp only
      go_wp2_with (go_at_call 55; refine (take_no b _ s whole HL.out _ hb3 hS3).mono ?_; rintro e w4 ⟨rfl, m, rfl⟩)
      refine hKK _ _ ⟨hb3.drewN m, bel_drewN hB3 m, hK3⟩ ?_
      intro hne
      repeat (go_big_quiet_step (fail))
      refine wpQuiet_nil ?_
      clear hb3 hS3 hB3 hK3 hC3 hKK hne
      rintro ⟨w5, hb5, hB5, hK5⟩
      dsimp only
      go_wp2
      rw [← HQF.out, Exit.noGoto_ret]
      refine ⟨by simp, .inl ⟨_, _, rfl, run_takeDeferred hK5, ?_⟩⟩
      refine ⟨_, results_tmp2 rfl _ _ _, grb_put (grb_of_below hB5) (by omega) _, .inl ⟨HM.out, rfl, (World.putObj_heap_other (by omega)).trans hb5⟩⟩
    · obtain ⟨c, t, hl, hft, hrd, hm256⟩ := rd_else s.data.toList (by rw [← hq]; simpa using hlen)
      have hval := head_val c.toNat _ (by have := c.toNat_lt; omega) hm256
      have hget := get_cases s.data.toList
      obtain ⟨m, hm⟩ : ∃ m, m = numL (t.take (fol c.toNat)) := ⟨_, rfl⟩
      have hf8 := fol_byte c
      have hss : s.size = t.length + 1 := by
        have := congrArg List.length hl
        simpa using this
      rw [hq, hrd, ← hm] at hT c0 c1 c2
      rw [← hm] at hm256 hval
      have HL := Lib.hid hl
      have HG := Lib.hid hget
      have HV := Lib.hid hval
      have HMM := Lib.hid hm
      have hKs : 1 + fol c.toNat ≤ s.size := by omega
      have HKS := Lib.hid hKs
      dsimp only at hT c0 c1 c2
      obtain ⟨z, hz2⟩ : ∃ z, z = 1 + fol c.toNat := ⟨_, rfl⟩
      rw [← hz2] at hT c2 HKS
      have HZ := Lib.hid hz2
      clear hl hget hval hm hKs hss hft hq hrd hlen hz2
      go_wp2
      refine region_mid 4 (fun V => Trio V w.heap.size (m, c, z) ∧ HasC V b 96 #[.string s, .string whole] ∧ Sent am af N V ∧ Below w.heap.size w V ∧ V.heap[D]? = some (.deferred (some [])))
        (fun V => Trio V w.heap.size (m, c, z) ∧ HasC V b 96 #[.string (s.extract z s.size), .string whole] ∧ Sent am af N V ∧ w.grownBy V (some b) ∧ V.heap[D]? = some (.deferred (some []))) (by kernel_rfl) (by kernel_rfl)
        ⟨⟨hT.1.drew, hT.2.1.drew, hT.2.2.drew⟩, hb.drew, hSW.on ((Below.refl _ _).drew), hB.drew, hK⟩ ?_
      intro hne
      have e0 : ∀ i : InC (fun V => Trio V w.heap.size (m, c, z) ∧ HasC V b 96 #[.string s, .string whole] ∧ Sent am af N V ∧ Below w.heap.size w V ∧ V.heap[D]? = some (.deferred (some []))), i.w.cell? ⟨w.heap.size + 1 + 1, 0, none⟩ = some (.int .i64 (z : Int)) := fun i => i.h.1.2.2.cell 0
      simp only [List.take_succ_cons, List.take_zero, List.drop_succ_cons, List.drop_zero]
      repeat (go_big_quiet_step (fail))
      refine wpQuiet_nil ?_
      clear e0 hne hT hb hSW c0 c1 c2 hK hB
      rintro ⟨w3, hT3, hb3, hS3, hB3, hK3⟩ K hKK
      dsimp only
      go_wp2_with (go_at_call 55; refine (take_ok b z s whole HKS.out _ hb3).mono ?_; rintro e w4 ⟨rfl, rfl⟩)
      refine hKK _ _ ⟨⟨hT3.1.far _ _ (by simp; omega), hT3.2.1.far _ _ (by simp; omega), hT3.2.2.far _ _ (by simp; omega)⟩, HasC.eq (hb3.set 0 _) rfl, ?_, grb_set (grb_of_below hB3) _ (.inl rfl) _, ?_⟩ ?_
      · exact hS3.below ((Below.refl N _).setCell (p := ⟨b, 0, none⟩) hNb _) (Nat.le_refl _)
      · rw [Below.heap_setCell _ _ _ _ (by simp; omega)]
        exact hK3
      intro hne
      repeat (go_big_quiet_step (fail))
      refine wpQuiet_nil ?_
      clear hb3 hS3 hB3 hK3 hT3 hKK hne
      rintro ⟨w5, hT5, hb5, hS5, hg5, hK5⟩
      dsimp only
      have d0 : w5.cell? ⟨w.heap.size, 0, none⟩ = some (.int .u64 (m : Int)) := hT5.1.cell 0
      have d1 : w5.cell? ⟨w.heap.size + 1, 0, none⟩ = some (.int .u8 (c.toNat : Int)) := hT5.2.1.cell 0
      have z0 := hT5.1.frozen 0
      have z1 := hT5.2.1.frozen 0
      obtain ⟨vv, hvv⟩ : ∃ vv, vv = valN c.toNat m := ⟨_, rfl⟩
      have hvc := val_cases c.toNat m
      rw [← hvv] at hvc
      have hv64 : vv ≤ 18446744073709551615 := by have := HV.out.1; omega
      have HVV := Lib.hid hvv
      have HV64 := Lib.hid hv64
      clear hvv hv64
      have hcl := c.toNat_lt
      have hpw := pow_bytes
      have hfc := fol_cases c.toNat (by omega)
      have hmb : c.toNat ≤ 249 → m < 65536 := fun h => by
        have h1 := hm256
        have h2 : 256 ^ fol c.toNat ≤ 256 ^ 2 := Nat.pow_le_pow_right (by decide) (by omega)
        omega
      have HMB := Lib.hid hmb
      clear hfc hpw hm256 hmb hcl
      have hR5 : NumR am af N b D z s whole w w5 := ⟨hT5.2.2, hb5, hS5, hg5, hK5⟩
      clear hb5 hS5 hg5 hK5
      have hcase : (249 < c.toNat ∧ vv = m) ∨ (240 < c.toNat ∧ ¬ 249 < c.toNat ∧ m < 65536 ∧ vv = m + 256 * (c.toNat - 241) + 240) ∨ (¬ 240 < c.toNat ∧ m < 65536 ∧ vv = m + c.toNat) := by
        have := HMB.out
        omega
      clear hvc
      rcases hcase with ⟨h3, ev⟩ | ⟨h4, h3, hm2, ev⟩ | ⟨h4, hm2, ev⟩
      all_goals
        have HEV := Lib.hid ev
        clear ev
        go_wp2
        refine region_class (NumD am af N b D vv z s whole w) (by kernel_rfl) (by kernel_rfl) (NumD.on (by first
          | with_reducible exact NumD.first hT5 hR5 HEV.out
          | with_reducible exact NumD.second hT5 hR5 hNb hlb hD _ _ _ (by have := HEV.out; omega)
          | with_reducible exact NumD.third hT5 hR5 hNb hlb hD _ (by have := HEV.out; omega)) ((Below.refl _ _).drew)) ?_
        intro hne
        have e0 : ∀ i : InC (NumD am af N b D vv z s whole w), i.w.cell? ⟨w.heap.size, 0, none⟩ = some (.int .u64 (vv : Int)) := fun i => i.h.1.cell 0
        have e1 : ∀ i : InC (NumD am af N b D vv z s whole w), i.w.cell? ⟨w.heap.size + 1 + 1, 0, none⟩ = some (.int .i64 (z : Int)) := fun i => i.h.2.1.cell 0
        repeat (go_big_quiet_step ((go_at_call 22; refine (put_int _ vv rfl HV64.out _).mono ?_; rintro e w' ⟨rfl, hb⟩; exact ⟨rfl, ⟨_, NumD.on (InC.h _) hb⟩, rfl⟩)))
        refine wpQuiet_nil ?_
        clear e0 e1 hne hT5 hR5
        rintro ⟨w6, hD6⟩
        dsimp only
        have hend := num_end HL.out (by have := HKS.out; simpa using this) HZ.out HMM.out HVV.out
        rw [← putB_size] at hend
        rcases hend with ⟨hg, hps⟩ | ⟨hg, hps⟩
        · have HGG := Lib.hid hg
          have hf := hD6.2.2.2.1.field
          clear hg
          go_wp2
          go_quiet (fail)
          go_wp2
          rw [← HQF.out, Exit.noGoto_ret]
          refine ⟨by simp, .inl ⟨_, _, rfl, run_takeDeferred (hD6.2.2.2.2.2), ?_⟩⟩
          refine ⟨_, results_tmp2 rfl _ _ _, grb_put (grb_drewN hD6.2.2.2.2.1 _) (by omega) _, .inr (.inl ⟨HGG.out, rfl, _, (World.putObj_heap_other (by omega)).trans hD6.2.2.1⟩)⟩
        · have HGG := Lib.hid hg
          have c6 : w6.cell? ⟨w.heap.size, 0, none⟩ = some (.int .u64 (vv : Int)) := hD6.1.cell 0
          clear hg
          go_wp2
          rw [← HQF.out, Exit.noGoto_ret]
          refine ⟨by simp, .inl ⟨_, _, rfl, run_takeDeferred (hD6.2.2.2.2.2), ?_⟩⟩
          refine ⟨_, results_tmp2 rfl _ _ _, grb_put hD6.2.2.2.2.1 (by omega) _, .inr (.inr ⟨_, _, HGG.out, rfl, (World.putObj_heap_other (by omega)).trans hD6.2.2.1⟩)⟩
end Go.Proofs.YthbfibnpfdegaaaDoor
