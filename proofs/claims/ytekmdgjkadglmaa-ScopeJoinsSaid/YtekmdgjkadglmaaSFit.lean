/- Package scope: the places in a pattern, in a map. -/
import Derived.Test.YtekmdgjkadglmaaSPat
import Derived.Maps.RangeWalk
import Derived.Maps.OwnSet
namespace Go.Proofs.Ytekmdgjkadglmaa
open Go.RowKit

theorem law3 : Maps.Keyed Try.prog 3 := Maps.int_keyed Try.underlying3
theorem key_nat {k : Nat} (h : k ≤ 100000) : keyOf Try.prog 3 (.int .i64 (k : Int)) = some (.int .i64 (k : Int)) := Maps.keyOf_int_mk Try.underlying3 (WalkArith.wf_i64 (by omega))
theorem nodup_le : ∀ (m : Nat) (l : List Nat), l.Nodup → (∀ x ∈ l, x < m) → l.length ≤ m := by
  intro m
  induction m with
  | zero => intro l _ h; cases l with
    | nil => exact Nat.le_refl _
    | cons x l => exact absurd (h x (List.mem_cons_self ..)) (by omega)
  | succ m ih =>
    intro l hn h
    by_cases hm : m ∈ l
    · have := ih (l.erase m) (hn.erase m) fun x hx => by
        have h1 := (hn.mem_erase_iff).1 hx
        have := h x h1.2
        have := h1.1
        omega
      rw [List.length_erase_of_mem hm] at this
      omega
    · have := ih l hn fun x hx => by
        have := h x hx
        have : x ≠ m := fun e => hm (e ▸ hx)
        omega
      omega
/-- Block b is a map whose keys are these places, all of them at most m. -/
def PlM (W : World) (b m : Nat) (S : Nat → Prop) : Prop :=
  ∃ D, W.ownsMap Try.prog 3 (unitElem (H := Unit)) b (m + 1) D ∧ ∀ kl, Maps.has D kl = true ↔ ∃ k : Nat, kl = .int .i64 (k : Int) ∧ k ≤ m ∧ S k

theorem PlM.lt {W : World} {b m : Nat} {S : Nat → Prop} (h : PlM W b m S) : b < W.heap.size := by obtain ⟨D, h, _⟩ := h; exact h.lt
theorem PlM.kept {W W' : World} {b m : Nat} {S : Nat → Prop} {row : Option Nat} (h : PlM W b m S) (hg : W.grownBy W' row) (hne : some b ≠ row) : PlM W' b m S := by
  obtain ⟨D, h1, h2⟩ := h
  exact ⟨D, h1.kept hg hne, h2⟩
theorem PlM.alloc {W : World} {b m : Nat} {S : Nat → Prop} (h : PlM W b m S) (o : Obj) : PlM (W.alloc o) b m S := h.kept (World.grownBy_alloc W o none) (by simp)
theorem PlM.congr {W : World} {b m : Nat} {S S' : Nat → Prop} (h : PlM W b m S) (he : ∀ k, k ≤ m → (S k ↔ S' k)) : PlM W b m S' := by
  obtain ⟨D, h1, h2⟩ := h
  refine ⟨D, h1, fun kl => (h2 kl).trans ⟨?_, ?_⟩⟩
  · rintro ⟨k, e, hk, hs⟩; exact ⟨k, e, hk, (he k hk).1 hs⟩
  · rintro ⟨k, e, hk, hs⟩; exact ⟨k, e, hk, (he k hk).2 hs⟩
theorem plM_made (W : World) (m : Nat) : PlM (W.alloc (.map #[] 0)) W.heap.size m (fun _ => False) :=
  ⟨.map [], (World.ownsMap_made W _ _ _).mono (Nat.zero_le _), fun kl => ⟨fun h => by simp [Maps.has] at h, fun ⟨_, _, _, h⟩ => h.elim⟩⟩
theorem owns_renorm {H : Type} {P : Program} {k : TypeId} {R : Value → Option (DataW H × List MemPlace)} {w : World} {b n : Nat} {D : DataW H} (h : w.ownsMap P k R b n D) : w.ownsMap P k R b (Maps.size D) D := by
  obtain ⟨es, clock, hb, F, _, rfl⟩ := h
  exact ⟨es, clock, hb, F, by rw [Maps.size_eq, length_read]; exact Nat.le_refl _, rfl⟩
/-- How many places there can be. -/
theorem owns_size {w : World} {b n m : Nat} {D : DataW Unit} (h : w.ownsMap Try.prog 3 (unitElem (H := Unit)) b n D) (hk : ∀ kl, Maps.has D kl = true → ∃ k : Nat, kl = .int .i64 (k : Int) ∧ k ≤ m) : Maps.size D ≤ m + 1 := by
  obtain ⟨es, rfl, hp, hkey⟩ := h.entries law3
  rw [Maps.size_eq]
  have hnum : ∀ p ∈ es, ∃ k : Nat, p.1 = .int .i64 (k : Int) ∧ k ≤ m := fun p hpm => hk p.1 (List.any_eq_true.2 ⟨p, hpm, WideAt.sameKey_self (hkey p hpm)⟩)
  let f : Lit × DataW Unit → Nat := fun p => match p.1 with | .int _ k => k.toNat | _ => 0
  have hl : (es.map f).length ≤ m + 1 := by
    refine nodup_le _ _ ?_ ?_
    · refine List.pairwise_map.2 (List.Pairwise.imp_of_mem ?_ hp)
      intro p q hpm hqm hne he
      obtain ⟨k, e1, _⟩ := hnum p hpm
      obtain ⟨j, e2, _⟩ := hnum q hqm
      have h1 : f p = k := by simp [f, e1]
      have h2 : f q = j := by simp [f, e2]
      rw [h1, h2] at he
      exact hne (by rw [e1, e2, he])
    · intro x hx
      obtain ⟨p, hpm, rfl⟩ := List.mem_map.1 hx
      obtain ⟨k, e1, hk⟩ := hnum p hpm
      have h1 : f p = k := by simp [f, e1]
      omega
  rwa [List.length_map] at hl
theorem key_lit {k : Nat} : WideAt.IsKeyLit (.int .i64 (k : Int)) := trivial
/-- A place more, at the operation. -/
theorem wpList_put {W : World} {ops : Array Oper} {rest : List Oper} {o : Oper} {a : Act} {Q : Exit → Act → World → Prop} (hg : o.guard = none) (mo xo vo : Operand)
    (hop : o.op = Op.mapUpdate 54 mo xo vo) {b m : Nat} {S : Nat → Prop} (hm : a.eval mo = .map (some b)) (hM : PlM W b m S) (k : Nat) (hx : a.eval xo = .int .i64 (k : Int)) (hv : a.eval vo = .agg #[]) (hk : k ≤ m) (hmm : m ≤ 10000)
    (h : ∀ W', PlM W' b m (fun j => S j ∨ j = k) → W.grownBy W' (some b) → wpList Try.prog ops Q rest (a.put o.dst undef) W') : wpList Try.prog ops Q (o :: rest) a W := by
  obtain ⟨D, hown, hD⟩ := hM
  refine wpList_mapUpdate_own W hg mo xo vo 54 hop 3 50 law3 Try.underlying54 _ b _ D hm hown (by unfold maxLen; omega) _ _ (.int .i64 (k : Int)) hx hv (key_nat (by omega)) (.agg []) [] unitElem_mk fun W' h1 h2 => h W' ?_ h2
  have hhas : ∀ kl, Maps.has (D.put (.int .i64 (k : Int)) (.agg [])) kl = true ↔ ∃ j : Nat, kl = .int .i64 (j : Int) ∧ j ≤ m ∧ (S j ∨ j = k) := fun kl => by
    by_cases he : kl = .int .i64 (k : Int)
    · rw [he, Maps.has_put_same hown.isMap key_lit]
      exact ⟨fun _ => ⟨k, rfl, hk, .inr rfl⟩, fun _ => rfl⟩
    · rw [Maps.has_put_other he, hD]
      constructor
      · rintro ⟨j, e, h1, h2⟩; exact ⟨j, e, h1, .inl h2⟩
      · rintro ⟨j, e, h1, h2 | rfl⟩
        · exact ⟨j, e, h1, h2⟩
        · exact absurd e he
  exact ⟨_, (owns_renorm h1).mono (owns_size h1 fun kl hkl => by obtain ⟨j, e, hj, _⟩ := (hhas kl).1 hkl; exact ⟨j, e, hj⟩), hhas⟩

/-- Signs that lie below a block. -/
def PatAt (n0 : Nat) (ao : Option Addr) (P : List Tok) (w : World) : Prop := ∀ j (hj : j < P.length), ∃ g o, ao = some ⟨g, o, none⟩ ∧ g < n0 ∧ w.cell? ⟨g, o + j, none⟩ = some (pcV P[j])
theorem PatAt.kept {n0 nb : Nat} {ao : Option Addr} {P : List Tok} {w W : World} (h : PatAt n0 ao P w) (hb : w.grownBy W (some nb)) (hn : n0 ≤ nb) : PatAt n0 ao P W := fun j hj => by
  obtain ⟨g, o, h1, h2, h3⟩ := h j hj
  refine ⟨g, o, h1, h2, ?_⟩
  rw [World.cell?_of_block (hb.block g (World.block_lt_of_cell? _ _ h3) (by intro e; have := Option.some.inj e; omega))]
  exact h3
theorem PatSl.at_ {w : World} {v : Value} {P : List Tok} (h : PatSl w v P) : ∃ ao c, v = .slice ao P.length c ∧ PatAt w.heap.size ao P w := by
  rcases h with ⟨a, c, rfl, rfl⟩ | ⟨g, o, c, rfl, hg, hc⟩
  · exact ⟨a, c, rfl, fun j hj => absurd hj (by simp)⟩
  · exact ⟨_, _, rfl, fun j hj => ⟨g, o, rfl, hg, hc j hj⟩⟩

/-- Where it ends, all has been reached. -/
theorem reach_all {P : List Tok} {S : Nat → Prop} {i k j : Nat} (hik : i ≤ k) (hk : k ≤ P.length) (hst : ∀ t, i ≤ t → t < k → P[t]? = some .star) (hend : P[k]? ≠ some .star) :
    (S j ∨ (i ≤ j ∧ j ≤ k)) ↔ (S j ∨ reachP P i j) := by
  have : (i ≤ j ∧ j ≤ k) ↔ reachP P i j := by
    constructor
    · rintro ⟨h1, h2⟩; exact ⟨h1, by omega, fun t h3 h4 => hst t h3 (by omega)⟩
    · rintro ⟨h1, h2, h3⟩
      refine ⟨h1, ?_⟩
      by_cases h : j ≤ k
      · exact h
      · exact absurd (h3 k hik (by omega)) hend
  rw [this]
theorem meth_many (w : World) : (method 198 51 (.agg #[]) "aviary/scope.free").run Try.prog w = .ok (56, .agg #[]) w := by kernel_rfl
theorem meth_one (w : World) : (method 198 52 (.agg #[]) "aviary/scope.free").run Try.prog w = .ok (57, .agg #[]) w := by kernel_rfl
theorem meth_self (r : Int) (w : World) : (method 198 49 (.int .i32 r) "aviary/scope.free").run Try.prog w = .ok (55, .int .i32 r) w := by kernel_rfl
theorem free_many (w : World) : Calls Try.prog 56 #[.agg #[]] w fun e w' => e = .returned (.bool true) ∧ ∃ o, w' = w.alloc o := by
  go_enter Try.func56, Try.ntmps56
  go_wp2
  go_ret
  exact ⟨rfl, _, rfl⟩
theorem free_one (w : World) : Calls Try.prog 57 #[.agg #[]] w fun e w' => e = .returned (.bool false) ∧ ∃ o, w' = w.alloc o := by
  go_enter Try.func57, Try.ntmps57
  go_wp2
  go_ret
  exact ⟨rfl, _, rfl⟩
theorem free_self (r : Int) (w : World) : Calls Try.prog 55 #[.int .i32 r] w fun e w' => e = .returned (.bool false) ∧ w' = w := by
  go_enter Try.func55, Try.ntmps55
  go_wp2
  go_ret
  exact ⟨rfl, rfl⟩
set_option maxHeartbeats 1000000 in
set_option maxRecDepth 100000 in
theorem reach_any (P : List Tok) (ao : Option Addr) (cp n0 nb i : Nat) (S : Nat → Prop) (w : World) (hi : i ≤ P.length) (hP : P.length ≤ 3000) (hv : PatAt n0 ao P w) (hnb : n0 ≤ nb) (hM : PlM w nb P.length S) :
    Calls Try.prog 21 #[.slice ao P.length cp, .map (some nb), .int .i64 (i : Int)] w fun e w' => e = .returned (.tuple #[]) ∧ PlM w' nb P.length (fun k => S k ∨ reachP P i k) ∧ w.grownBy w' (some nb) := by
  obtain ⟨m, hm⟩ : ∃ m, m = P.length := ⟨_, rfl⟩
  have HM := Lib.hid hm
  rw [← hm] at hi hP hM ⊢
  have HV := Lib.hid hv
  have HPM := Lib.hid hM
  clear hm hv hM
  go_enter Try.func21, Try.ntmps21
  go_wp2_with (at_mapUpdate; refine wpList_put (by rfl) (.tmp 6) (.tmp 7) (.tmp 8) (by rfl) (by rfl) HPM.out i (by rfl) (by rfl) hi (by omega) ?_; intro w1 hM1 hg1)
  go_frame
  go_loopw [2] (fun s wr => ∃ k : Nat, i ≤ k ∧ k ≤ m ∧ s = .int .i64 (k : Int) ∧ PlM wr nb m (fun j => S j ∨ (i ≤ j ∧ j ≤ k)) ∧ Hid (∀ t, i ≤ t → t < k → P[t]? = some .star) ∧ w.grownBy wr (some nb)) (fun s _ => m - (intOf s).toNat)
  case atStart => exact ⟨i, Nat.le_refl _, hi, rfl, hM1.congr fun j _ => by constructor <;> (rintro (h | h); exact .inl h; exact .inr (by omega)), fun t h1 h2 => by omega, hg1⟩
  case round =>
    obtain ⟨k, hik, hkm, rfl, hMk, hst, hgk⟩ := hrel
    by_cases hlt : k < m
    · have hkP : k < P.length := by have := HM.out; omega
      obtain ⟨g, o, rfl, hg, hc⟩ := (HV.out.kept hgk hnb) k hkP
      obtain ⟨x, hx⟩ : ∃ x, x = P[k] := ⟨_, rfl⟩
      have hpx : P[k]? = some x := by rw [List.getElem?_eq_getElem hkP, hx]
      have HPX := Lib.hid hpx
      rw [← hx] at hc
      clear hx hpx
      have HGK := Lib.hid hgk
      have hnbw : nb < wr.heap.size := hMk.lt
      cases x with
      | star =>
        have hc2 : wr.cell? ⟨g, o + k, none⟩ = some (.iface 51 (.agg #[])) := hc
        have hme := meth_many
        have HMK := Lib.hid hMk
        clear hc hgk hMk
        go_wp2_with fail
        with_reducible refine (free_many _).mono ?_
        rintro e w3 ⟨rfl, ob, rfl⟩
        have hM3 := HMK.out.alloc ob
        have hg3 := HGK.out.trans (World.grownBy_alloc wr ob (some nb))
        have HM3 := Lib.hid hM3
        have HG3 := Lib.hid hg3
        generalize wr.alloc ob = w4 at HM3 HG3 ⊢
        clear hM3 hg3 HMK HGK hme hc2
        go_wp2_with (at_mapUpdate; refine wpList_put (by rfl) (.tmp 22) (.tmp 24) (.tmp 25) (by rfl) (by rfl) HM3.out (k + 1) (by first | rfl | simp) (by rfl) (by omega) (by omega) ?_; intro w5 hM5 hg5)
        have hM6 : PlM w5 nb m (fun j => S j ∨ (i ≤ j ∧ j ≤ k + 1)) := hM5.congr fun j _ => by
          constructor
          · rintro ((h | h) | h)
            · exact .inl h
            · exact .inr (by omega)
            · exact .inr (by omega)
          · rintro (h | h)
            · exact .inl (.inl h)
            · by_cases h2 : j = k + 1
              · exact .inr h2
              · exact .inl (.inr (by omega))
        have hg6 := HG3.out.trans hg5
        have hst2 : Hid (∀ t, i ≤ t → t < k + 1 → P[t]? = some .star) := fun t h1 h2 => by
          by_cases h : t = k
          · rw [h]; exact HPX.out
          · exact hst.out t h1 (by omega)
        clear hM5 hg5 hst HM3 HG3
        go_wp2_with fail
        go_roundw
        case rel => exact ⟨k + 1, by omega, by omega, by go_num, hM6, hst2, hg6⟩
        case measure => simp [intOf]; omega
      | any =>
        have hc2 : wr.cell? ⟨g, o + k, none⟩ = some (.iface 52 (.agg #[])) := hc
        have hme := meth_one
        have hfin : PlM wr nb m (fun j => S j ∨ reachP P i j) := hMk.congr fun j _ => reach_all hik (by have := HM.out; omega) hst.out (by rw [HPX.out]; simp)
        clear hc hgk hMk
        go_wp2_with fail
        with_reducible refine (free_one _).mono ?_
        rintro e w3 ⟨rfl, ob, rfl⟩
        have hM3 := hfin.alloc ob
        have hg3 := HGK.out.trans (World.grownBy_alloc wr ob (some nb))
        clear HGK hme hc2 hfin
        go_wp2_with fail
        go_end0
        exact ⟨rfl, hM3, hg3⟩
      | ex c =>
        have hc2 : wr.cell? ⟨g, o + k, none⟩ = some (.iface 49 (.int .i32 (rnum c : Int))) := hc
        obtain ⟨ri, hri⟩ : ∃ ri : Int, ri = (rnum c : Int) := ⟨_, rfl⟩
        rw [← hri] at hc2
        have hme := meth_self ri
        have hfin : PlM wr nb m (fun j => S j ∨ reachP P i j) := hMk.congr fun j _ => reach_all hik (by have := HM.out; omega) hst.out (by rw [HPX.out]; simp)
        clear hc hgk hMk hri
        go_wp2_with fail
        with_reducible refine (free_self _ _).mono ?_
        rintro e w3 ⟨rfl, rfl⟩
        clear hme hc2
        go_wp2_with fail
        go_end0
        exact ⟨rfl, hfin, HGK.out⟩
    · obtain rfl : k = m := by omega
      have hfin : PlM wr nb k (fun j => S j ∨ reachP P i j) := hMk.congr fun j _ => reach_all hik (by have := HM.out; omega) hst.out (by rw [List.getElem?_eq_none (by have := HM.out; omega)]; simp)
      have HGK := Lib.hid hgk
      clear hMk hgk
      go_wp2_with fail
      go_end0
      exact ⟨rfl, hfin, HGK.out⟩
end Go.Proofs.Ytekmdgjkadglmaa
