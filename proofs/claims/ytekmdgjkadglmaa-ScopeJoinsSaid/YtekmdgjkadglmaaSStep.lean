/- Package scope: where a rune leads; whether a pattern stands for a value. -/
import Derived.Test.YtekmdgjkadglmaaSTake
namespace Go.Proofs.Ytekmdgjkadglmaa
open Go.RowKit

theorem zeroU (w : World) : (zeroValue 50).run Try.prog w = .ok (.agg #[]) w := by kernel_rfl
/-- How many places: none, just if there is none. -/
theorem wpList_len_pl {W : World} {ops : Array Oper} {rest : List Oper} {o : Oper} {a : Act} {Q : Exit → Act → World → Prop} (hg : o.guard = none) (mo : Operand) (hop : o.op = Op.call { callee := Callee.builtin Builtin.len, args := #[mo], argTypes := #[54] })
    {b m : Nat} {S : Nat → Prop} (hm : a.eval mo = .map (some b)) (hM : PlM W b m S)
    (h0 : (∀ k, k ≤ m → ¬ S k) → wpList Try.prog ops Q rest (a.put o.dst (.int .i64 0)) W) (h1 : ∀ z : Int, (z == 0) = false → wpList Try.prog ops Q rest (a.put o.dst (.int .i64 z)) W) : wpList Try.prog ops Q (o :: rest) a W := by
  obtain ⟨D, hown, hD⟩ := hM
  refine wpList_len_own W hg mo 54 hop 3 50 Try.underlying54 _ b _ D hm hown ?_
  obtain ⟨es, rfl, _, _⟩ := hown.entries law3
  cases es with
  | nil =>
    exact h0 fun k hk hs => by
      have := (hD (.int .i64 (k : Int))).2 ⟨k, rfl, hk, hs⟩
      simp [Maps.has] at this
  | cons p es =>
    exact h1 _ (by simp [Maps.size]; omega)
/-- Is it a place? -/
theorem wpList_look_pl {W : World} {ops : Array Oper} {rest : List Oper} {o : Oper} {a : Act} {Q : Exit → Act → World → Prop} (hg : o.guard = none) (mo xo : Operand) (hop : o.op = Op.lookup 54 mo xo true)
    {b m : Nat} {S : Nat → Prop} (hm : a.eval mo = .map (some b)) (hM : PlM W b m S) (k : Nat) (hx : a.eval xo = .int .i64 (k : Int)) (hk : k ≤ m) (hmm : m ≤ 10000)
    (h : ∀ q : Bool, (q = true ↔ S k) → wpList Try.prog ops Q rest (a.put o.dst (.tuple #[.agg #[], .bool q])) W) : wpList Try.prog ops Q (o :: rest) a W := by
  obtain ⟨D, hown, hD⟩ := hM
  refine wpList_lookup_own_unit W hg mo xo 54 hop 3 50 law3 Try.underlying54 (zeroU W) b _ D hm hown _ _ hx (key_nat (by omega)) (h _ ((hD _).trans ⟨?_, fun hs => ⟨k, rfl, hk, hs⟩⟩))
  rintro ⟨j, e, _, hs⟩
  obtain rfl : k = j := by simp at e; omega
  exact hs
/-- A range over places: what is left of them. -/
def RgM (W : World) (b r m : Nat) (D : DataW Unit) (left : Nat → Prop) (cnt : Nat) : Prop := ∃ f : Lit → Bool, W.ranges Try.prog 3 (unitElem (H := Unit)) b r (m + 1) D f cnt ∧ ∀ k : Nat, k ≤ m → (f (.int .i64 (k : Int)) = true ↔ left k)
theorem wpList_range_pl {W : World} {ops : Array Oper} {rest : List Oper} {o : Oper} {a : Act} {Q : Exit → Act → World → Prop} (hg : o.guard = none) (mo : Operand) (hop : o.op = Op.range 54 mo) {b m : Nat} {S : Nat → Prop}
    (hm : a.eval mo = .map (some b)) (hM : PlM W b m S)
    (h : ∀ (W' : World) (D : DataW Unit) (cnt : Nat), (∀ kl, Maps.has D kl = true ↔ ∃ k : Nat, kl = .int .i64 (k : Int) ∧ k ≤ m ∧ S k) → RgM W' b W.heap.size m D S cnt → W.grownBy W' none → W'.heap.size = W.heap.size + 1 →
      wpList Try.prog ops Q rest (a.put o.dst (.pointer (some ⟨W.heap.size, 0, none⟩))) W') : wpList Try.prog ops Q (o :: rest) a W := by
  obtain ⟨D, hown, hD⟩ := hM
  refine wpList_range_own W hg mo 54 hop 3 50 law3 Try.underlying54 _ b _ D hm hown fun W' h1 h2 h3 => h W' D _ hD ⟨_, h1, fun k hk => (hD _).trans ⟨?_, fun hs => ⟨k, rfl, hk, hs⟩⟩⟩ h2 h3
  rintro ⟨j, e, _, hs⟩
  obtain rfl : k = j := by simp at e; omega
  exact hs
theorem wpList_next_pl {W : World} {ops : Array Oper} {rest : List Oper} {o : Oper} {a : Act} {Q : Exit → Act → World → Prop} (hg : o.guard = none) (it : Operand) (hop : o.op = Op.next it false) {b r m : Nat} {D : DataW Unit} {left S : Nat → Prop} {cnt : Nat}
    (hit : a.eval it = .pointer (some ⟨r, 0, none⟩)) (hD : ∀ kl, Maps.has D kl = true ↔ ∃ k : Nat, kl = .int .i64 (k : Int) ∧ k ≤ m ∧ S k) (hR : RgM W b r m D left cnt)
    (hDone : (∀ k, k ≤ m → ¬ left k) → wpList Try.prog ops Q rest (a.put o.dst (.tuple #[.bool false])) W)
    (hMore : ∀ (k : Nat) (z : Int) (W' : World) (cnt' : Nat), z = (k : Int) → k ≤ m → S k → left k → RgM W' b r m D (fun j => left j ∧ j ≠ k) cnt' → cnt' < cnt → W.grownBy W' (some r) → W'.heap.size = W.heap.size →
      (Instr.entry (.pointer (some ⟨r, 0, none⟩))).run Try.prog W' = .ok (.tuple #[.int .i64 z, .agg #[]]) W' → wpList Try.prog ops Q rest (a.put o.dst (.tuple #[.bool true, .int .i64 z, .agg #[]])) W') : wpList Try.prog ops Q (o :: rest) a W := by
  obtain ⟨f, hrg, hf⟩ := hR
  refine wpList_next_ranges W hg it hop 3 law3 _ (Value.int .i64) (fun _ : Unit => .agg #[]) (fun key kl hk => by obtain ⟨x, rfl, _⟩ := Maps.keyOf_int_inv Try.underlying3 hk; exact ⟨x, rfl⟩)
    (fun v y hv => by obtain ⟨rfl, _⟩ := unitElem_inv hv; exact ⟨(), rfl⟩) b r _ D f cnt hit hrg (fun _ hl => hDone fun k hk hs => by have := (hf k hk).2 hs; rw [hl] at this; cases this) ?_
  intro x _ kl y W' cnt' hkey hlk _ hat hrg1 hlt hg1 hs1 hen
  obtain ⟨x', ex, rfl, _⟩ := Maps.keyOf_int_inv Try.underlying3 hkey
  cases ex
  obtain ⟨k, e, hk, hs⟩ := (hD _).1 (Maps.has_true_of_atKey hat)
  simp only [Lit.int.injEq, true_and] at e
  subst e
  refine hMore k _ W' cnt' rfl hk hs ((hf k hk).1 hlk) ⟨_, hrg1, fun j hj => ?_⟩ hlt hg1 hs1 hen
  rw [Bool.and_eq_true, hf j hj]
  refine and_congr_right fun _ => ?_
  rw [Bool.not_eq_true', ← Bool.not_eq_true, WideAt.sameKey_iff key_lit]
  simp only [Lit.int.injEq, true_and]
  omega
theorem RgM.kept {W W' : World} {b r m : Nat} {D : DataW Unit} {left : Nat → Prop} {cnt : Nat} {row : Option Nat} (h : RgM W b r m D left cnt) (hg : W.grownBy W' row) (hb : some b ≠ row) (hr : some r ≠ row) : RgM W' b r m D left cnt := by
  obtain ⟨f, h1, h2⟩ := h
  exact ⟨f, h1.kept hg hb hr, h2⟩
theorem RgM.left_eq {W : World} {b r m : Nat} {D : DataW Unit} {left : Nat → Prop} {cnt : Nat} (h : RgM W b r m D left cnt) : W.rangeLeft b r = cnt := by obtain ⟨f, h1, _⟩ := h; exact h1.left_eq

set_option maxHeartbeats 2000000 in
set_option maxRecDepth 100000 in
theorem step_any (P : List Tok) (ao : Option Addr) (cp n0 mb : Nat) (c : ByteArray) (S : Nat → Prop) (z : Int) (w : World) (hz : z = (rnum c : Int)) (hP : P.length ≤ 3000) (hR : RuneT P) (hc : isRune c) (hv : PatAt n0 ao P w) (hn0 : n0 ≤ w.heap.size) (hM : PlM w mb P.length S) :
    Calls Try.prog 22 #[.slice ao P.length cp, .map (some mb), .int .i32 z] w fun e w' => (∃ nb, e = .returned (.map (some nb)) ∧ n0 ≤ nb ∧ PlM w' nb P.length (fun k => ∃ i, S i ∧ i < P.length ∧ takeP P i c k)) ∧ w.grownBy w' none := by
  obtain ⟨m, hm⟩ : ∃ m, m = P.length := ⟨_, rfl⟩
  have HM := Lib.hid hm
  have T1 := Lib.hid (fun i S' W hi hvW hMW => take_any P ao cp n0 w.heap.size i c S' W hi hP hR hc hvW hn0 hMW)
  rw [← hz] at T1
  rw [← hm] at T1 hM hP ⊢
  have HV := Lib.hid hv
  have hmb := hM.lt
  have HPM := Lib.hid hM
  have hmm := @run_makeMap Try.prog
  clear hm hv hM hR hc hz
  go_enter Try.func22, Try.ntmps22
  go_wp2_with (at_range; refine wpList_range_pl (by rfl) (.tmp 10) (by rfl) (by rfl) (HPM.out.alloc _) ?_; intro w1 D cnt hD hr1 hg1 hs1)
  go_frame
  have hnew : PlM w1 w.heap.size m (fun _ => False) := (plM_made w m).kept hg1 (by simp)
  have hgr : w.grownBy w1 none := (World.grownBy_alloc w (.map #[] 0) none).trans hg1
  have hsz0 : (w.alloc (.map #[] 0)).heap.size = w.heap.size + 1 := by simp
  rw [hsz0] at hr1 hs1 ⊢
  have HD := Lib.hid hD
  clear hmm hD hg1 hsz0
  go_loopw [8] (fun _ wr => ∃ (left : Nat → Prop) (cnt : Nat), RgM wr mb (w.heap.size + 1) m D left cnt ∧ Hid (∀ k, left k → S k) ∧ PlM wr w.heap.size m (fun k => ∃ i, S i ∧ ¬ left i ∧ i < m ∧ takeP P i c k) ∧ w.grownBy wr none ∧ w.heap.size + 2 ≤ wr.heap.size) (fun _ wr => wr.rangeLeft mb (w.heap.size + 1))
  case atStart => exact ⟨S, cnt, hr1, fun _ h => h, hnew.congr fun k _ => by constructor; exact fun h => h.elim; rintro ⟨i, h1, h2, _⟩; exact h2 h1, hgr, by omega⟩
  case round =>
    obtain ⟨left, cnt2, hrg, hls, hMr, hgw, hszr⟩ := hrel
    have HGW := Lib.hid hgw
    have HLS := Lib.hid hls
    have HMR := Lib.hid hMr
    have HRG := Lib.hid hrg
    clear hgw hls hMr hrg hr1 hnew hgr
    have hne1 : mb ≠ w.heap.size + 1 := by omega
    have hne2 : mb ≠ w.heap.size := by omega
    go_wp2_with (at_next; refine wpList_next_pl (by rfl) (.tmp 11) (by rfl) (by rfl) HD.out HRG.out ?_ ?_)
    · intro hl0
      have hfin : PlM wr w.heap.size m (fun k => ∃ i, S i ∧ i < m ∧ takeP P i c k) := HMR.out.congr fun k _ => by
        constructor
        · rintro ⟨i, h1, _, h3⟩; exact ⟨i, h1, h3⟩
        · rintro ⟨i, h1, h3⟩; exact ⟨i, h1, hl0 i (by omega), h3⟩
      clear HMR HRG hl0
      go_wp2_with fail
      go_ret
      exact ⟨⟨_, rfl, hn0, hfin⟩, HGW.out⟩
    · rintro k z1 W1 cnt1 rfl hk hSk hlk hrg1 hcnt hg1 hs1 hen
      have hgW := HGW.out.andThen hg1 (fun j e => .inl (by have := Option.some.inj e; omega))
      have hM1 := HMR.out.kept hg1 (by intro e; have := Option.some.inj e; omega)
      have HG := Lib.hid hgW
      have HM1 := Lib.hid hM1
      have HR1 := Lib.hid hrg1
      have hls2 : Hid (∀ j, (left j ∧ j ≠ k) → S j) := fun j h => HLS.out j h.1
      by_cases hlt : k < m
      · have T2 := Lib.hid (T1.out k _ W1 hlt (HV.out.kept (hgW.but (some n0)) (Nat.le_refl _)) hM1)
        have hzl : (k : Int) < (m : Int) := by omega
        clear hM1 hrg1 hgW hg1 T1 hlk
        go_wp2_with fail
        with_reducible refine T2.out.mono ?_
        rintro e w3 ⟨rfl, hM3, hg3⟩
        have hM4 : PlM w3 w.heap.size m (fun q => ∃ i, S i ∧ ¬ (left i ∧ i ≠ k) ∧ i < m ∧ takeP P i c q) := hM3.congr fun q _ => by
          constructor
          · rintro (⟨i, h1, h2, h3⟩ | h)
            · exact ⟨i, h1, fun h => h2 h.1, h3⟩
            · exact ⟨k, hSk, fun h => h.2 rfl, hlt, h⟩
          · rintro ⟨i, h1, h2, h3, h4⟩
            by_cases he : i = k
            · subst he; exact .inr h4
            · exact .inl ⟨i, h1, fun h => h2 ⟨h, he⟩, h3, h4⟩
        have hr4 := HR1.out.kept hg3 (by intro e; have := Option.some.inj e; omega) (by intro e; have := Option.some.inj e; omega)
        have hg4 := HG.out.andThen hg3 (fun j e => .inl (by have := Option.some.inj e; omega))
        have hs4 := hg3.size
        clear hM3 hg3 T2 hen
        go_wp2_with fail
        go_roundw
        case rel => exact ⟨_, cnt1, hr4, hls2, hM4, hg4, by omega⟩
        case measure => rw [hr4.left_eq, HRG.out.left_eq]; omega
      · have hM4 : PlM W1 w.heap.size m (fun q => ∃ i, S i ∧ ¬ (left i ∧ i ≠ k) ∧ i < m ∧ takeP P i c q) := hM1.congr fun q _ => by
          constructor
          · rintro ⟨i, h1, h2, h3⟩
            exact ⟨i, h1, fun h => h2 h.1, h3⟩
          · rintro ⟨i, h1, h2, h3, h4⟩
            have he : i ≠ k := by omega
            exact ⟨i, h1, fun h => h2 ⟨h, he⟩, h3, h4⟩
        have hzl : ¬ (k : Int) < (m : Int) := by omega
        clear hM1 hrg1 hgW hg1 T1 hlk
        go_wp2_with fail
        go_roundw
        case rel => exact ⟨_, cnt1, HR1.out, hls2, hM4, HG.out, by omega⟩
        case measure => rw [HR1.out.left_eq, HRG.out.left_eq]; omega
end Go.Proofs.Ytekmdgjkadglmaa
