/- Package scope: what a pattern's runes stand for. -/
import Derived.Test.YtekmdgjkadglmaaSPatM
import Derived.Test.YtekmdgjkadglmaaLCheck
import Derived.Lib.OthersKept
import Derived.Maps.AppendAt
namespace Go.Proofs.Ytekmdgjkadglmaa
open Go.RowKit

/-- A sign, as it lies in memory. -/
def pcV : Tok → Value
  | .star => .iface 51 (.agg #[])
  | .any => .iface 52 (.agg #[])
  | .ex c => .iface 49 (.int .i32 (rnum c : Int))
theorem pcV_one (T : List Tok) : ∀ u ∈ T.map pcV, u.oneCell' = true := by
  intro u hu
  obtain ⟨x, _, rfl⟩ := List.mem_map.1 hu
  cases x <;> rfl
/-- A list of signs, as it lies in memory. -/
def PatSl (w : World) (v : Value) (P : List Tok) : Prop :=
  (∃ a c, v = .slice a 0 c ∧ P = []) ∨ ∃ g o c, v = .slice (some ⟨g, o, none⟩) P.length c ∧ g < w.heap.size ∧ ∀ j (hj : j < P.length), w.cell? ⟨g, o + j, none⟩ = some (pcV P[j])
theorem PatSl.below {w w' : World} {v : Value} {P : List Tok} (h : PatSl w v P) (hb : Below w.heap.size w w') : PatSl w' v P := by
  rcases h with h | ⟨g, o, c, h1, h2, h3⟩
  · exact .inl h
  · exact .inr ⟨g, o, c, h1, Nat.lt_of_lt_of_le h2 hb.size, fun j hj => (hb.cell (p := ⟨g, o + j, none⟩) h2).trans (h3 j hj)⟩
theorem patSl_of_owns {B : Nat} {v : Value} {T : List Tok} {w : World} (h : w.ownsRow B 69 1 v T.length (T.map pcV)) : PatSl w v T := by
  rcases h.2 with ⟨hv, h0⟩ | ⟨g, cap, cur, hv, _, hg, _⟩
  · exact .inl ⟨none, 0, hv, List.length_eq_zero_iff.1 h0⟩
  · subst hv
    refine .inr ⟨g, 0, cap, rfl, (Array.getElem?_eq_some_iff.1 hg).1, fun j hj => ?_⟩
    have h1 := h.cells (g := g) rfl j (pcV T[j]) (by simp [hj])
    rw [add_block] at h1
    rw [Nat.zero_add]
    exact h1
theorem infoPc : (Try.prog.info? 69).map (fun i => (i.zero, i.size, i.bytes)) = some (some .nilIface, 1, 16) := by kernel_rfl
theorem lbl_one (w : World) (a b : ByteArray) (T : Nat) : LblSl (w.alloc (Obj.cells #[.string a, .string b] T)) (.slice (some ⟨w.heap.size, 0, none⟩) 1 1) [(a, b)] := by
  refine .inr ⟨w.heap.size, 0, 1, rfl, by simp, fun j hj => ?_⟩
  obtain rfl : j = 0 := by simpa using hj
  exact ⟨World.cell?_alloc_at _ _ _ _ rfl, World.cell?_alloc_at _ _ _ _ rfl⟩
theorem grown_iterAt {w : World} {k : Nat} (s : ByteArray) (p : Nat) : w.grownBy (w.iterAt k s p) (some k) :=
  ⟨rfl, rfl, rfl, by rw [Lib.iterAt_size]; exact Nat.le_refl _, fun i _ hi => Lib.iterAt_other w k i s p (fun e => hi (by rw [e]))⟩
theorem tok_star {T : List Tok} {c : ByteArray} (h1 : ¬ c = bTil) (h2 : c = bStar) : tokSt (T, false) c = (T ++ [.star], false) := by
  unfold tokSt tok1
  rw [if_neg (by simp), if_neg h1, if_pos h2]
theorem tok_any {T : List Tok} {c : ByteArray} (h1 : ¬ c = bTil) (h2 : ¬ c = bStar) (h3 : c = bAny) : tokSt (T, false) c = (T ++ [.any], false) := by
  unfold tokSt tok1
  rw [if_neg (by simp), if_neg h1, if_neg h2, if_pos h3]
theorem tok_self {T : List Tok} {c : ByteArray} (h1 : ¬ c = bTil) (h2 : ¬ c = bStar) (h3 : ¬ c = bAny) : tokSt (T, false) c = (T ++ [.ex c], false) := by
  unfold tokSt tok1
  rw [if_neg (by simp), if_neg h1, if_neg h2, if_neg h3]
/-- A sign more. -/
theorem wpList_pc (W : World) {ops : Array Oper} {rest : List Oper} {o : Oper} {a : Act} {Q : Exit → Act → World → Prop} (hgd : o.guard = none) (s x : Operand)
    (ho : o.op = .call { callee := .builtin .append, args := #[s, x], argTypes := #[39, 39] })
    (base : Nat) (v : Value) (T : List Tok) (y : Tok) (hs : a.eval s = v) (hown : W.ownsRow base 69 1 v T.length (T.map pcV))
    (b : Nat) (hx : a.eval x = .slice (some ⟨b, 0, none⟩) 1 1) (hb : W.cell? ⟨b, 0, none⟩ = some (pcV y)) (hT : T.length ≤ 5000) (hbase : base ≤ W.heap.size)
    (h : ∀ v' w', w'.ownsRow base 69 1 v' (T ++ [y]).length ((T ++ [y]).map pcV) → W.grownBy w' v.ownBlock → wpList Try.prog ops Q rest (a.put o.dst v') w') : wpList Try.prog ops Q (o :: rest) a W := by
  obtain ⟨i0, hi, hz0, hz1, hz2⟩ := partsL infoPc
  refine wpList_append_own_at W hgd s x 39 ho base 69 i0 .nilIface 1 16 Try.underlying39 hi hz0 hz1 hz2 rfl (by decide) v T.length (T.map pcV) hs hown ⟨b, 0, none⟩ 1 1 [pcV y] hx rfl
    (fun j u hj => ?_) (pcV_one [y]) (by unfold maxLen; omega) (by omega) hbase (fun v' w' h1 h2 _ _ => h v' w' ?_ h2)
  · match j, hj with
    | 0, hj =>
      simp only [List.getElem?_cons_zero, Option.some.injEq] at hj
      subst hj
      simpa [Addr.add] using hb
  · rw [List.length_append, List.map_append]
    exact h1
/-- A value that a set may have is right. -/
theorem right_runes {p : ByteArray} (h : rightB [(⟨#[97]⟩, p)] = true) : ∃ R, runesL p.data.toList = some R := by
  have hv : valueB p.data.toList = true := by
    unfold rightB rightF at h
    simp only [Bool.and_eq_true] at h
    exact h.1.1.2.1
  have hc : (cntL p.data.toList).isSome = true := by
    unfold valueB fewB at hv
    cases hq : cntL p.data.toList with
    | none => rw [hq] at hv; simp at hv
    | some _ => rfl
  rw [← runes_some_iff] at hc
  exact Option.isSome_iff_exists.1 hc

theorem small_one {p : ByteArray} (hp : p.size ≤ 3000) : smallLb [(⟨#[97]⟩, p)] := fun x hx => by
  obtain rfl := List.mem_singleton.1 hx
  exact ⟨(by decide : (1 : Nat) ≤ 3000), hp⟩
set_option maxHeartbeats 2000000 in
set_option maxRecDepth 100000 in
theorem parse_any (p : ByteArray) (hp : p.size ≤ 3000) (w : World) :
    Calls Try.prog 14 #[.string p] w fun e w' => (∃ v, e = .returned (.tuple #[v, .bool (isPatB p)]) ∧
      (isPatB p = true → ∃ R P, PatSl w' v P ∧ runesL p.data.toList = some R ∧ tokL R = some P)) ∧ Below w.heap.size w w' := by
  have M1 := Lib.hid (fun W v h => lRight_any [(⟨#[97]⟩, p)] v W h (by simp) (small_one hp))
  have hPt : isPatB p = ((tokL (runes0 p)).isSome && rightB [(⟨#[97]⟩, p)]) := rfl
  have HPT := Lib.hid hPt
  have HRR := Lib.hid (fun h => right_runes (p := p) h)
  clear hPt
  obtain ⟨rb, hrb⟩ : ∃ rb, rb = rightB [(⟨#[97]⟩, p)] := ⟨_, rfl⟩
  rw [← hrb] at M1 HPT HRR
  clear hrb
  go_enter Try.func14, Try.ntmps14
  go_wp2_with fail
  have hv := lbl_one w ⟨#[97]⟩ p 37
  have hb1 := (Below.refl w.heap.size w).alloc (Nat.le_refl _) (Obj.cells #[.string ⟨#[97]⟩, .string p] 37)
  with_reducible refine (M1.out _ _ hv).mono ?_
  rintro e V ⟨rfl, hb⟩
  have hbV := hb1.trans (hb.mono hb1.size)
  clear hb hb1 hv M1
  cases rb with
  | false =>
    have hF : isPatB p = false := by rw [HPT.out, Bool.and_false]
    have HF := Lib.hid hF
    clear hF
    go_wp2_with fail
    go_ret2
    refine ⟨⟨.slice none 0 0, ?_, fun h => by rw [HF.out] at h; cases h⟩, hbV⟩
    rw [HF.out]
    rfl
  | true =>
    obtain ⟨R, hR⟩ := HRR.out rfl
    have h0 : runes0 p = R := by unfold runes0; rw [hR]; rfl
    rw [h0, Bool.and_true] at HPT
    have hrune := runes_are _ _ hR
    have HRU := Lib.hid hrune
    have hR0 := hR
    rw [← List.drop_zero (l := p.data.toList)] at hR
    have HR := Lib.hid hR
    have HR0 := Lib.hid hR0
    clear HRR h0 hR hR0 hrune
    go_wp2_with fail
    go_loopw [4, 5] (fun sv q wr => ∃ (lv : Value) (pp : Nat) (A B : List ByteArray) (T : List Tok) (qb : Bool), pp ≤ p.size ∧ A.length ≤ pp ∧ Hid (runesL (p.data.toList.drop pp) = some B) ∧ Hid (R = A ++ B) ∧ Hid (tokS A = (T, qb)) ∧ T.length ≤ pp ∧ q = .bool qb ∧ lv = sv ∧
      wr.ownsRow (V.heap.size + 1) 69 1 lv T.length (T.map pcV) ∧ wr.heap[V.heap.size]? = some (.stringIter p pp) ∧ Below w.heap.size w wr) (fun _ _ wr => p.size - wr.iterPos V.heap.size)
    case atStart =>
      exact ⟨_, 0, [], R, [], false, Nat.zero_le _, Nat.le_refl _, HR.out, rfl, rfl, Nat.le_refl _, rfl, rfl, World.ownsRow_nil _ _ _ _, World.iter_heap V p 0, hbV.alloc hbV.size _⟩
    case round =>
      obtain ⟨lv, pp, A, B, T, qb, hpp, hA, HB, HRAB, HT, hTl, rfl, rfl, hown, hit, hbw⟩ := hrel
      have hsz : V.heap.size < wr.heap.size := (Array.getElem?_eq_some_iff.1 hit).1
      by_cases hlt : pp < p.size
      · obtain ⟨c, B', k, rfl, hD, hk1, hk2, hB', hcr, hctop⟩ := rune_next p pp hlt HB.out
        obtain ⟨ri, hri⟩ : ∃ ri : Int, ri = (rnum c : Int) := ⟨_, rfl⟩
        have hnx : ∀ ty, (Instr.next (.pointer (some ⟨V.heap.size, 0, none⟩)) true ty).run Try.prog wr = .ok (.tuple #[.bool true, .int .i64 (pp : Int), .int .i32 ri]) (wr.iterAt V.heap.size p (pp + k)) := fun ty => by
          have := Lib.run_next_any_at (P := Try.prog) wr V.heap.size p pp ty hit hlt
          rw [hD] at this
          rw [hri]
          simpa using this
        have hown2 := hown.kept (grown_iterAt (w := wr) (k := V.heap.size) p (pp + k)) (.inr fun e => by have := (hown.lt _ e).1; omega)
        have hit2 := Lib.iterAt_heap wr V.heap.size p pp (pp + k) hit
        have hbw2 := Lib.below_iterAt hbw (k := V.heap.size) hbV.size p (pp + k)
        have hsz2 : V.heap.size < (wr.iterAt V.heap.size p (pp + k)).heap.size := by rw [Lib.iterAt_size]; exact hsz
        have HIT := Lib.hid hit
        have hszA : (A ++ [c]).length ≤ pp + k := by rw [List.length_append]; simp; omega
        have hAB : R = (A ++ [c]) ++ B' := by rw [HRAB.out, List.append_assoc]; rfl
        have HAB := Lib.hid hAB
        have HB2 := Lib.hid hB'
        have HSZ := Lib.hid hszA
        have hq1 := is_til' hcr
        have hq2 := is_star' hcr
        have hq3 := is_any' hcr
        have hT1 : ∀ x, tokSt (T, qb) c = x → Hid (tokS (A ++ [c]) = x) := fun x h => by
          show tokS (A ++ [c]) = x
          rw [tokS_snoc, HT.out, h]
        have hTl2 : ∀ x : Tok, (T ++ [x]).length ≤ pp + k := fun x => by rw [List.length_append]; simp; omega
        have HTL2 := Lib.hid hTl2
        have HOWN := Lib.hid hown2
        have hgk : ∀ (o : Obj) (W : World), ((wr.iterAt V.heap.size p (pp + k)).alloc o).grownBy W lv.ownBlock → W.heap[V.heap.size]? = some (.stringIter p (pp + k)) := fun o W hg => by
          rw [hg.block V.heap.size (by simp; omega) (fun e => by have := (HOWN.out.lt _ e.symm).1; omega), Below.heap_alloc _ _ _ hsz2]
          exact hit2
        have hgb : ∀ (o : Obj) (W : World), ((wr.iterAt V.heap.size p (pp + k)).alloc o).grownBy W lv.ownBlock → Below w.heap.size w W := fun o W hg =>
          (hbw2.alloc (by have := hbV.size; omega) o).grown hg (by have := hbV.size; simp; omega) (fun j e => by have := (HOWN.out.lt _ e).1; have := hbV.size; omega)
        have HGK := Lib.hid hgk
        have HGB := Lib.hid hgb
        have HIT2 := Lib.hid hit2
        have HBW2 := Lib.hid hbw2
        clear hD hB' hcr hctop hit hAB hszA hTl2 hown HRAB hown2 hgk hgb hit2 hbw2
        cases qb with
        | true =>
          have HST := hT1 _ (by simp [tokSt] : tokSt (T, true) c = (T ++ [.ex c], false))
          have hpx : pcV (.ex c) = .iface 49 (.int .i32 ri) := by rw [hri]; rfl
          have hcell : ∀ (W : World), (W.alloc (.cells #[.iface 49 (.int .i32 ri)] 69)).cell? ⟨W.heap.size, 0, none⟩ = some (pcV (.ex c)) := fun W => by rw [hpx]; exact World.cell?_alloc_at _ _ _ _ rfl
          have HCE := Lib.hid hcell
          clear hpx hcell hri hq1 hq2 hq3 hT1
          go_wp2_with (at_builtin; refine wpList_pc _ (by rfl) (.tmp 25) (.tmp 28) (by rfl) (V.heap.size + 1) lv T (.ex c) (by rfl) (HOWN.out.alloc _) _ (by rfl) (HCE.out _) (by omega) (by simp [Lib.iterAt_size]; omega) ?_; intro v' w1 hown' hgrow)
          have hit3 := HGK.out _ _ hgrow
          have hbw3 := HGB.out _ _ hgrow
          clear hgrow
          go_roundw
          case rel => exact ⟨_, pp + k, A ++ [c], B', T ++ [.ex c], false, hk2, HSZ.out, HB2, HAB, HST, HTL2.out _, rfl, rfl, hown', hit3, hbw3⟩
          case measure =>
            simp only [World.iterPos, hit3, HIT.out]
            omega
        | false =>
          by_cases h1 : c = bTil
          · have HST := hT1 _ (by simp [tokSt, h1] : tokSt (T, false) c = (T, true))
            obtain rfl : ri = 126 := by have := hq1.2 h1; omega
            clear hri hq1 hq2 hq3 hT1 h1
            go_wp2
            go_roundw
            case rel => exact ⟨_, pp + k, A ++ [c], B', T, true, hk2, HSZ.out, HB2, HAB, HST, by omega, rfl, rfl, HOWN.out, HIT2.out, HBW2.out⟩
            case measure =>
              simp only [World.iterPos, HIT2.out, HIT.out]
              omega
          · have n1 : (ri == 126) = false := by have := mt hq1.1 h1; simp; omega
            by_cases h2 : c = bStar
            · have HST := hT1 _ (tok_star h1 h2 : tokSt (T, false) c = (T ++ [.star], false))
              obtain rfl : ri = 42 := by have := hq2.2 h2; omega
              have hcell : ∀ (W : World), (W.alloc (.cells #[.iface 51 (.agg #[])] 69)).cell? ⟨W.heap.size, 0, none⟩ = some (pcV .star) := fun W => World.cell?_alloc_at _ _ _ _ rfl
              have HCE := Lib.hid hcell
              clear hri hq1 hq2 hq3 hT1 h1 h2 hcell n1
              go_wp2_with (at_builtin; refine wpList_pc _ (by rfl) (.tmp 36) (.tmp 39) (by rfl) (V.heap.size + 1) lv T .star (by rfl) (HOWN.out.alloc _) _ (by rfl) (HCE.out _) (by omega) (by simp [Lib.iterAt_size]; omega) ?_; intro v' w1 hown' hgrow)
              have hit3 := HGK.out _ _ hgrow
              have hbw3 := HGB.out _ _ hgrow
              clear hgrow
              go_roundw
              case rel => exact ⟨_, pp + k, A ++ [c], B', T ++ [.star], false, hk2, HSZ.out, HB2, HAB, HST, HTL2.out _, rfl, rfl, hown', hit3, hbw3⟩
              case measure =>
                simp only [World.iterPos, hit3, HIT.out]
                omega
            · have n2 : (ri == 42) = false := by have := mt hq2.1 h2; simp; omega
              by_cases h3 : c = bAny
              · have HST := hT1 _ (tok_any h1 h2 h3 : tokSt (T, false) c = (T ++ [.any], false))
                obtain rfl : ri = 63 := by have := hq3.2 h3; omega
                have hcell : ∀ (W : World), (W.alloc (.cells #[.iface 52 (.agg #[])] 69)).cell? ⟨W.heap.size, 0, none⟩ = some (pcV .any) := fun W => World.cell?_alloc_at _ _ _ _ rfl
                have HCE := Lib.hid hcell
                clear hri hq1 hq2 hq3 hT1 h1 h2 h3 hcell n1 n2
                go_wp2_with (at_builtin; refine wpList_pc _ (by rfl) (.tmp 44) (.tmp 47) (by rfl) (V.heap.size + 1) lv T .any (by rfl) (HOWN.out.alloc _) _ (by rfl) (HCE.out _) (by omega) (by simp [Lib.iterAt_size]; omega) ?_; intro v' w1 hown' hgrow)
                have hit3 := HGK.out _ _ hgrow
                have hbw3 := HGB.out _ _ hgrow
                clear hgrow
                go_roundw
                case rel => exact ⟨_, pp + k, A ++ [c], B', T ++ [.any], false, hk2, HSZ.out, HB2, HAB, HST, HTL2.out _, rfl, rfl, hown', hit3, hbw3⟩
                case measure =>
                  simp only [World.iterPos, hit3, HIT.out]
                  omega
              · have n3 : (ri == 63) = false := by have := mt hq3.1 h3; simp; omega
                have HST := hT1 _ (tok_self h1 h2 h3 : tokSt (T, false) c = (T ++ [.ex c], false))
                have hpx : pcV (.ex c) = .iface 49 (.int .i32 ri) := by rw [hri]; rfl
                have hcell : ∀ (W : World), (W.alloc (.cells #[.iface 49 (.int .i32 ri)] 69)).cell? ⟨W.heap.size, 0, none⟩ = some (pcV (.ex c)) := fun W => by rw [hpx]; exact World.cell?_alloc_at _ _ _ _ rfl
                have HCE := Lib.hid hcell
                clear hpx hcell hri hq1 hq2 hq3 hT1 h1 h2 h3
                go_wp2_with (at_builtin; refine wpList_pc _ (by rfl) (.tmp 18) (.tmp 21) (by rfl) (V.heap.size + 1) lv T (.ex c) (by rfl) (HOWN.out.alloc _) _ (by rfl) (HCE.out _) (by omega) (by simp [Lib.iterAt_size]; omega) ?_; intro v' w1 hown' hgrow)
                have hit3 := HGK.out _ _ hgrow
                have hbw3 := HGB.out _ _ hgrow
                clear hgrow
                go_roundw
                case rel => exact ⟨_, pp + k, A ++ [c], B', T ++ [.ex c], false, hk2, HSZ.out, HB2, HAB, HST, HTL2.out _, rfl, rfl, hown', hit3, hbw3⟩
                case measure =>
                  simp only [World.iterPos, hit3, HIT.out]
                  omega
      · have hnx : ∀ ty, (Instr.next (.pointer (some ⟨V.heap.size, 0, none⟩)) true ty).run Try.prog wr = _ := fun ty => Lib.run_next_end_at wr V.heap.size p pp ty hit hlt
        obtain rfl := rune_end p pp hlt HB.out
        have hRA : R = A := by have := HRAB.out; rwa [List.append_nil] at this
        have hend := tokS_end R
        rw [hRA, HT.out] at hend
        dsimp only at hend
        have HEND := Lib.hid hend
        have HRA := Lib.hid hRA
        have HPP := Lib.hid (patSl_of_owns hown)
        clear hend hRA hown
        cases qb with
        | true =>
          have hF : isPatB p = false := by rw [HPT.out, HRA.out, HEND.out.1]; rfl
          have HF := Lib.hid hF
          clear hF
          go_wp2_with fail
          go_ret2
          refine ⟨⟨.slice none 0 0, ?_, fun h => by rw [HF.out] at h; cases h⟩, hbw⟩
          rw [HF.out]
          rfl
        | false =>
          have hF : isPatB p = true := by rw [HPT.out, HRA.out, HEND.out.1]; rfl
          have HF := Lib.hid hF
          clear hF
          go_wp2_with fail
          go_ret2
          refine ⟨⟨lv, ?_, fun _ => ⟨R, T, HPP.out, HR0.out, ?_⟩⟩, hbw⟩
          · rw [HF.out]
            rfl
          · have e1 := HEND.out.1
            have e2 := HEND.out.2 (by first | rfl | simp)
            rw [HRA.out]
            obtain ⟨Q, hQ⟩ := Option.isSome_iff_exists.1 (show (tokL A).isSome = true from e1)
            rw [hQ] at e2 ⊢
            rw [show Q = T from e2]
end Go.Proofs.Ytekmdgjkadglmaa
