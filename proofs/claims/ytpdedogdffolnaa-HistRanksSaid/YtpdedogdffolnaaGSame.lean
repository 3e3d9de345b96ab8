/- The page's own answers for layer 9: Same. -/
import Derived.Test.YtpdedogdffolnaaGSel
import Derived.Laws.StructEq
namespace Go.Proofs.Ytpdedogdffolnaa
open Go.RowKit

theorem len_two {α : Type} {l : List α} (h : l.length = 2) : ∃ a b, l = [a, b] := by
  cases l with
  | nil => simp at h
  | cons a t =>
    cases t with
    | nil => simp at h
    | cons b s =>
      have : s = [] := List.eq_nil_of_length_eq_zero (by simpa using h)
      exact ⟨a, b, by rw [this]⟩
theorem neq_bin (xa ya : Int) (xn yn : Nat) (W : World) : (binOp .neq 68 (.agg #[.int .i64 xa, gV xn]) (.agg #[.int .i64 ya, gV yn])).run Try.prog W = .ok (.bool (!(xa == ya && ((xn : Int) == (yn : Int))))) W := by
  have h1 : ∀ W', (Op.equalIn 9999 3 (.int .i64 xa) (.int .i64 ya)).run Try.prog W' = .ok (xa == ya) W' := fun W' => run_equalIn_int W' 9998 3 .i64 .i64 xa ya Try.underlying3
  have h2 : ∀ W', (Op.equalIn 9999 22 (gV xn) (gV yn)).run Try.prog W' = .ok ((xn : Int) == (yn : Int)) W' := fun W' => run_equalIn_int W' 9998 22 .u64 .u64 _ _ Try.underlying22
  have p1 : ∀ (W' : World) (a : Int) (n : Nat), (part 3 #[.int .i64 a, gV n] 0).run Try.prog W' = .ok (.int .i64 a) W' := fun W' a n => by
    simp [part, isAgg, run_underlying Try.underlying3]
  have p2 : ∀ (W' : World) (a : Int) (n : Nat), (part 22 #[.int .i64 a, gV n] 1).run Try.prog W' = .ok (gV n) W' := fun W' a n => by
    simp [part, isAgg, run_underlying Try.underlying22]
  have hf : (Try.prog.fieldsOf 68).toList.map (fun f => (decide (f.name = "_"), f.type, f.offset)) = [(false, 3, 0), (false, 22, 1)] := by kernel_rfl
  rw [run_neq_struct, run_equalIn_struct W 9999 68 _ _ (by kernel_rfl) (by kernel_rfl)]
  generalize (Try.prog.fieldsOf 68).toList = fs at hf
  obtain ⟨f1, f2, rfl⟩ : ∃ f1 f2, fs = [f1, f2] := len_two (by have := congrArg List.length hf; simpa using this)
  simp only [List.map_cons, List.map_nil, List.cons.injEq, Prod.mk.injEq, decide_eq_false_iff_not, and_true] at hf
  obtain ⟨⟨n1, t1, o1⟩, n2, t2, o2⟩ := hf
  unfold Op.eqFields
  rw [if_pos n1, t1, o1]
  simp only [Sem.run_bind, p1, Result.andThen_ok, h1]
  cases hx : (xa == ya) with
  | false => simp [Sem.run_pure, Result.andThen]
  | true =>
    unfold Op.eqFields
    rw [if_pos n2, t2, o2]
    simp only [Bool.not_true, Bool.false_eq_true, if_false, Sem.run_bind, p2, Result.andThen_ok, h2]
    cases hy : ((xn : Int) == (yn : Int)) with
    | false => simp [Sem.run_pure, Result.andThen]
    | true => simp [Op.eqFields, Sem.run_pure, Result.andThen]
theorem same_next {L M : List Bn} {k : Nat} (h1 : k < L.length) (h2 : k < M.length) : decide (L.drop k = M.drop k) = (decide (L[k] = M[k]) && decide (L.drop (k + 1) = M.drop (k + 1))) := by
  rw [List.drop_eq_getElem_cons h1, List.drop_eq_getElem_cons h2, Bool.eq_iff_iff]
  simp only [decide_eq_true_eq, Bool.and_eq_true, List.cons.injEq]
set_option maxHeartbeats 4000000 in
set_option maxRecDepth 100000 in
theorem pSame9_any (f : Int) (L : List Bn) (v : Value) (g : Int) (M : List Bn) (u : Value) (w : World) (hv : BinSl w v L) (hu : BinSl w u M) (hn : L.length ≤ 1000) (hm : M.length ≤ 1000) :
    Calls Try.prog 21 #[hgV f v, hgV g u] w fun e w' => e = .returned (.bool (sameG f L g M)) ∧ Below w.heap.size w w' := by
  have hb0 := ((Below.refl w.heap.size w).alloc (Nat.le_refl _) (Obj.cells #[.int .i64 f, v] 25)).alloc (by simp) (Obj.cells #[.int .i64 g, u] 25)
  have hx0 : HasC ((w.alloc (Obj.cells #[.int .i64 f, v] 25)).alloc (Obj.cells #[.int .i64 g, u] 25)) w.heap.size 25 #[.int .i64 f, v] := (HasC.new w _ _).alloc _
  have hy0 : HasC ((w.alloc (Obj.cells #[.int .i64 f, v] 25)).alloc (Obj.cells #[.int .i64 g, u] 25)) (w.heap.size + 1) 25 #[.int .i64 g, u] := HasC.at_ _ _ _ (by simp)
  obtain ⟨ao, c, rfl, hc⟩ := hv.shape
  obtain ⟨bo, d, rfl, hd⟩ := hu.shape
  obtain ⟨l, hl⟩ : ∃ l, l = L.length := ⟨_, rfl⟩
  obtain ⟨m, hmm⟩ : ∃ m, m = M.length := ⟨_, rfl⟩
  have HC := Lib.hid hc
  have HD := Lib.hid hd
  have HL := Lib.hid hl
  have HM := Lib.hid hmm
  obtain ⟨W0, hW0⟩ : ∃ W0, W0 = (w.alloc (Obj.cells #[.int .i64 f, .slice ao L.length c] 25)).alloc (Obj.cells #[.int .i64 g, .slice bo M.length d] 25) := ⟨_, rfl⟩
  rw [← hl, ← hmm] at hx0 hy0 hb0 hW0 ⊢
  rw [← hl] at hn
  rw [← hmm] at hm
  have k0 := hx0.cell 0
  have k1 := hx0.cell 1
  have l0 := hy0.cell 0
  have l1 := hy0.cell 1
  clear hc hd hl hmm hv hu
  unfold hgV
  by_cases hf : f = g
  case neg =>
    have hS : sameG f L g M = false := by unfold sameG; rw [decide_eq_false hf, Bool.false_and]
    have hq : (f != g) = true := by simp [hf]
    rw [hS]
    clear hS
    go_enter Try.func21, Try.ntmps21
    go_wp2_with fail
    go_ret
    exact ⟨rfl, hb0⟩
  case pos =>
    subst hf
    have hq : (f != f) = false := by simp
    by_cases hlm : l = m
    case neg =>
      have hS : sameG f L f M = false := by
        unfold sameG
        rw [decide_eq_false (show ¬ L = M from fun e => hlm (by rw [HL.out, HM.out, e])), Bool.and_false]
      have hq2 : ((l : Int) != (m : Int)) = true := by simp; omega
      rw [hS]
      clear hS
      go_enter Try.func21, Try.ntmps21
      go_wp2_with fail
      go_ret
      exact ⟨rfl, hb0⟩
    case pos =>
      subst hlm
      have hq2 : ((l : Int) != (l : Int)) = false := by simp
      obtain ⟨r, hr⟩ : ∃ r, decide (L = M) = r := ⟨_, rfl⟩
      have hS : sameG f L f M = r := by unfold sameG; rw [decide_eq_true rfl, Bool.true_and, hr]
      have h0 : Hid (decide (L.drop 0 = M.drop 0) = r) := by show _ = _; rw [List.drop_zero, List.drop_zero, hr]
      rw [hS]
      clear hS hr
      rw [← hW0] at hx0 hy0 hb0
      rw [← hW0] at k0 k1 l0 l1
      have HW := Lib.hid hW0
      have HX := Lib.hid hx0
      have HY := Lib.hid hy0
      have HB := Lib.hid hb0
      rw [hW0] at k0 k1 l0 l1
      clear hW0 hx0 hy0 hb0
      go_enter Try.func21, Try.ntmps21
      go_wp2_with fail
      rw [← HW.out]
      go_loopw [5] (fun i wr => ∃ k : Nat, k ≤ l ∧ i = .int .i64 (k : Int) ∧ Hid (decide (L.drop k = M.drop k) = r) ∧ Below W0.heap.size W0 wr) (fun i _ => l - (intOf i).toNat)
      case atStart => exact ⟨0, Nat.zero_le _, rfl, h0, Below.refl _ _⟩
      case round =>
        obtain ⟨k, hk, rfl, hs, hb1⟩ := hrel
        clear h0 k0 k1 l0 l1
        have hx1 := HX.out.below hb1 HX.out.lt
        have hy1 := HY.out.below hb1 HY.out.lt
        have k1 := hx1.cell 1
        by_cases hlt : k < l
        · have hltI : (k : Int) < (l : Int) := by omega
          have hkl : k < L.length := by have := HL.out; omega
          have hkm : k < M.length := by have := HM.out; omega
          obtain ⟨g1, o1, rfl, hcw⟩ := HC.out k hkl
          obtain ⟨g2, o2, rfl, hdw⟩ := HD.out k hkm
          have hst := same_next hkl hkm
          obtain ⟨⟨xa, xn⟩, hx⟩ : ∃ x, L[k] = x := ⟨_, rfl⟩
          obtain ⟨⟨ya, yn⟩, hy⟩ : ∃ x, M[k] = x := ⟨_, rfl⟩
          rw [hx] at hcw
          rw [hy] at hdw
          rw [hx, hy] at hst
          dsimp only at hcw hdw
          have HST := Lib.hid hst
          have HCW := Lib.hid hcw
          have HDW := Lib.hid hdw
          obtain ⟨D, hDk, hDd⟩ : ∃ D : World → Prop, (∀ W, D W → Below wr.heap.size wr W) ∧ (∀ W, Below wr.heap.size wr W → D W) := ⟨_, fun _ h => h, fun _ h => h⟩
          have hbw := fun W (h : D W) => HB.out.trans ((hb1.trans ((hDk W h).mono hb1.size)).mono HB.out.size)
          have E1 : ∀ i : InC D, i.w.cell? ⟨w.heap.size, 1, none⟩ = some (.slice (some ⟨g1, o1, none⟩) l c) := fun i => (hx1.below (hDk _ i.h) hx1.lt).cell 1
          have E2 : ∀ i : InC D, i.w.cell? ⟨w.heap.size + 1, 1, none⟩ = some (.slice (some ⟨g2, o2, none⟩) l d) := fun i => (hy1.below (hDk _ i.h) hy1.lt).cell 1
          have E3 : ∀ i : InC D, i.w.cell? ⟨g1, o1 + k * 2, none⟩ = some (.int .i64 xa) := fun i => (HCW.out _ (hbw _ i.h)).1
          have E4 : ∀ i : InC D, i.w.cell? ⟨g1, o1 + k * 2 + 1, none⟩ = some (gV xn) := fun i => (HCW.out _ (hbw _ i.h)).2
          have E5 : ∀ i : InC D, i.w.cell? ⟨g2, o2 + k * 2, none⟩ = some (.int .i64 ya) := fun i => (HDW.out _ (hbw _ i.h)).1
          have E6 : ∀ i : InC D, i.w.cell? ⟨g2, o2 + k * 2 + 1, none⟩ = some (gV yn) := fun i => (HDW.out _ (hbw _ i.h)).2
          have HD0 := Lib.hid (hDd _ (Below.refl wr.heap.size wr).drew)
          have HDK := Lib.hid hDk
          have HB1 := Lib.hid hb1
          clear hDk hDd hbw hcw hdw hst hx hy hkl hkm hx1 hy1 hb1
          have hnq := neq_bin xa ya xn yn
          have hgd : Try.prog.eqGuardType Try.prog.depth 68 = false := by kernel_rfl
          obtain ⟨z, hz⟩ : ∃ z, (xa == ya && ((xn : Int) == (yn : Int))) = z := ⟨_, rfl⟩
          have hdz : decide (((xa, xn) : Bn) = (ya, yn)) = z := by
            rw [← hz]
            by_cases h1 : xa = ya
            · by_cases h2 : xn = yn
              · subst h1; subst h2; simp
              · have : ((xn : Int) == (yn : Int)) = false := by simp; omega
                rw [this]
                simp [h2]
            · simp [h1]
          rw [hz] at hnq
          have HDZ := Lib.hid hdz
          clear hz hdz
          cases z with
          | false =>
            have hr : r = false := by rw [← hs.out, HST.out, HDZ.out, Bool.false_and]
            have HR := Lib.hid hr
            clear hr
            go_wp2_with fail
            refine region_class D (by kernel_rfl) (by kernel_rfl) HD0.out ?_
            intro hne
            repeat (go_big_quiet_step (fail))
            refine wpQuiet_nil ?_
            intro i
            go_wp2_with fail
            go_ret
            exact ⟨by rw [HR.out]; rfl, HB.out.trans ((HB1.out.trans ((HDK.out _ i.h).mono HB1.out.size)).mono HB.out.size)⟩
          | true =>
            have hs2 : Hid (decide (L.drop (k + 1) = M.drop (k + 1)) = r) := by
              show _ = _
              rw [← hs.out, HST.out, HDZ.out, Bool.true_and]
            go_wp2_with fail
            refine region_class D (by kernel_rfl) (by kernel_rfl) HD0.out ?_
            intro hne
            repeat (go_big_quiet_step (fail))
            refine wpQuiet_nil ?_
            intro i
            go_wp2_with fail
            go_roundw
            case rel => exact ⟨k + 1, by omega, by go_num, hs2, HB1.out.trans ((HDK.out _ i.h).mono HB1.out.size)⟩
            case measure => simp [intOf]; omega
        · obtain rfl : k = l := by omega
          have hnl : ¬ (k : Int) < (k : Int) := by omega
          have hr : r = true := by
            rw [← hs.out, List.drop_eq_nil_of_le (by rw [HL.out]; exact Nat.le_refl _), List.drop_eq_nil_of_le (by rw [HM.out]; exact Nat.le_refl _)]
            rfl
          have HR := Lib.hid hr
          clear hr hs
          go_wp2_with fail
          go_ret
          exact ⟨by rw [HR.out]; rfl, HB.out.trans (hb1.mono HB.out.size)⟩
end Go.Proofs.Ytpdedogdffolnaa
