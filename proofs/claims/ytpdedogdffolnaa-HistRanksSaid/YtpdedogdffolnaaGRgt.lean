/- The page's own answers for layer 9: Right. -/
import Derived.Test.YtpdedogdffolnaaGPut
namespace Go.Proofs.Ytpdedogdffolnaa
open Go.RowKit

/-- A histogram, as a value. -/
abbrev hgV (f : Int) (v : Value) : Value := .agg #[.int .i64 f, v]
theorem bounds_ok (f a : Int) : (boundsI f a).2.2 = (fineB f && okI f.toNat a) := by
  unfold boundsI
  cases fineB f && okI f.toNat a <;> rfl
/-- What is left to be found right behind the first k. -/
def restG (f : Int) (L : List Bn) (k : Nat) : Bool := fineB f && ((L.drop k).all (binB f) && riseBn (L.drop (k - 1)))
theorem rest_zero (f : Int) (L : List Bn) : rightG f L = restG f L 0 := rfl
theorem rest_no {f : Int} {L : List Bn} {k : Nat} (hk : k < L.length) (h : binB f L[k] = false) : restG f L k = false := by
  unfold restG
  rw [List.drop_eq_getElem_cons hk, List.all_cons, h]
  simp
theorem rest_first {f : Int} {L : List Bn} (hk : 0 < L.length) (h : binB f L[0] = true) : restG f L 0 = restG f L 1 := by
  unfold restG
  rw [List.drop_eq_getElem_cons hk, List.all_cons, h, Bool.true_and]
theorem rise_next {L : List Bn} {j : Nat} (hj : j + 1 < L.length) : riseBn (L.drop j) = (decide (L[j].1 < L[j + 1].1) && riseBn (L.drop (j + 1))) := by
  rw [List.drop_eq_getElem_cons (show j < L.length by omega), List.drop_eq_getElem_cons hj]
  rfl
theorem rest_next {f : Int} {L : List Bn} {j : Nat} (hj : j + 1 < L.length) (h : binB f L[j + 1] = true) : restG f L (j + 1) = (decide (L[j].1 < L[j + 1].1) && restG f L (j + 2)) := by
  unfold restG
  rw [List.drop_eq_getElem_cons hj, List.all_cons, h, Bool.true_and, Nat.add_sub_cancel, show j + 2 - 1 = j + 1 by omega, rise_next hj, List.drop_eq_getElem_cons hj]
  cases fineB f <;> cases (List.drop (j + 1 + 1) L).all (binB f) <;> simp
theorem rest_end (f : Int) (L : List Bn) : restG f L L.length = fineB f := by
  unfold restG
  have h1 : L.drop L.length = [] := List.drop_eq_nil_of_le (Nat.le_refl _)
  have h2 : riseBn (L.drop (L.length - 1)) = true := by
    cases hL : L.drop (L.length - 1) with
    | nil => rfl
    | cons x t =>
      have : (L.drop (L.length - 1)).length ≤ 1 := by rw [List.length_drop]; omega
      rw [hL] at this
      have : t = [] := List.eq_nil_of_length_eq_zero (by simpa using this)
      rw [this]
      rfl
  rw [h1, h2]
  simp
set_option maxHeartbeats 4000000 in
set_option maxRecDepth 100000 in
theorem pRight9_any (f : Int) (L : List Bn) (v : Value) (w : World) (hv : BinSl w v L) (hn : L.length ≤ 1000) :
    Calls Try.prog 20 #[hgV f v] w fun e w' => e = .returned (.bool (rightG f L)) ∧ Below w.heap.size w w' := by
  obtain ⟨ao, c, rfl, hc⟩ := hv.shape
  obtain ⟨l, hl⟩ : ∃ l, l = L.length := ⟨_, rfl⟩
  have HC := Lib.hid hc
  have HL := Lib.hid hl
  obtain ⟨r, hr⟩ : ∃ r, rightG f L = r := ⟨_, rfl⟩
  have h0 : Hid (restG f L 0 = r) := by show _ = _; rw [← hr]; rfl
  have hx0 := HasC.new w 25 #[.int .i64 f, .slice ao L.length c]
  have hb0 := (Below.refl w.heap.size w).alloc (Nat.le_refl _) (Obj.cells #[.int .i64 f, .slice ao L.length c] 25)
  rw [hr]
  rw [← hl] at hn hx0 hb0 ⊢
  clear hc hl hv hr
  unfold hgV
  go_enter Try.func20, Try.ntmps20
  go_wp2_with fail
  go_loopw [3] (fun i wr => ∃ k : Nat, k ≤ l ∧ i = .int .i64 (k : Int) ∧ Hid (restG f L k = r) ∧ HasC wr w.heap.size 25 #[.int .i64 f, .slice ao l c] ∧ Below w.heap.size w wr) (fun i _ => l - (intOf i).toNat)
  case atStart => exact ⟨0, Nat.zero_le _, rfl, h0, hx0, hb0⟩
  case round =>
    obtain ⟨k, hk, rfl, hs, hx, hb⟩ := hrel
    clear h0 hx0 hb0
    have k1 := hx.cell 1
    by_cases hlt : k < l
    · have hltI : (k : Int) < (l : Int) := by omega
      have hkl : k < L.length := by have := HL.out; omega
      obtain ⟨g, o, rfl, hcw⟩ := HC.out k hkl
      have hno := Lib.hid (fun h => (rest_no (f := f) hkl h).symm.trans hs.out)
      have hbin : binB f L[k] = ((boundsI f L[k].1).2.2 && decide (L[k].2 ≠ 0)) := by unfold binB; rw [bounds_ok, Bool.and_assoc]
      have hst0 : ∀ hz : k = 0, binB f L[k] = true → restG f L (k + 1) = r := fun hz h => by
        subst hz
        rw [← rest_first hkl h]
        exact hs.out
      have hstn : ∀ j (hj : k = j + 1), binB f L[k] = true → (decide (L[j].1 < L[k].1) && restG f L (k + 1)) = r := fun j hj h => by
        subst hj
        rw [← rest_next hkl h]
        exact hs.out
      rw [hbin] at hst0 hstn
      have HNO := Lib.hid (fun h => hno.out (by rw [hbin]; exact h))
      clear hno hbin
      obtain ⟨xa, hxa⟩ : ∃ x, L[k].1 = x := ⟨_, rfl⟩
      obtain ⟨xn, hxn⟩ : ∃ x, L[k].2 = x := ⟨_, rfl⟩
      rw [hxa, hxn] at HNO hst0 hcw
      have hstn' : ∀ j (hj : k = j + 1) (hjl : j < L.length), ((boundsI f xa).2.2 && decide (xn ≠ 0)) = true → (decide ((L[j]'hjl).1 < xa) && restG f L (k + 1)) = r := fun j hj _ h => by
        rw [← hxa]
        exact hstn j hj (by rw [hxa, hxn]; exact h)
      obtain ⟨⟨blo, bhi, bok⟩, hB⟩ : ∃ P, boundsI f xa = P := ⟨_, rfl⟩
      have B1 := Lib.hid (fun W => pBounds_any f xa W)
      rw [hB] at B1 HNO hst0 hstn'
      unfold bndV at B1
      dsimp only at B1 HNO hst0 hstn'
      obtain ⟨D, hD0, hDon, hDk⟩ : ∃ D : World → Prop, D wr ∧ (∀ W W', D W → Below W.heap.size W W' → D W') ∧ ∀ W, D W → Below wr.heap.size wr W :=
        ⟨fun W => Below wr.heap.size wr W, Below.refl _ _, fun W W' h hb => h.trans (hb.mono h.size), fun _ h => h⟩
      have hcW := fun W (h : D W) => hcw W (hb.trans ((hDk W h).mono hb.size))
      have E1 : ∀ i : InC D, i.w.cell? ⟨w.heap.size, 0, none⟩ = some (.int .i64 f) := fun i => (hx.below (hDk _ i.h) hx.lt).cell 0
      have E2 : ∀ i : InC D, i.w.cell? ⟨w.heap.size, 1, none⟩ = some (.slice (some ⟨g, o, none⟩) l c) := fun i => (hx.below (hDk _ i.h) hx.lt).cell 1
      have E3 : ∀ i : InC D, i.w.cell? ⟨g, o + k * 2, none⟩ = some (.int .i64 xa) := fun i => (hcW _ i.h).1
      have E4 : ∀ i : InC D, i.w.cell? ⟨g, o + k * 2 + 1, none⟩ = some (gV xn) := fun i => (hcW _ i.h).2
      have HD0 := Lib.hid (hDon _ _ hD0 ((Below.refl _ _).drew))
      have HDON := Lib.hid hDon
      have HDK := Lib.hid hDk
      have HX := Lib.hid hx
      have HB := Lib.hid hb
      have HS0 := Lib.hid hst0
      have HSN := Lib.hid hstn'
      clear hst0 hstn hstn' hcw hcW hxa hxn hB hD0 hDon hDk hx hb hkl
      go_wp2_with fail
      refine region_class D (by kernel_rfl) (by kernel_rfl) HD0.out ?_
      intro hne
      repeat (go_big_quiet_step (((with_reducible refine (B1.out _).mono ?_); rintro e w' ⟨rfl, nn, rfl⟩; exact ⟨rfl, ⟨_, HDON.out _ _ (InC.h _) (bel_drewN (Below.refl _ _) nn)⟩, rfl⟩)))
      refine wpQuiet_nil ?_
      intro j
      have HD1 := Lib.hid (HDON.out _ _ (InC.h j) ((Below.refl _ _).drew))
      clear hne
      cases bok with
      | false =>
        have HV : Hid (r = false) := (HNO.out rfl).symm
        clear B1 HS0 HSN HNO
        go_wp2_with fail
        refine region_class D (by kernel_rfl) (by kernel_rfl) HD1.out ?_
        intro hne
        repeat (go_big_quiet_step (fail))
        refine wpQuiet_nil ?_
        intro i
        go_wp2_with fail
        go_ret
        exact ⟨by rw [HV.out]; rfl, HB.out.trans ((HDK.out _ i.h).mono HB.out.size)⟩
      | true =>
        by_cases hx0 : xn = 0
        · have hq : ((xn : Int) == 0) = true := by rw [hx0]; rfl
          have HV : Hid (r = false) := (HNO.out (by rw [hx0]; rfl)).symm
          clear B1 HS0 HSN HNO hx0
          go_wp2_with fail
          refine region_class D (by kernel_rfl) (by kernel_rfl) HD1.out ?_
          intro hne
          repeat (go_big_quiet_step (fail))
          refine wpQuiet_nil ?_
          intro i
          go_wp2_with fail
          go_ret
          exact ⟨by rw [HV.out]; rfl, HB.out.trans ((HDK.out _ i.h).mono HB.out.size)⟩
        · have hq : ((xn : Int) == 0) = false := by simp [hx0]
          have hbt : (true && decide (xn ≠ 0)) = true := by rw [decide_eq_true hx0]; rfl
          cases k with
          | zero =>
            have HR : Hid (restG f L (0 + 1) = r) := HS0.out rfl hbt
            clear B1 HS0 HSN HNO hx0 hbt
            go_wp2_with fail
            refine region_class D (by kernel_rfl) (by kernel_rfl) HD1.out ?_
            intro hne
            repeat (go_big_quiet_step (fail))
            refine wpQuiet_nil ?_
            intro i
            go_wp2_with fail
            go_roundw
            case rel => exact ⟨0 + 1, by omega, by go_num, HR.out, HX.out.below (HDK.out _ i.h) HX.out.lt, HB.out.trans ((HDK.out _ i.h).mono HB.out.size)⟩
            case measure => simp [intOf]; omega
          | succ m =>
            have hml : m < L.length := by have := HL.out; omega
            have hst := HSN.out m rfl hml hbt
            obtain ⟨g', o', he, hcp⟩ := HC.out m hml
            cases he
            obtain ⟨ya, hya⟩ : ∃ x, L[m].1 = x := ⟨_, rfl⟩
            rw [hya] at hst
            have hcp' := fun W (h : D W) => (hcp W (HB.out.trans ((HDK.out W h).mono HB.out.size))).1
            rw [hya] at hcp'
            have E5 : ∀ i : InC D, i.w.cell? ⟨g, o + m * 2, none⟩ = some (.int .i64 ya) := fun i => hcp' _ i.h
            have hml' : (m : Int) < (l : Int) := by omega
            have HST := Lib.hid hst
            clear hcp hcp' hya hst HS0 HSN HNO hx0 hbt B1 hml
            by_cases hlt2 : ya < xa
            · have HR : Hid (restG f L (m + 1 + 1) = r) := by
                show _ = _
                rw [← HST.out, decide_eq_true hlt2, Bool.true_and]
              have hge : ¬ xa ≤ ya := by omega
              go_wp2_with fail
              refine region_class D (by kernel_rfl) (by kernel_rfl) HD1.out ?_
              intro hne
              repeat (go_big_quiet_step (fail))
              refine wpQuiet_nil ?_
              intro i
              go_wp2_with fail
              go_roundw
              case rel => exact ⟨m + 1 + 1, by omega, by go_num, HR.out, HX.out.below (HDK.out _ i.h) HX.out.lt, HB.out.trans ((HDK.out _ i.h).mono HB.out.size)⟩
              case measure => simp [intOf]; omega
            · have HV : Hid (r = false) := by
                show _ = _
                rw [← HST.out, decide_eq_false hlt2, Bool.false_and]
              have hge : xa ≤ ya := by omega
              go_wp2_with fail
              refine region_class D (by kernel_rfl) (by kernel_rfl) HD1.out ?_
              intro hne
              repeat (go_big_quiet_step (fail))
              refine wpQuiet_nil ?_
              intro i
              go_wp2_with fail
              go_ret
              exact ⟨by rw [HV.out]; rfl, HB.out.trans ((HDK.out _ i.h).mono HB.out.size)⟩
    · obtain rfl : k = l := by omega
      have hnl : ¬ (k : Int) < (k : Int) := by omega
      have hf : r = fineB f := by
        rw [← hs.out, HL.out, rest_end]
      have k0 := hx.cell 0
      have HF := Lib.hid hf
      clear hf hs
      by_cases hlo : 0 ≤ f
      · by_cases hhi : f ≤ 3
        · have HV : Hid (r = true) := by show _ = _; rw [HF.out]; unfold fineB; rw [decide_eq_true hlo, decide_eq_true hhi]; rfl
          go_wp2_with fail
          go_ret
          exact ⟨by rw [HV.out]; simp, hb⟩
        · have HV : Hid (r = false) := by show _ = _; rw [HF.out]; unfold fineB; rw [decide_eq_false hhi, Bool.and_false]
          go_wp2_with fail
          go_ret
          exact ⟨by rw [HV.out]; simp, hb⟩
      · have HV : Hid (r = false) := by show _ = _; rw [HF.out]; unfold fineB; rw [decide_eq_false hlo, Bool.false_and]
        go_wp2_with fail
        go_ret
        exact ⟨by rw [HV.out]; simp, hb⟩
end Go.Proofs.Ytpdedogdffolnaa
