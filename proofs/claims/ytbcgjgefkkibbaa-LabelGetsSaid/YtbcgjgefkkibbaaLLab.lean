
/- Lists of labels in memory. -/
import Derived.Test.YtbcgjgefkkibbaaLRefName
namespace Go.Proofs.Ytbcgjgefkkibbaa
open Go.RowKit

/-- A label: its name, its value. -/
abbrev Lab := ByteArray × ByteArray
/-- A list of labels, as it lies in memory. -/
def LblSl (w : World) (v : Value) (L : List Lab) : Prop :=
  (∃ a c, v = .slice a 0 c ∧ L = []) ∨ ∃ g o c, v = .slice (some ⟨g, o, none⟩) L.length c ∧ g < w.heap.size ∧
    ∀ j (hj : j < L.length), w.cell? ⟨g, o + j * 2, none⟩ = some (.string L[j].1) ∧ w.cell? ⟨g, o + j * 2 + 1, none⟩ = some (.string L[j].2)
theorem LblSl.below {w w' : World} {v : Value} {L : List Lab} (h : LblSl w v L) (hb : Below w.heap.size w w') : LblSl w' v L := by
  rcases h with h | ⟨g, o, c, hv, hg, hc⟩
  · exact .inl h
  · refine .inr ⟨g, o, c, hv, Nat.lt_of_lt_of_le hg hb.size, fun j hj => ?_⟩
    obtain ⟨h1, h2⟩ := hc j hj
    exact ⟨(hb.cell (p := ⟨g, o + j * 2, none⟩) hg).trans h1, (hb.cell (p := ⟨g, o + j * 2 + 1, none⟩) hg).trans h2⟩
/-- The value's shape, and each label. -/
theorem LblSl.shape {w : World} {v : Value} {L : List Lab} (h : LblSl w v L) : ∃ ao c, v = .slice ao L.length c ∧ ∀ j (hj : j < L.length),
    ∃ g o, ao = some ⟨g, o, none⟩ ∧ ∀ W : World, Below w.heap.size w W → W.cell? ⟨g, o + j * 2, none⟩ = some (.string L[j].1) ∧ W.cell? ⟨g, o + j * 2 + 1, none⟩ = some (.string L[j].2) := by
  rcases h with ⟨a, c, rfl, rfl⟩ | ⟨g, o, c, rfl, hg, hc⟩
  · exact ⟨a, c, rfl, fun j hj => absurd hj (by simp)⟩
  · refine ⟨_, _, rfl, fun j hj => ⟨g, o, rfl, fun W hb => ?_⟩⟩
    obtain ⟨h1, h2⟩ := hc j hj
    exact ⟨(hb.cell (p := ⟨g, o + j * 2, none⟩) hg).trans h1, (hb.cell (p := ⟨g, o + j * 2 + 1, none⟩) hg).trans h2⟩
theorem ba_ne {a b : ByteArray} (h : a ≠ b) : (a.toList == b.toList) = false := by
  have : ¬ a.toList = b.toList := fun e => h (baL (by simpa [ByteArray.toList_eq] using e))
  simpa using this
theorem ba_eq {a b : ByteArray} (h : a = b) : (a.toList == b.toList) = true := by subst h; simp

/-- The value of the first label of a name. -/
def getLb : List Lab → ByteArray → Option ByteArray
  | [], _ => none
  | x :: L, nm => if x.1 = nm then some x.2 else getLb L nm
def GetV (L : List Lab) (nm : ByteArray) : Value := match getLb L nm with
  | some v => .tuple #[.string v, .bool true]
  | none => .tuple #[.string { data := #[] }, .bool false]
theorem getLb_drop (L : List Lab) (nm : ByteArray) (k : Nat) (hk : k < L.length) : getLb (L.drop k) nm = if L[k].1 = nm then some L[k].2 else getLb (L.drop (k + 1)) nm := by
  rw [List.drop_eq_getElem_cons hk]
  rfl

set_option maxHeartbeats 400000 in
set_option maxRecDepth 100000 in
theorem refGet_any4 (L : List Lab) (v : Value) (nm : ByteArray) (w : World) (h : LblSl w v L) (hn : L.length ≤ 1000) :
    Calls Try.prog 21 #[v, .string nm] w fun e w' => e = .returned (GetV L nm) ∧ Below w.heap.size w w' := by
  obtain ⟨ao, c, rfl, hc⟩ := h.shape
  obtain ⟨n, hnn⟩ : ∃ n, n = L.length := ⟨_, rfl⟩
  rw [← hnn]
  have HC := Lib.hid hc
  have HN := Lib.hid hnn
  rw [← hnn] at hn
  clear hc hnn h
  go_enter Try.func21, Try.ntmps21
  go_wp2_with fail
  go_loopw [6] (fun i wr => ∃ k : Nat, k ≤ n ∧ i = .int .i64 k ∧ Hid (getLb (L.drop k) nm = getLb L nm) ∧ Below w.heap.size w wr) (fun i _ => n - (intOf i).toNat)
  case atStart => exact ⟨0, Nat.zero_le _, rfl, rfl, Below.refl _ _⟩
  case round =>
    obtain ⟨k, hk, rfl, HG, hbel⟩ := hrel
    by_cases hlt : k < n
    · have hkl : k < L.length := by have := HN.out; omega
      obtain ⟨g, o, rfl, hcc⟩ := HC.out k hkl
      obtain ⟨c0, c1⟩ := hcc wr hbel
      clear hcc
      have hstep := getLb_drop L nm k hkl
      obtain ⟨x, y, hxy⟩ : ∃ x y, L[k] = (x, y) := ⟨_, _, rfl⟩
      rw [hxy] at c0 c1 hstep
      dsimp only at c0 c1 hstep
      clear hxy
      by_cases he : x = nm
      · have hv : GetV L nm = .tuple #[.string y, .bool true] := by unfold GetV; rw [← HG.out, hstep, if_pos he]
        have HV := Lib.hid hv
        have hb := ba_eq he
        clear he hv hstep
        go_wp2_with fail
        go_ret2
        exact ⟨by rw [HV.out]; rfl, hbel⟩
      · rw [if_neg he] at hstep
        have hg2 := hstep.symm.trans HG.out
        have HG2 := Lib.hid hg2
        have hb := ba_ne he
        clear he hstep hg2
        go_wp2_with fail
        go_roundw
        case rel => exact ⟨k + 1, by omega, by go_num, HG2, hbel⟩
        case measure => simp [intOf]; omega
    · have hd : L.drop k = [] := List.drop_eq_nil_of_le (by have := HN.out; omega)
      have hv : GetV L nm = .tuple #[.string { data := #[] }, .bool false] := by unfold GetV; rw [← HG.out, hd]; rfl
      have HV := Lib.hid hv
      clear hd hv
      go_wp2_with fail
      go_ret2
      exact ⟨by rw [HV.out]; rfl, hbel⟩

/-- Two labels held against each other; two lists. -/
def cmpLab (x y : Lab) : Int := if Lib.compareBytes x.1.data.toList y.1.data.toList = 0 then Lib.compareBytes x.2.data.toList y.2.data.toList else Lib.compareBytes x.1.data.toList y.1.data.toList
def lessLb : List Lab → List Lab → Bool
  | [], [] => false
  | [], _ :: _ => true
  | _ :: _, [] => false
  | x :: a, y :: b => if cmpLab x y = 0 then lessLb a b else decide (cmpLab x y < 0)
theorem lessLb_drop (A B : List Lab) (k : Nat) (ha : k < A.length) (hb : k < B.length) :
    lessLb (A.drop k) (B.drop k) = if cmpLab A[k] B[k] = 0 then lessLb (A.drop (k + 1)) (B.drop (k + 1)) else decide (cmpLab A[k] B[k] < 0) := by
  rw [List.drop_eq_getElem_cons ha, List.drop_eq_getElem_cons hb]
  rfl
theorem lessLb_end (A B : List Lab) (k : Nat) (ha : k ≤ A.length) (hb : k ≤ B.length) (h : k = A.length ∨ k = B.length) : lessLb (A.drop k) (B.drop k) = decide (A.length < B.length) := by
  obtain ⟨x, hx⟩ : ∃ x, A.drop k = x := ⟨_, rfl⟩
  obtain ⟨y, hy⟩ : ∃ y, B.drop k = y := ⟨_, rfl⟩
  have e1 := congrArg List.length hx
  have e2 := congrArg List.length hy
  rw [List.length_drop] at e1 e2
  rw [hx, hy]
  cases x with
  | nil =>
    cases y with
    | nil => simp at e1 e2; simp [lessLb]; omega
    | cons c y => simp at e1 e2; simp [lessLb]; omega
  | cons c x =>
    cases y with
    | nil => simp at e1 e2; simp [lessLb]; omega
    | cons d y => simp at e1 e2; omega
/-- A world that has grown out of another. -/
def BelW (w V : World) : Prop := Below w.heap.size w V
theorem BelW.on {w V V' : World} (h : BelW w V) (hb : Below V.heap.size V V') : BelW w V' := Below.trans h (hb.mono h.size)
def smallLb (L : List Lab) : Prop := ∀ x ∈ L, x.1.size ≤ 3000 ∧ x.2.size ≤ 3000

set_option maxHeartbeats 1000000 in
set_option maxRecDepth 100000 in
theorem refLess_any4 (A B : List Lab) (va vb : Value) (w : World) (hA : LblSl w va A) (hB : LblSl w vb B) (_hna : A.length ≤ 1000) (_hnb : B.length ≤ 1000) (sa : smallLb A) (sb : smallLb B) :
    Calls Try.prog 25 #[va, vb] w fun e w' => e = .returned (.bool (lessLb A B)) ∧ Below w.heap.size w w' := by
  obtain ⟨ao, c, rfl, hc⟩ := hA.shape
  obtain ⟨bo, d, rfl, hd⟩ := hB.shape
  obtain ⟨n, hnn⟩ : ∃ n, n = A.length := ⟨_, rfl⟩
  obtain ⟨m, hmm⟩ : ∃ m, m = B.length := ⟨_, rfl⟩
  rw [← hnn, ← hmm]
  have HC := Lib.hid hc
  have HD := Lib.hid hd
  have HN := Lib.hid hnn
  have HM := Lib.hid hmm
  have SA := Lib.hid sa
  have SB := Lib.hid sb
  rw [← hnn] at _hna
  rw [← hmm] at _hnb
  clear hc hd hnn hmm hA hB sa sb
  go_enter Try.func25, Try.ntmps25
  go_wp2_with fail
  go_loopw [5] (fun i wr => ∃ k : Nat, k ≤ n ∧ k ≤ m ∧ i = .int .i64 k ∧ Hid (lessLb (A.drop k) (B.drop k) = lessLb A B) ∧ Below w.heap.size w wr) (fun i _ => n - (intOf i).toNat)
  case atStart => exact ⟨0, Nat.zero_le _, Nat.zero_le _, rfl, rfl, Below.refl _ _⟩
  case round =>
    obtain ⟨k, hka, hkb, rfl, HG, hbel⟩ := hrel
    by_cases hlt : k < n ∧ k < m
    · obtain ⟨h1, h2⟩ := hlt
      have hk1 : k < A.length := by have := HN.out; omega
      have hk2 : k < B.length := by have := HM.out; omega
      obtain ⟨g, o, rfl, hcc⟩ := HC.out k hk1
      obtain ⟨g2, o2, rfl, hdd⟩ := HD.out k hk2
      have hstep := lessLb_drop A B k hk1 hk2
      rw [HG.out] at hstep
      obtain ⟨s1, s2⟩ := SA.out _ (List.getElem_mem hk1)
      obtain ⟨s3, s4⟩ := SB.out _ (List.getElem_mem hk2)
      obtain ⟨x, y, hxy⟩ : ∃ x y, A[k] = (x, y) := ⟨_, _, rfl⟩
      obtain ⟨x', y', hxy'⟩ : ∃ x y, B[k] = (x, y) := ⟨_, _, rfl⟩
      rw [hxy] at hcc hstep s1 s2
      rw [hxy'] at hdd hstep s3 s4
      dsimp only at hcc hdd s1 s2 s3 s4
      unfold cmpLab at hstep
      dsimp only at hstep
      have H1 := Lib.hid (fun W => leastL_any x x' s1 s3 W)
      have H2 := Lib.hid (fun W => leastL_any y y' s2 s4 W)
      obtain ⟨p, hp⟩ : ∃ p, Lib.compareBytes x.data.toList x'.data.toList = p := ⟨_, rfl⟩
      obtain ⟨q, hq⟩ : ∃ q, Lib.compareBytes y.data.toList y'.data.toList = q := ⟨_, rfl⟩
      rw [hp] at H1
      rw [hq] at H2
      rw [hp, hq] at hstep
      have HST := Lib.hid hstep
      clear hxy hxy' hp hq hstep s1 s2 s3 s4
      have e0 : ∀ i : InC (BelW w), i.w.cell? ⟨g, o + k * 2, none⟩ = some (.string x) := fun i => (hcc i.w i.h).1
      have e1 : ∀ i : InC (BelW w), i.w.cell? ⟨g2, o2 + k * 2, none⟩ = some (.string x') := fun i => (hdd i.w i.h).1
      have f0 : ∀ i : InC (BelW w), i.w.cell? ⟨g, o + k * 2 + 1, none⟩ = some (.string y) := fun i => (hcc i.w i.h).2
      have f1 : ∀ i : InC (BelW w), i.w.cell? ⟨g2, o2 + k * 2 + 1, none⟩ = some (.string y') := fun i => (hdd i.w i.h).2
      clear hcc hdd
      have HF0 := Lib.hid f0
      have HF1 := Lib.hid f1
      clear f0 f1
      go_wp2_with fail
      refine region_class (BelW w) (by kernel_rfl) (by kernel_rfl) (hbel.drew) ?_
      intro hne
      repeat (go_big_quiet_step ((go_at_call 43; refine (H1.out _).mono ?_; rintro e w' ⟨rfl, hb⟩; exact ⟨rfl, ⟨_, BelW.on (InC.h _) hb⟩, rfl⟩)))
      refine wpQuiet_nil ?_
      clear e0 e1 hne
      rintro ⟨w3, hb3⟩
      dsimp only
      by_cases hp0 : p = 0
      · subst hp0
        have hst := HST.out
        rw [if_pos rfl] at hst
        have HST2 := Lib.hid hst
        clear hst
        have f0 := HF0.out
        have f1 := HF1.out
        go_wp2_with fail
        refine region_class (BelW w) (by kernel_rfl) (by kernel_rfl) (Below.drew hb3) ?_
        intro hne
        repeat (go_big_quiet_step ((go_at_call 43; refine (H2.out _).mono ?_; rintro e w' ⟨rfl, hb⟩; exact ⟨rfl, ⟨_, BelW.on (InC.h _) hb⟩, rfl⟩)))
        refine wpQuiet_nil ?_
        clear f0 f1 hne hb3
        rintro ⟨w5, hb5⟩
        dsimp only
        by_cases hq0 : q = 0
        · subst hq0
          have hst := HST2.out
          rw [if_pos rfl] at hst
          have HST3 := Lib.hid hst.symm
          clear hst
          go_wp2_with fail
          go_roundw
          case rel => exact ⟨k + 1, by omega, by omega, by go_num, HST3, hb5⟩
          case measure => simp [intOf]; omega
        · have hst := HST2.out
          rw [if_neg hq0] at hst
          have HST3 := Lib.hid hst
          have hq1 : (q == 0) = false := by simpa using hq0
          clear hst
          go_wp2_with fail
          go_ret
          exact ⟨by rw [HST3.out]; rfl, hb5⟩
      · have hst := HST.out
        rw [if_neg hp0, if_neg hp0] at hst
        have HST3 := Lib.hid hst
        have hp1 : (p == 0) = false := by simpa using hp0
        clear hst
        go_wp2_with fail
        go_ret
        exact ⟨by rw [HST3.out]; rfl, hb3⟩
    · have he := lessLb_end A B k (by have := HN.out; omega) (by have := HM.out; omega) (by have := HN.out; have := HM.out; omega)
      rw [HG.out] at he
      have hln : decide (A.length < B.length) = decide (n < m) := decide_eq_decide.2 (by have := HN.out; have := HM.out; omega)
      rw [hln] at he
      have HE := Lib.hid he
      clear he hln
      by_cases h1 : k < n
      · go_wp2_with fail
        go_ret
        exact ⟨by rw [HE.out]; rfl, hbel⟩
      · go_wp2_with fail
        go_ret
        exact ⟨by rw [HE.out]; rfl, hbel⟩

theorem same_drop (A B : List Lab) (k : Nat) (ha : k < A.length) (hb : k < B.length) : (A.drop k = B.drop k) ↔ (A[k] = B[k] ∧ A.drop (k + 1) = B.drop (k + 1)) := by
  rw [List.drop_eq_getElem_cons ha, List.drop_eq_getElem_cons hb, List.cons.injEq]
set_option maxHeartbeats 1000000 in
set_option maxRecDepth 100000 in
theorem refSame_any4 (A B : List Lab) (va vb : Value) (w : World) (hA : LblSl w va A) (hB : LblSl w vb B) (hna : A.length ≤ 1000) (hnb : B.length ≤ 1000) :
    Calls Try.prog 16 #[va, vb] w fun e w' => e = .returned (.bool (decide (A = B))) ∧ Below w.heap.size w w' := by
  obtain ⟨ao, c, rfl, hc⟩ := hA.shape
  obtain ⟨bo, d, rfl, hd⟩ := hB.shape
  obtain ⟨n, hnn⟩ : ∃ n, n = A.length := ⟨_, rfl⟩
  obtain ⟨m, hmm⟩ : ∃ m, m = B.length := ⟨_, rfl⟩
  rw [← hnn, ← hmm]
  have HC := Lib.hid hc
  have HD := Lib.hid hd
  have HN := Lib.hid hnn
  have HM := Lib.hid hmm
  rw [← hnn] at hna
  rw [← hmm] at hnb
  clear hc hd hnn hmm hA hB
  by_cases hnm : n = m
  · subst hnm
    go_enter Try.func16, Try.ntmps16
    go_wp2_with fail
    go_loopw [5] (fun i wr => ∃ k : Nat, k ≤ n ∧ i = .int .i64 k ∧ Hid ((A.drop k = B.drop k) ↔ (A = B)) ∧ Below w.heap.size w wr) (fun i _ => n - (intOf i).toNat)
    case atStart => exact ⟨0, Nat.zero_le _, rfl, Iff.rfl, Below.refl _ _⟩
    case round =>
      obtain ⟨k, hk, rfl, HG, hbel⟩ := hrel
      by_cases hlt : k < n
      · have hk1 : k < A.length := by have := HN.out; omega
        have hk2 : k < B.length := by have := HM.out; omega
        obtain ⟨g, o, rfl, hcc⟩ := HC.out k hk1
        obtain ⟨g2, o2, rfl, hdd⟩ := HD.out k hk2
        have hstep := (same_drop A B k hk1 hk2).symm.trans HG.out
        obtain ⟨x, y, hxy⟩ : ∃ x y, A[k] = (x, y) := ⟨_, _, rfl⟩
        obtain ⟨x', y', hxy'⟩ : ∃ x y, B[k] = (x, y) := ⟨_, _, rfl⟩
        rw [hxy] at hcc hstep
        rw [hxy'] at hdd hstep
        dsimp only at hcc hdd
        rw [Prod.mk.injEq] at hstep
        have HST := Lib.hid hstep
        have c0 := (hcc wr hbel).1
        have c1 := (hcc wr hbel).2
        have d0 := (hdd wr hbel).1
        have d1 := (hdd wr hbel).2
        clear hxy hxy' hcc hdd hstep
        by_cases ex : x = x'
        · by_cases ey : y = y'
          · have hg2 : Hid ((A.drop (k + 1) = B.drop (k + 1)) ↔ (A = B)) := (HST.out.symm.trans ⟨fun h => h.2, fun h => ⟨⟨ex, ey⟩, h⟩⟩).symm
            have b1 := ba_eq ex
            have b2 := ba_eq ey
            clear ex ey
            go_wp2_with fail
            go_quiet (fail)
            go_wp2_with fail
            go_roundw
            case rel => exact ⟨k + 1, by omega, by go_num, hg2, bel_drewN hbel _⟩
            case measure => simp [intOf]; omega
          · have hv : decide (A = B) = false := by
              rw [decide_eq_false_iff_not]
              exact fun e => ey (HST.out.2 e).1.2
            have HV := Lib.hid hv
            have b1 := ba_eq ex
            have b2 := ba_ne ey
            clear ex ey hv
            go_wp2_with fail
            go_quiet (fail)
            go_wp2_with fail
            go_ret
            exact ⟨by rw [HV.out]; rfl, bel_drewN hbel _⟩
        · have hv : decide (A = B) = false := by
            rw [decide_eq_false_iff_not]
            exact fun e => ex (HST.out.2 e).1.1
          have HV := Lib.hid hv
          have b1 := ba_ne ex
          clear ex hv
          go_wp2_with fail
          go_quiet (fail)
          go_wp2_with fail
          go_ret
          exact ⟨by rw [HV.out]; rfl, bel_drewN hbel _⟩
      · have hd1 : A.drop k = [] := List.drop_eq_nil_of_le (by have := HN.out; omega)
        have hd2 : B.drop k = [] := List.drop_eq_nil_of_le (by have := HM.out; omega)
        have hv : decide (A = B) = true := by
          rw [decide_eq_true_iff, ← HG.out, hd1, hd2]
        have HV := Lib.hid hv
        clear hd1 hd2 hv
        go_wp2_with fail
        go_ret
        exact ⟨by rw [HV.out]; rfl, hbel⟩
  · have hv : decide (A = B) = false := by
      rw [decide_eq_false_iff_not]
      intro e
      have := congrArg List.length e
      have := HN.out
      have := HM.out
      omega
    have HV := Lib.hid hv
    clear hv
    go_enter Try.func16, Try.ntmps16
    go_wp2_with fail
    go_ret
    exact ⟨by rw [HV.out]; rfl, Below.refl _ _⟩
end Go.Proofs.Ytbcgjgefkkibbaa
