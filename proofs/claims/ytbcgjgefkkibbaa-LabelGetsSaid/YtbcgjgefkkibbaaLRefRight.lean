
/- The page's own answers for layer 4: Right. -/
import Derived.Test.YtbcgjgefkkibbaaLLab
namespace Go.Proofs.Ytbcgjgefkkibbaa
open Go.RowKit

def aheadB : Option ByteArray → ByteArray → Bool
  | none, _ => true
  | some y, x => decide (Lib.compareBytes y.data.toList x.data.toList < 0)
def rightF : Option ByteArray → List Lab → Bool
  | _, [] => true
  | p, x :: L => (nameB x.1.data.toList && (valueB x.2.data.toList && aheadB p x.1)) && rightF (some x.1) L
/-- Are labels a set? -/
def rightB (L : List Lab) : Bool := rightF none L && (decide (1 ≤ L.length) && decide (L.length ≤ 6))
def prevL (L : List Lab) : Nat → Option ByteArray
  | 0 => none
  | k + 1 => L[k]?.map (·.1)
theorem rightF_drop (L : List Lab) (k : Nat) (hk : k < L.length) :
    rightF (prevL L k) (L.drop k) = ((nameB L[k].1.data.toList && (valueB L[k].2.data.toList && aheadB (prevL L k) L[k].1)) && rightF (prevL L (k + 1)) (L.drop (k + 1))) := by
  rw [List.drop_eq_getElem_cons hk]
  have : prevL L (k + 1) = some L[k].1 := by simp [prevL, hk]
  rw [this]
  rfl

set_option maxHeartbeats 2000000 in
set_option maxRecDepth 100000 in
theorem refRight_any (L : List Lab) (v : Value) (w : World) (h : LblSl w v L) (hn : L.length ≤ 1000) (sa : smallLb L) :
    Calls Try.prog 23 #[v] w fun e w' => e = .returned (.bool (rightB L)) ∧ Below w.heap.size w w' := by
  obtain ⟨ao, c, rfl, hc⟩ := h.shape
  obtain ⟨n, hnn⟩ : ∃ n, n = L.length := ⟨_, rfl⟩
  rw [← hnn]
  have HC := Lib.hid hc
  have HN := Lib.hid hnn
  have SA := Lib.hid sa
  rw [← hnn] at hn
  clear hc hnn h sa
  go_enter Try.func23, Try.ntmps23
  go_wp2_with fail
  go_loopw [3] (fun i wr => ∃ k : Nat, k ≤ n ∧ i = .int .i64 k ∧ Hid (rightF (prevL L k) (L.drop k) = rightF none L) ∧ Below w.heap.size w wr) (fun i _ => n - (intOf i).toNat)
  case atStart => exact ⟨0, Nat.zero_le _, rfl, rfl, Below.refl _ _⟩
  case round =>
    obtain ⟨k, hk, rfl, HG, hbel⟩ := hrel
    by_cases hlt : k < n
    · have hkl : k < L.length := by have := HN.out; omega
      obtain ⟨g, o, rfl, hcc⟩ := HC.out k hkl
      have hstep := rightF_drop L k hkl
      rw [HG.out] at hstep
      obtain ⟨s1, s2⟩ := SA.out _ (List.getElem_mem hkl)
      obtain ⟨x, y, hxy⟩ : ∃ x y, L[k] = (x, y) := ⟨_, _, rfl⟩
      rw [hxy] at hcc hstep s1 s2
      dsimp only at hcc hstep s1 s2
      have H1 := Lib.hid (fun W => refName_any x (by omega) W)
      have H2 := Lib.hid (fun W => refValue_any y (by omega) W)
      obtain ⟨b1, hb1⟩ : ∃ b1, nameB x.data.toList = b1 := ⟨_, rfl⟩
      obtain ⟨b2, hb2⟩ : ∃ b2, valueB y.data.toList = b2 := ⟨_, rfl⟩
      rw [hb1] at H1 hstep
      rw [hb2] at H2 hstep
      have e0 : ∀ i : InC (BelW w), i.w.cell? ⟨g, o + k * 2, none⟩ = some (.string x) := fun i => (hcc i.w i.h).1
      have e1 : ∀ i : InC (BelW w), i.w.cell? ⟨g, o + k * 2 + 1, none⟩ = some (.string y) := fun i => (hcc i.w i.h).2
      have HX := Lib.hid hxy
      clear hxy hcc hb1 hb2
      cases b1 with
      | false =>
        have hv : rightB L = false := by unfold rightB; rw [hstep]; rfl
        have HV := Lib.hid hv
        clear hstep hv
        go_wp2_with fail
        refine region_class (BelW w) (by kernel_rfl) (by kernel_rfl) (hbel.drew) ?_
        intro hne
        repeat (go_big_quiet_step ((go_at_call 41; refine (H1.out _).mono ?_; rintro e w' ⟨rfl, hb⟩; exact ⟨rfl, ⟨_, BelW.on (InC.h _) hb⟩, rfl⟩)))
        refine wpQuiet_nil ?_
        clear e0 e1 hne
        rintro ⟨w3, hb3⟩
        dsimp only
        go_wp2_with fail
        go_ret
        exact ⟨by rw [HV.out]; rfl, hb3⟩
      | true =>
        cases b2 with
        | false =>
          have hv : rightB L = false := by unfold rightB; rw [hstep]; rfl
          have HV := Lib.hid hv
          clear hstep hv
          go_wp2_with fail
          refine region_class (BelW w) (by kernel_rfl) (by kernel_rfl) (hbel.drew) ?_
          intro hne
          repeat (go_big_quiet_step (first | (go_at_call 41; refine (H1.out _).mono ?_; rintro e w' ⟨rfl, hb⟩; exact ⟨rfl, ⟨_, BelW.on (InC.h _) hb⟩, rfl⟩) | (go_at_call 42; refine (H2.out _).mono ?_; rintro e w' ⟨rfl, hb⟩; exact ⟨rfl, ⟨_, BelW.on (InC.h _) hb⟩, rfl⟩)))
          refine wpQuiet_nil ?_
          clear e0 e1 hne
          rintro ⟨w3, hb3⟩
          dsimp only
          go_wp2_with fail
          go_ret
          exact ⟨by rw [HV.out]; rfl, hb3⟩
        | true =>
          cases k with
          | zero =>
            have hg : Hid (rightF (prevL L 1) (L.drop 1) = rightF none L) := by
              show rightF (prevL L 1) (L.drop 1) = rightF none L
              rw [hstep]
              simp [prevL, aheadB]
            clear hstep
            simp only [Nat.zero_mul, Nat.add_zero] at e0 e1
            go_wp2_with fail
            refine region_class (BelW w) (by kernel_rfl) (by kernel_rfl) (hbel.drew) ?_
            intro hne
            repeat (go_big_quiet_step (first | (go_at_call 41; refine (H1.out _).mono ?_; rintro e w' ⟨rfl, hb⟩; exact ⟨rfl, ⟨_, BelW.on (InC.h _) hb⟩, rfl⟩) | (go_at_call 42; refine (H2.out _).mono ?_; rintro e w' ⟨rfl, hb⟩; exact ⟨rfl, ⟨_, BelW.on (InC.h _) hb⟩, rfl⟩)))
            refine wpQuiet_nil ?_
            clear e0 e1 hne
            rintro ⟨w3, hb3⟩
            dsimp only
            go_wp2_with fail
            go_roundw
            case rel => exact ⟨1, by omega, by go_num, hg, hb3⟩
            case measure => simp [intOf]; omega
          | succ k =>
            have hkl' : k < L.length := by omega
            obtain ⟨g', o', hao, hcc'⟩ := HC.out k hkl'
            obtain ⟨rfl, rfl⟩ : g = g' ∧ o = o' := by simpa using hao
            obtain ⟨x0, y0, hxy0⟩ : ∃ x y, L[k] = (x, y) := ⟨_, _, rfl⟩
            obtain ⟨s3, _⟩ := SA.out _ (List.getElem_mem hkl')
            rw [hxy0] at hcc' s3
            dsimp only at hcc' s3
            have e2 : ∀ i : InC (BelW w), i.w.cell? ⟨g, o + k * 2, none⟩ = some (.string x0) := fun i => (hcc' i.w i.h).1
            have hp : prevL L (k + 1) = some x0 := by simp [prevL, hkl', hxy0]
            rw [hp, show aheadB (some x0) x = decide (Lib.compareBytes x0.data.toList x.data.toList < 0) from rfl] at hstep
            have H3 := Lib.hid (fun W => leastL_any x0 x s3 s1 W)
            obtain ⟨q, hq⟩ : ∃ q, Lib.compareBytes x0.data.toList x.data.toList = q := ⟨_, rfl⟩
            rw [hq] at H3 hstep
            clear hcc' hxy0 hp hq hao
            by_cases hq0 : q < 0
            · have hg : Hid (rightF (prevL L (k + 1 + 1)) (L.drop (k + 1 + 1)) = rightF none L) := by
                show rightF (prevL L (k + 1 + 1)) (L.drop (k + 1 + 1)) = rightF none L
                rw [hstep]
                simp [hq0]
              clear hstep
              go_wp2_with fail
              refine region_class (BelW w) (by kernel_rfl) (by kernel_rfl) (hbel.drew) ?_
              intro hne
              repeat (go_big_quiet_step (first | (go_at_call 41; refine (H1.out _).mono ?_; rintro e w' ⟨rfl, hb⟩; exact ⟨rfl, ⟨_, BelW.on (InC.h _) hb⟩, rfl⟩) | (go_at_call 42; refine (H2.out _).mono ?_; rintro e w' ⟨rfl, hb⟩; exact ⟨rfl, ⟨_, BelW.on (InC.h _) hb⟩, rfl⟩) | (go_at_call 43; refine (H3.out _).mono ?_; rintro e w' ⟨rfl, hb⟩; exact ⟨rfl, ⟨_, BelW.on (InC.h _) hb⟩, rfl⟩)))
              refine wpQuiet_nil ?_
              clear e0 e1 e2 hne
              rintro ⟨w3, hb3⟩
              dsimp only
              go_wp2_with fail
              go_roundw
              case rel => exact ⟨k + 1 + 1, by omega, by go_num, hg, hb3⟩
              case measure => simp [intOf]; omega
            · have hv : rightB L = false := by unfold rightB; rw [hstep]; simp [hq0]
              have HV := Lib.hid hv
              clear hstep hv
              go_wp2_with fail
              refine region_class (BelW w) (by kernel_rfl) (by kernel_rfl) (hbel.drew) ?_
              intro hne
              repeat (go_big_quiet_step (first | (go_at_call 41; refine (H1.out _).mono ?_; rintro e w' ⟨rfl, hb⟩; exact ⟨rfl, ⟨_, BelW.on (InC.h _) hb⟩, rfl⟩) | (go_at_call 42; refine (H2.out _).mono ?_; rintro e w' ⟨rfl, hb⟩; exact ⟨rfl, ⟨_, BelW.on (InC.h _) hb⟩, rfl⟩) | (go_at_call 43; refine (H3.out _).mono ?_; rintro e w' ⟨rfl, hb⟩; exact ⟨rfl, ⟨_, BelW.on (InC.h _) hb⟩, rfl⟩)))
              refine wpQuiet_nil ?_
              clear e0 e1 e2 hne
              rintro ⟨w3, hb3⟩
              dsimp only
              go_wp2_with fail
              go_ret
              exact ⟨by rw [HV.out]; rfl, hb3⟩
    · have hd : L.drop k = [] := List.drop_eq_nil_of_le (by have := HN.out; omega)
      have hr : rightF none L = true := by
        rw [← HG.out, hd]
        cases prevL L k <;> rfl
      by_cases q1 : 1 ≤ n
      · by_cases q2 : n ≤ 6
        · have hv : rightB L = true := by unfold rightB; rw [hr, ← HN.out]; simp; omega
          have HV := Lib.hid hv
          clear hd hr hv
          go_wp2_with fail
          go_ret
          exact ⟨by rw [HV.out]; go_num, hbel⟩
        · have hv : rightB L = false := by unfold rightB; rw [hr, ← HN.out]; simp; omega
          have HV := Lib.hid hv
          clear hd hr hv
          go_wp2_with fail
          go_ret
          exact ⟨by rw [HV.out]; go_num, hbel⟩
      · have hv : rightB L = false := by unfold rightB; rw [hr, ← HN.out]; simp; omega
        have HV := Lib.hid hv
        clear hd hr hv
        go_wp2_with fail
        go_ret
        exact ⟨by rw [HV.out]; go_num, hbel⟩
end Go.Proofs.Ytbcgjgefkkibbaa
