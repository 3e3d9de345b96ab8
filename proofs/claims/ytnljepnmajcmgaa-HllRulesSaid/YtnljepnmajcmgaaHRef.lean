/- The page's own answers for layer 7: isBits, Right. -/
import Derived.Test.YtnljepnmajcmgaaHBase
namespace Go.Proofs.Ytnljepnmajcmgaa
open Go.RowKit

set_option maxRecDepth 100000 in
theorem pBits_any (b : Int) (w : World) : Calls Try.prog 35 #[.int .i64 b] w fun e w' => e = .returned (.bool (okB b)) ∧ w = w' := by
  by_cases h1 : 3 ≤ b
  · by_cases h2 : b ≤ 8
    · have hq : okB b = true := by unfold okB; rw [decide_eq_true h1, decide_eq_true h2]; rfl
      rw [hq]
      go_enter Try.func35, Try.ntmps35
      go_wp2
      go_ret
      exact ⟨by simp; try omega, rfl⟩
    · have hq : okB b = false := by unfold okB; rw [decide_eq_true h1, decide_eq_false h2]; rfl
      rw [hq]
      go_enter Try.func35, Try.ntmps35
      go_wp2
      go_ret
      exact ⟨by simp; try omega, rfl⟩
  · have hq : okB b = false := by unfold okB; rw [decide_eq_false h1]; rfl
    rw [hq]
    go_enter Try.func35, Try.ntmps35
    go_wp2
    go_ret
    exact ⟨by simp; try omega, rfl⟩
theorem pow_wrap {n : Nat} (h3 : 3 ≤ n) (h8 : n ≤ 8) : ∃ p : Nat, p = 2 ^ n ∧ wrap64 ((2 : Int) ^ n) = (p : Int) ∧ 8 ≤ p ∧ p ≤ 256 := by
  have : n = 3 ∨ n = 4 ∨ n = 5 ∨ n = 6 ∨ n = 7 ∨ n = 8 := by omega
  rcases this with rfl | rfl | rfl | rfl | rfl | rfl <;> exact ⟨_, rfl, by decide +kernel, by decide, by decide⟩
set_option maxHeartbeats 4000000 in
set_option maxRecDepth 100000 in
theorem pRight_any (b : Int) (R : List Nat) (w : World) (hR : byteL R) (hn : R.length ≤ 1000) :
    Calls Try.prog 22 #[hV b R] w fun e w' => e = .returned (.bool (rightR b R)) ∧ Below w.heap.size w w' := by
  have B1 := Lib.hid (fun W => pBits_any b W)
  have hx0 := HasC.new w 23 #[.int .i64 b, .string (regS R)]
  have hb0 := (Below.refl w.heap.size w).alloc (Nat.le_refl _) (Obj.cells #[.int .i64 b, .string (regS R)] 23)
  obtain ⟨W1, hW1⟩ : ∃ W1, W1 = w.alloc (Obj.cells #[.int .i64 b, .string (regS R)] 23) := ⟨_, rfl⟩
  rw [← hW1] at hx0 hb0
  obtain ⟨D, hD0, hDon, hDk⟩ : ∃ D : World → Prop, D W1 ∧ (∀ W W', D W → Below W.heap.size W W' → D W') ∧ ∀ W, D W → HasC W w.heap.size 23 #[.int .i64 b, .string (regS R)] ∧ Below w.heap.size w W :=
    ⟨fun W => HasC W w.heap.size 23 #[.int .i64 b, .string (regS R)] ∧ Below w.heap.size w W, ⟨hx0, hb0⟩, fun W W' h hb => ⟨h.1.below hb h.1.lt, h.2.trans (hb.mono h.2.size)⟩, fun _ h => h⟩
  have E1 : ∀ i : InC D, i.w.cell? ⟨w.heap.size, 0, none⟩ = some (.int .i64 b) := fun i => (hDk _ i.h).1.cell 0
  have E2 : ∀ i : InC D, i.w.cell? ⟨w.heap.size, 1, none⟩ = some (.string (regS R)) := fun i => (hDk _ i.h).1.cell 1
  have HDON := Lib.hid hDon
  have HDK := Lib.hid hDk
  have HD0 := Lib.hid (hDon _ _ hD0 ((Below.refl _ _).drew))
  obtain ⟨m, hm⟩ : ∃ m, m = R.length := ⟨_, rfl⟩
  have hsz : (regS R).size = m := by rw [hm, regS_size]
  have HM := Lib.hid hm
  rw [← hm] at hn
  clear hD0 hDon hDk hx0 hb0 hm
  subst hW1
  cases hq : okB b with
  | false =>
    rw [hq] at B1
    have hv : rightR b R = false := by unfold rightR; rw [hq]; rfl
    have HV := Lib.hid hv
    unfold hV
    clear hq hv
    go_enter Try.func22, Try.ntmps22
    go_wp2_with fail
    refine region_class D (by kernel_rfl) (by kernel_rfl) HD0.out ?_
    intro hne
    repeat (go_big_quiet_step ((go_at_call 35; with_reducible refine (B1.out _).mono ?_; rintro e w' ⟨rfl, hw⟩; exact ⟨rfl, ⟨_, hw ▸ InC.h _⟩, rfl⟩)))
    refine wpQuiet_nil ?_
    intro i
    go_wp2_with fail
    go_ret
    exact ⟨by rw [HV.out]; rfl, (HDK.out _ i.h).2⟩
  | true =>
    rw [hq] at B1
    obtain ⟨n, rfl, h3, h8⟩ := okB_nat hq
    obtain ⟨r, hr⟩ : ∃ r, rightR (n : Int) R = r := ⟨_, rfl⟩
    rw [hr]
    have HR := Lib.hid hr
    clear hr
    unfold hV
    go_enter Try.func22, Try.ntmps22
    go_wp2_with fail
    refine region_class D (by kernel_rfl) (by kernel_rfl) HD0.out ?_
    intro hne
    repeat (go_big_quiet_step ((go_at_call 35; with_reducible refine (B1.out _).mono ?_; rintro e w' ⟨rfl, hw⟩; exact ⟨rfl, ⟨_, hw ▸ InC.h _⟩, rfl⟩)))
    refine wpQuiet_nil ?_
    intro i
    obtain ⟨p, hp, hpw, hp8, hp256⟩ := pow_wrap h3 h8
    have HP := Lib.hid hp
    have HQ := Lib.hid hq
    clear hp hq E1 E2 hne
    have hc := HDK.out _ i.h
    obtain ⟨V, hV⟩ : ∃ V, i.w = V := ⟨_, rfl⟩
    rw [hV] at hc ⊢
    have h0 := hc.1
    have hb0 := hc.2
    have k0 := h0.cell 0
    have k1 := h0.cell 1
    by_cases hmp : m = p
    · have hne : ((m : Int) != (p : Int)) = false := by simp; omega
      have hr0 : Hid ((R.drop 0).all (fun x => decide ((x : Int) ≤ 65 - (n : Int))) = r) := by
        show _ = _
        rw [← HR.out, List.drop_zero]
        unfold rightR
        rw [HQ.out, ← HM.out, hmp, HP.out, Int.toNat_natCast, decide_eq_true rfl, Bool.true_and, Bool.true_and]
      clear hc hV
      rw [hpw, hne]
      clear hpw hne hp8
      have HMP := Lib.hid hmp
      clear hmp
      go_wp2_with fail
      go_loopw [3] (fun i wr => ∃ k : Nat, k ≤ m ∧ i = .int .i64 k ∧ Hid ((R.drop k).all (fun x => decide ((x : Int) ≤ 65 - (n : Int))) = r) ∧ HasC wr w.heap.size 23 #[.int .i64 n, .string (regS R)] ∧ Below w.heap.size w wr) (fun i _ => m - (intOf i).toNat)
      case atStart => exact ⟨0, Nat.zero_le _, rfl, hr0, h0, hb0⟩
      case round =>
        obtain ⟨k, hk, rfl, hs, hx, hbel⟩ := hrel
        clear k0 k1 h0 hb0
        have k0 := hx.cell 0
        have k1 := hx.cell 1
        by_cases hlt : k < m
        · have hkR : k < R.length := by have := HM.out; omega
          have hds : k < (regS R).size := by rw [regS_size]; exact hkR
          have hat := regS_get R hR k hkR hds
          have hst := List.drop_eq_getElem_cons hkR
          obtain ⟨y, hy⟩ : ∃ y, R[k] = y := ⟨_, rfl⟩
          have hy256 : y < 256 := by rw [← hy]; exact hR _ (List.getElem_mem hkR)
          rw [hy] at hat hst
          have HS := Lib.hid hst
          clear hst hy
          by_cases hle : (y : Int) ≤ 65 - (n : Int)
          · have hs2 : Hid ((R.drop (k + 1)).all (fun x => decide ((x : Int) ≤ 65 - (n : Int))) = r) := by
              show _ = _
              rw [← hs.out, HS.out, List.all_cons, decide_eq_true hle, Bool.true_and]
            have hw := wrap64_small (y := (y : Int)) (by omega) (by omega)
            have hnl : ¬ 65 - (n : Int) < (y : Int) := by omega
            go_wp2_with fail
            go_quiet (fail)
            have hx1 := hx.drewN nq
            have hbel1 := bel_drewN hbel nq
            generalize wr.drewN nq = V2 at hx1 hbel1
            clear k0 k1 hx hbel
            go_wp2_with fail
            go_roundw
            case rel => exact ⟨k + 1, by omega, by go_num, hs2, hx1, hbel1⟩
            case measure => simp [intOf]; omega
          · have hv : r = false := by
              rw [← hs.out, HS.out, List.all_cons, decide_eq_false hle, Bool.false_and]
            subst hv
            have hw := wrap64_small (y := (y : Int)) (by omega) (by omega)
            have hnl : 65 - (n : Int) < (y : Int) := by omega
            go_wp2_with fail
            go_quiet (fail)
            have hbel1 := bel_drewN hbel nq
            clear k0 k1 hx hbel
            go_wp2_with fail
            go_ret
            exact ⟨rfl, hbel1⟩
        · have hv : r = true := by
            rw [← hs.out, List.drop_eq_nil_of_le (by have := HM.out; omega)]
            rfl
          subst hv
          go_wp2_with fail
          go_ret
          exact ⟨rfl, hbel⟩
    · have hne : ((m : Int) != (p : Int)) = true := by simp; omega
      have hv : r = false := by
        rw [← HR.out]
        unfold rightR
        rw [← HM.out, Int.toNat_natCast, ← HP.out, decide_eq_false hmp, Bool.false_and, Bool.and_false]
      subst hv
      clear hc hV
      go_wp2_with fail
      go_ret
      exact ⟨rfl, hb0⟩
end Go.Proofs.Ytnljepnmajcmgaa
