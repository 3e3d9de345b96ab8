/- Package hll: check; Right. -/
import Derived.Test.YtnljepnmajcmgaaHCPr
namespace Go.Proofs.Ytnljepnmajcmgaa
open Go.RowKit Go.Shelf
attribute [local go_sem] Oper.semAt_some

/-- Right registers, of so many bits. -/
def okR (b0 : Int) (X : Rg) : Bool := rightR X.1 X.2 && decide (X.1 = b0)
def headB (L : List Rg) : Int := match L with | [] => 0 | X :: _ => X.1
def checkL (L : List Rg) : Bool := L.all (okR (headB L))
theorem check_no {L : List Rg} {k : Nat} (hk : k < L.length) (h : okR (headB L) L[k] = false) : checkL L = false := by
  unfold checkL
  rw [List.all_eq_false]
  exact ⟨_, List.getElem_mem hk, by rw [h]; decide⟩
theorem check_step {L : List Rg} {k : Nat} (hk : k < L.length) (h : (L.take k).all (okR (headB L)) = true) (h2 : okR (headB L) L[k] = true) : (L.take (k + 1)).all (okR (headB L)) = true := by
  rw [List.take_succ_eq_append_getElem hk, List.all_append, h, List.all_cons, h2]
  rfl

set_option maxHeartbeats 4000000 in
set_option maxRecDepth 100000 in
theorem check_in (n : Nat) (h3 : 5 ≤ n) (ao : Option Addr) (c : Nat) (L : List Rg) (w : World) (hL : HllAt w.heap.size ao L w) (hn : L.length ≤ 10) (hb : ∀ X ∈ L, byteL X.2 ∧ X.2.length ≤ 300) :
    CallsIn Fence.wide n Try.prog 36 #[.slice ao L.length c] w fun e w' => (∃ u, e = .returned u ∧ ErrV (checkL L) u) ∧ Below w.heap.size w w' := by
  obtain ⟨m, hm⟩ : ∃ m, m = L.length := ⟨_, rfl⟩
  have HM := Lib.hid hm
  rw [← hm] at hn
  rw [← hm]
  have HL := Lib.hid hL
  have HB := Lib.hid hb
  have HC : Hid (L.all (okR (headB L)) = checkL L) := rfl
  clear hm hL hb
  refine callsIn_of_wp_marks Try.func36 rfl trivial ?_ rfl
  simp only [Try.ntmps36, List.size_toArray, List.length_cons, List.length_nil, Nat.reduceAdd, Nat.reduceSub, Array.replicate_succ, Array.replicate_zero, List.push_toArray, List.append_toArray, List.nil_append, List.cons_append]
  gi_wp2
  refine wpIn_scope' ?_
  gi_wp2_with fail
  refine wpIn_label ?_
  gi_wp2_with fail
  refine ⟨trivial, fun _ => by omega, ?_⟩
  refine (callsIn_wide.2 (eachHll_any _ _ _ _)).mono ?_
  rintro e w2 ⟨rfl, rfl⟩
  gi_wp2_with fail
  obtain ⟨W0, hW0⟩ : ∃ W0, W0 = ((w.alloc (.cells #[.slice ao m c] 69)).alloc (.cells #[.nilIface] 47)).alloc (.cells #[.slice ao m c] 69) := ⟨_, rfl⟩
  have hz0 : W0.heap.size = w.heap.size + 3 := by rw [hW0]; simp
  have hb0 : Below w.heap.size w W0 := by
    rw [hW0]
    exact (((Below.refl _ w).alloc (Nat.le_refl _) _).alloc (by simp) _).alloc (by simp; omega) _
  have hA0 : HasC W0 w.heap.size 69 #[.slice ao m c] := by rw [hW0]; exact ((HasC.new w _ _).alloc _).alloc _
  have hE0 : HasC W0 (w.heap.size + 1) 47 #[.nilIface] := by rw [hW0]; exact (HasC.at_ _ _ _ (by simp)).alloc _
  have hS0 : HasC W0 (w.heap.size + 2) 69 #[.slice ao m c] := by rw [hW0]; exact HasC.at_ _ _ _ (by simp)
  rw [← hW0]
  clear hW0
  refine range_fn (by omega) (each_hll (w.heap.size + 2) w.heap.size ao c L (by have := HM.out; omega)) (enters_of Try.func50 (by kernel_rfl) rfl) rfl (fun _ => rfl)
    (fun k W => HasC W (w.heap.size + 2) 69 #[.slice ao m c] ∧ Below w.heap.size w W ∧ HasC W (w.heap.size + 1) 47 #[.nilIface] ∧ HasC W w.heap.size 69 #[.slice ao m c] ∧ (L.take k).all (okR (headB L)) = true)
    (fun j W => j = .exit 0 ∧ Below w.heap.size w W ∧ checkL L = false ∧ ∃ s, HasC W (w.heap.size + 1) 47 #[.iface 66 (.string s)])
    (fun k W W' h hb => ⟨h.1.below hb h.1.lt, h.2.1.trans (hb.mono h.2.1.size), h.2.2.1.below hb h.2.2.1.lt, h.2.2.2.1.below hb h.2.2.2.1.lt, h.2.2.2.2⟩)
    (fun k W h => ⟨by rw [← HM.out]; exact h.1.cell 0, HL.out.below h.2.1⟩) ?_ ?_ ?_ ?_ ?_ ?_
  · rintro k W _ o ⟨hS, hbw, hE, hA, hAll⟩ _
    exact ⟨hS.put (by omega) _, below_put hbw _ _ (by omega), hE.put (by omega) _, hA.put (by omega) _, hAll⟩
  · rintro j W _ o ⟨hj, hbw, hv, s, hE⟩ _
    exact ⟨hj, below_put hbw _ _ (by omega), hv, s, hE.put (by omega) _⟩
  · intro o
    have hk : Below W0.heap.size W0 ((W0.alloc (.deferred (some []))).alloc (.loop o)) := ((Below.refl _ W0).alloc (Nat.le_refl _) _).alloc (by simp) _
    exact ⟨hS0.below hk hS0.lt, hb0.trans (hk.mono hb0.size), hE0.below hk hE0.lt, hA0.below hk hA0.lt, by rw [List.take_zero]; rfl⟩
  · rintro k hk W ⟨hS, hbw, hE, hA, hAll⟩ rd bz hLp
    have hkm : k < m := by have := HM.out; omega
    obtain ⟨hRb, hRn⟩ := HB.out _ (List.getElem_mem hk)
    have hno := Lib.hid (fun h => check_no hk h)
    have hst := Lib.hid (fun h => check_step hk hAll h)
    obtain ⟨g, o, rfl, hg, hc1, _⟩ := HL.out 0 (by omega)
    have hhd : L[0].1 = headB L := by
      cases L with
      | nil => simp at hk
      | cons X t => rfl
    have hokv : okR (headB L) L[k] = (rightR L[k].1 L[k].2 && decide (L[k].1 = headB L)) := rfl
    rw [hokv] at hno hst
    rw [hhd] at hc1
    have HCk := Lib.hid HC.out
    obtain ⟨b, hbx⟩ : ∃ b, b = L[k].1 := ⟨_, rfl⟩
    obtain ⟨R, hRx⟩ : ∃ R, R = L[k].2 := ⟨_, rfl⟩
    obtain ⟨b0, hb0x⟩ : ∃ b0, b0 = headB L := ⟨_, rfl⟩
    unfold encH
    rw [← hbx, ← hRx] at hno hst
    rw [← hbx, ← hRx]
    rw [← hRx] at hRb hRn
    rw [← hb0x] at hc1 hno hst
    have hLt := hLp.lt
    rw [Nat.zero_mul, Nat.add_zero] at hc1
    have HG0 := Lib.hid hb0x
    clear hA0 hE0 hS0 hb0 hhd hokv hbx hRx hb0x
    gi_wp2_with fail
    refine ⟨hLp.alloc _, ?_⟩
    have hX1 : HasC ((W.alloc (.cells #[.int .i64 b, .string (regS R)] 23)).putObj (W0.heap.size + 1) (.loop bz)) W.heap.size 23 #[.int .i64 b, .string (regS R)] := (HasC.new W _ _).put (by omega) _
    have hA1 := (hA.alloc (.cells #[.int .i64 b, .string (regS R)] 23)).put (L := W0.heap.size + 1) (by omega) (.loop bz)
    have hE1 := (hE.alloc (.cells #[.int .i64 b, .string (regS R)] 23)).put (L := W0.heap.size + 1) (by omega) (.loop bz)
    have hS1 := (hS.alloc (.cells #[.int .i64 b, .string (regS R)] 23)).put (L := W0.heap.size + 1) (by omega) (.loop bz)
    have hbw1 := below_put (hbw.alloc (by omega) (.cells #[.int .i64 b, .string (regS R)] 23)) (W0.heap.size + 1) (.loop bz) (by omega)
    have hL1 := (hLp.alloc (.cells #[.int .i64 b, .string (regS R)] 23)).put (.loop bz)
    generalize (W.alloc (.cells #[.int .i64 b, .string (regS R)] 23)).putObj (W0.heap.size + 1) (.loop bz) = V at hX1 hA1 hE1 hS1 hbw1 hL1
    clear hS hbw hE hA hLp
    have HLT := Lib.hid hLt
    have x0 := hX1.cell 0
    have D1 := Lib.hid (fun W => digits_any b W)
    have ze := hE1.frozen 0
    have ce := hE1.cell 0
    clear hLt hAll
    cases hq : okB b with
    | false =>
      rw [hq] at D1
      have hv : checkL L = false := hno.out (by unfold rightR; rw [hq]; rfl)
      have HV := Lib.hid hv
      clear hv hq
      gi_wp2_with fail
      refine ⟨trivial, fun _ => by omega, ?_⟩
      refine (CallsIn.inRound _ (callsIn_wide.2 (D1.out _))).mono ?_
      rintro e V2 ⟨⟨u, rfl, hu⟩, rfl⟩
      rcases hu with ⟨hu, _⟩ | ⟨_, s, rfl⟩
      · cases hu
      gi_wp2_with fail
      exact ⟨hL1.set _ _ (by simp; omega) (by simp; omega), rfl, hbw1.setCell (p := ⟨w.heap.size + 1, 0, none⟩) (by simp) _, HV.out, _, (hE1.set 0 _).eq rfl⟩
    | true =>
      rw [hq] at D1
      obtain ⟨nb, rfl, h3b, h8b⟩ := okB_nat hq
      gi_wp2_with fail
      refine ⟨trivial, fun _ => by omega, ?_⟩
      refine (CallsIn.inRound _ (callsIn_wide.2 (D1.out _))).mono ?_
      rintro e V2 ⟨⟨u, rfl, hu⟩, rfl⟩
      rcases hu with ⟨_, rfl⟩ | ⟨hu, _⟩
      case inr => cases hu
      gi_wp2_with fail
      have hE2 : HasC (V.setCell ⟨w.heap.size + 1, 0, none⟩ .nilIface) (w.heap.size + 1) 47 #[.nilIface] := (hE1.set 0 .nilIface).eq rfl
      have hX2 := hX1.far ⟨w.heap.size + 1, 0, none⟩ .nilIface (by have := HLT.out; simp; omega)
      have hA2 := hA1.far ⟨w.heap.size + 1, 0, none⟩ .nilIface (by simp)
      have hS2 := hS1.far ⟨w.heap.size + 1, 0, none⟩ .nilIface (by simp)
      have hL2 := hL1.set ⟨w.heap.size + 1, 0, none⟩ .nilIface (by simp; omega) (by simp; omega)
      have hbw2 := hbw1.setCell (p := ⟨w.heap.size + 1, 0, none⟩) (by simp) .nilIface
      generalize V.setCell ⟨w.heap.size + 1, 0, none⟩ .nilIface = V2 at hE2 hX2 hA2 hS2 hL2 hbw2
      clear hE1 hX1 hA1 hS1 hL1 hbw1 x0 ze ce D1
      have HZ := Lib.hid hz0
      obtain ⟨pw, hp, hpw, hp8, hp256⟩ := pow_wrap h3b h8b
      obtain ⟨q, hql⟩ : ∃ q, q = R.length := ⟨_, rfl⟩
      have hsz : (regS R).size = q := by rw [regS_size, hql]
      have hm0 : (0 : Int) < (m : Int) := by omega
      have E1 : ∀ i : InC (DrN V2), i.w.cell? ⟨W.heap.size, 0, none⟩ = some (.int .i64 (nb : Int)) := fun ⟨_, _, h⟩ => by subst h; exact hX2.cell 0
      have E2 : ∀ i : InC (DrN V2), i.w.cell? ⟨W.heap.size, 1, none⟩ = some (.string (regS R)) := fun ⟨_, _, h⟩ => by subst h; exact hX2.cell 1
      have E3 : ∀ i : InC (DrN V2), i.w.cell? ⟨w.heap.size, 0, none⟩ = some (.slice (some ⟨g, o, none⟩) m c) := fun ⟨_, _, h⟩ => by subst h; exact hA2.cell 0
      have E4 : ∀ i : InC (DrN V2), i.w.cell? ⟨g, o, none⟩ = some (.int .i64 b0) := fun ⟨_, _, h⟩ => by subst h; exact (hbw2.cell (p := ⟨g, o, none⟩) hg).trans hc1
      have HP := Lib.hid hp
      have HQ := Lib.hid hq
      have HQL := Lib.hid hql
      have HRB := Lib.hid hRb
      clear hp hq hql hRb
      by_cases hbb : (nb : Int) = b0
      case neg =>
        have hv : checkL L = false := hno.out (by rw [decide_eq_false hbb, Bool.and_false])
        have HV := Lib.hid hv
        have hbne : ((nb : Int) != b0) = true := by simp [hbb]
        clear hv hbb
        refine region_tailIn 15 (DrN V2) (by kernel_rfl) (by kernel_rfl) (by kernel_rfl) ⟨1, rfl⟩ ?_
        intro hne
        simp only [List.take_succ_cons, List.take_zero]
        repeat (go_big_quiet_step (fail))
        refine wpQuiet_nil ?_
        intro i
        simp only [List.drop_succ_cons, List.drop_zero]
        obtain ⟨V3, dn, hV3⟩ := i
        have hE3 : HasC V3 (w.heap.size + 1) 47 #[.nilIface] := by rw [hV3]; exact hE2
        have hX3 : HasC V3 W.heap.size 23 #[.int .i64 nb, .string (regS R)] := by rw [hV3]; exact hX2
        have hA3 : HasC V3 w.heap.size 69 #[.slice (some ⟨g, o, none⟩) m c] := by rw [hV3]; exact hA2
        have hS3 : HasC V3 (w.heap.size + 2) 69 #[.slice (some ⟨g, o, none⟩) m c] := by rw [hV3]; exact hS2
        have hL3 : Lp W0.heap.size (.loop bz) V3 := by rw [hV3]; exact hL2
        have hbw3 : Below w.heap.size w V3 := by rw [hV3]; exact bel_drewN hbw2 dn
        dsimp only
        clear hE2 hX2 hA2 hS2 hL2 hbw2 E1 E2 E3 E4 hV3 hne
        have ze := hE3.frozen 0
        have ce := hE3.cell 0
        gi_wp2_with fail
        exact ⟨hL3.set _ _ (by simp; omega) (by simp; omega), rfl, hbw3.setCell (p := ⟨w.heap.size + 1, 0, none⟩) (by simp) _, HV.out, _, (hE3.set 0 _).eq rfl⟩
      case pos =>
        have HBB := Lib.hid hbb
        have hbne : ((nb : Int) != b0) = false := by simp [hbb]
        clear hbb
        by_cases hqp : q = pw
        case neg =>
          have hv : checkL L = false := hno.out (by unfold rightR; rw [← HQL.out, Int.toNat_natCast, ← HP.out, decide_eq_false hqp, Bool.false_and, Bool.and_false, Bool.false_and])
          have HV := Lib.hid hv
          have hqne : ((q : Int) != (pw : Int)) = true := by simp; omega
          clear hv hqp
          refine region_tailIn 15 (DrN V2) (by kernel_rfl) (by kernel_rfl) (by kernel_rfl) ⟨1, rfl⟩ ?_
          intro hne
          simp only [List.take_succ_cons, List.take_zero]
          repeat (go_big_quiet_step (fail))
          refine wpQuiet_nil ?_
          intro i
          simp only [List.drop_succ_cons, List.drop_zero]
          obtain ⟨V3, dn, hV3⟩ := i
          have hE3 : HasC V3 (w.heap.size + 1) 47 #[.nilIface] := by rw [hV3]; exact hE2
          have hX3 : HasC V3 W.heap.size 23 #[.int .i64 nb, .string (regS R)] := by rw [hV3]; exact hX2
          have hA3 : HasC V3 w.heap.size 69 #[.slice (some ⟨g, o, none⟩) m c] := by rw [hV3]; exact hA2
          have hS3 : HasC V3 (w.heap.size + 2) 69 #[.slice (some ⟨g, o, none⟩) m c] := by rw [hV3]; exact hS2
          have hL3 : Lp W0.heap.size (.loop bz) V3 := by rw [hV3]; exact hL2
          have hbw3 : Below w.heap.size w V3 := by rw [hV3]; exact bel_drewN hbw2 dn
          dsimp only
          clear hE2 hX2 hA2 hS2 hL2 hbw2 E1 E2 E3 E4 hV3 hne
          have ze := hE3.frozen 0
          have ce := hE3.cell 0
          gi_wp2_with fail
          exact ⟨hL3.set _ _ (by simp; omega) (by simp; omega), rfl, hbw3.setCell (p := ⟨w.heap.size + 1, 0, none⟩) (by simp) _, HV.out, _, (hE3.set 0 _).eq rfl⟩
        case pos =>
          have hqne : ((q : Int) != (pw : Int)) = false := by simp; omega
          have HQP := Lib.hid hqp
          clear hqp
          refine region_tailIn 15 (DrN V2) (by kernel_rfl) (by kernel_rfl) (by kernel_rfl) ⟨1, rfl⟩ ?_
          intro hne
          simp only [List.take_succ_cons, List.take_zero]
          repeat (go_big_quiet_step (fail))
          refine wpQuiet_nil ?_
          intro i
          simp only [List.drop_succ_cons, List.drop_zero]
          obtain ⟨V3, dn, hV3⟩ := i
          have hE3 : HasC V3 (w.heap.size + 1) 47 #[.nilIface] := by rw [hV3]; exact hE2
          have hX3 : HasC V3 W.heap.size 23 #[.int .i64 nb, .string (regS R)] := by rw [hV3]; exact hX2
          have hA3 : HasC V3 w.heap.size 69 #[.slice (some ⟨g, o, none⟩) m c] := by rw [hV3]; exact hA2
          have hS3 : HasC V3 (w.heap.size + 2) 69 #[.slice (some ⟨g, o, none⟩) m c] := by rw [hV3]; exact hS2
          have hL3 : Lp W0.heap.size (.loop bz) V3 := by rw [hV3]; exact hL2
          have hbw3 : Below w.heap.size w V3 := by rw [hV3]; exact bel_drewN hbw2 dn
          dsimp only
          clear hE2 hX2 hA2 hS2 hL2 hbw2 E1 E2 E3 E4 hV3 hne
          have k0 := hX3.cell 0
          obtain ⟨r, hr⟩ : ∃ r, rightR (nb : Int) R = r := ⟨_, rfl⟩
          have hr0 : Hid ((R.drop 0).all (fun x => decide ((x : Int) ≤ 65 - (nb : Int))) = r) := by
            show _ = _
            rw [← hr, List.drop_zero]
            unfold rightR
            rw [HQ.out, ← HQL.out, HQP.out, HP.out, Int.toNat_natCast, decide_eq_true rfl, Bool.true_and, Bool.true_and]
          rw [hr] at hst hno
          clear hr
          gi_wp2_with fail
          rw [hpw]
          clear hpw hqne hbne hp8
          gi_loopw [34] (fun i wr => ∃ j : Nat, j ≤ pw ∧ i = .int .i64 j ∧ Hid ((R.drop j).all (fun x => decide ((x : Int) ≤ 65 - (nb : Int))) = r) ∧ HasC wr (w.heap.size + 1) 47 #[.nilIface] ∧ HasC wr W.heap.size 23 #[.int .i64 nb, .string (regS R)] ∧ HasC wr w.heap.size 69 #[.slice (some ⟨g, o, none⟩) m c] ∧ HasC wr (w.heap.size + 2) 69 #[.slice (some ⟨g, o, none⟩) m c] ∧ Lp W0.heap.size (.loop bz) wr ∧ Below w.heap.size w wr) (fun i _ => pw - (intOf i).toNat)
          case atStart => exact ⟨0, Nat.zero_le _, rfl, hr0, hE3, hX3, hA3, hS3, hL3, hbw3⟩
          case round =>
            obtain ⟨j, hj, rfl, hs, hE4, hX4, hA4, hS4, hL4, hbw4⟩ := hrel
            clear k0 hE3 hX3 hA3 hS3 hL3 hbw3 hr0
            by_cases hlt : j < pw
            · have hjR : j < R.length := by have := HQL.out; have := HQP.out; omega
              have hds : j < (regS R).size := by rw [regS_size]; exact hjR
              have hat := regS_get R HRB.out j hjR hds
              have hdr := List.drop_eq_getElem_cons hjR
              obtain ⟨y, hy⟩ : ∃ y, R[j] = y := ⟨_, rfl⟩
              have hy256 : y < 256 := by rw [← hy]; exact HRB.out _ (List.getElem_mem hjR)
              rw [hy] at hat hdr
              have HS := Lib.hid hdr
              clear hdr hy
              have hjq : j < q := by have := HQP.out; omega
              have F1 : ∀ i : InC (DrN wr), i.w.cell? ⟨W.heap.size, 0, none⟩ = some (.int .i64 (nb : Int)) := fun ⟨_, _, h⟩ => by subst h; exact hX4.cell 0
              have F2 : ∀ i : InC (DrN wr), i.w.cell? ⟨W.heap.size, 1, none⟩ = some (.string (regS R)) := fun ⟨_, _, h⟩ => by subst h; exact hX4.cell 1
              by_cases hle : (y : Int) ≤ 65 - (nb : Int)
              · have hs2 : Hid ((R.drop (j + 1)).all (fun x => decide ((x : Int) ≤ 65 - (nb : Int))) = r) := by
                  show _ = _
                  rw [← hs.out, HS.out, List.all_cons, decide_eq_true hle, Bool.true_and]
                have hnl : ¬ 65 - (nb : Int) < (y : Int) := Int.not_lt.2 hle
                gi_wp2_with fail
                refine region_tailIn 8 (DrN wr) (by kernel_rfl) (by kernel_rfl) (by kernel_rfl) ⟨1, rfl⟩ ?_
                intro hne
                simp only [List.take_succ_cons, List.take_zero]
                repeat (go_big_quiet_step (fail))
                refine wpQuiet_nil ?_
                intro i
                simp only [List.drop_succ_cons, List.drop_zero]
                obtain ⟨V5, dn, hV5⟩ := i
                have hE5 : HasC V5 (w.heap.size + 1) 47 #[.nilIface] := by rw [hV5]; exact hE4
                have hX5 : HasC V5 W.heap.size 23 #[.int .i64 nb, .string (regS R)] := by rw [hV5]; exact hX4
                have hA5 : HasC V5 w.heap.size 69 #[.slice (some ⟨g, o, none⟩) m c] := by rw [hV5]; exact hA4
                have hS5 : HasC V5 (w.heap.size + 2) 69 #[.slice (some ⟨g, o, none⟩) m c] := by rw [hV5]; exact hS4
                have hL5 : Lp W0.heap.size (.loop bz) V5 := by rw [hV5]; exact hL4
                have hbw5 : Below w.heap.size w V5 := by rw [hV5]; exact bel_drewN hbw4 dn
                dsimp only
                clear hE4 hX4 hA4 hS4 hL4 hbw4 F1 F2 hV5 hne
                gi_wp2_with fail
                go_roundw
                case rel => exact ⟨j + 1, by omega, by go_num, hs2, hE5, hX5, hA5, hS5, hL5, hbw5⟩
                case measure => simp [intOf]; omega
              · have hv : checkL L = false := hno.out (by rw [← hs.out, HS.out, List.all_cons, decide_eq_false hle, Bool.false_and, Bool.false_and])
                have HV := Lib.hid hv
                have hnl : 65 - (nb : Int) < (y : Int) := Int.not_le.1 hle
                clear hv
                gi_wp2_with fail
                refine region_tailIn 8 (DrN wr) (by kernel_rfl) (by kernel_rfl) (by kernel_rfl) ⟨1, rfl⟩ ?_
                intro hne
                simp only [List.take_succ_cons, List.take_zero]
                repeat (go_big_quiet_step (fail))
                refine wpQuiet_nil ?_
                intro i
                simp only [List.drop_succ_cons, List.drop_zero]
                obtain ⟨V5, dn, hV5⟩ := i
                have hE5 : HasC V5 (w.heap.size + 1) 47 #[.nilIface] := by rw [hV5]; exact hE4
                have hX5 : HasC V5 W.heap.size 23 #[.int .i64 nb, .string (regS R)] := by rw [hV5]; exact hX4
                have hA5 : HasC V5 w.heap.size 69 #[.slice (some ⟨g, o, none⟩) m c] := by rw [hV5]; exact hA4
                have hS5 : HasC V5 (w.heap.size + 2) 69 #[.slice (some ⟨g, o, none⟩) m c] := by rw [hV5]; exact hS4
                have hL5 : Lp W0.heap.size (.loop bz) V5 := by rw [hV5]; exact hL4
                have hbw5 : Below w.heap.size w V5 := by rw [hV5]; exact bel_drewN hbw4 dn
                dsimp only
                clear hE4 hX4 hA4 hS4 hL4 hbw4 F1 F2 hV5 hne
                have ze := hE5.frozen 0
                have ce := hE5.cell 0
                gi_wp2_with fail
                exact ⟨hL5.set _ _ (by simp; omega) (by simp; omega), rfl, hbw5.setCell (p := ⟨w.heap.size + 1, 0, none⟩) (by simp) _, HV.out, _, (hE5.set 0 _).eq rfl⟩
            · have hv : r = true := by
                rw [← hs.out, List.drop_eq_nil_of_le (by have := HQL.out; have := HQP.out; omega)]
                rfl
              have hfin := hst.out (by rw [hv, HBB.out, decide_eq_true rfl]; rfl)
              have HF := Lib.hid hfin
              clear hfin hv
              gi_wp2_with fail
              exact ⟨hL4, hS4, hbw4, hE4, hA4, by rw [← HG0.out]; exact HF.out⟩
  · rintro W ⟨hS, hbw, hE, hA, hAll⟩ hK
    have ce := hE.cell 0
    have hv : checkL L = true := by
      rw [← HC.out, ← hAll, List.take_of_length_le (Nat.le_refl _)]
    have HV := Lib.hid hv
    clear hv hAll
    gi_wp2_with fail
    refine ⟨by simp, .inl ⟨_, _, rfl, run_takeDeferred (b := W0.heap.size) hK, ?_⟩⟩
    exact ⟨_, results_tmp rfl _ _ _, ⟨_, rfl, .inl ⟨HV.out, rfl⟩⟩, below_put hbw _ _ (by omega)⟩
  · rintro j W ⟨rfl, hbw, hv, s, hE⟩ hK
    have ce := hE.cell 0
    gi_wp2_with fail
    refine ⟨by simp, .inl ⟨_, _, rfl, run_takeDeferred (b := W0.heap.size) hK, ?_⟩⟩
    exact ⟨_, results_tmp rfl _ _ _, ⟨_, rfl, .inr ⟨hv, _, rfl⟩⟩, below_put hbw _ _ (by omega)⟩
theorem check_any (ao : Option Addr) (c : Nat) (L : List Rg) (w : World) (hL : HllAt w.heap.size ao L w) (hn : L.length ≤ 10) (hb : ∀ X ∈ L, byteL X.2 ∧ X.2.length ≤ 300) :
    Calls Try.prog 36 #[.slice ao L.length c] w fun e w' => (∃ u, e = .returned u ∧ ErrV (checkL L) u) ∧ Below w.heap.size w w' :=
  callsIn_wide.1 (check_in 5 (by decide) ao c L w hL hn hb)
theorem check_one (b : Int) (R : List Nat) : checkL [(b, R)] = rightR b R := by
  unfold checkL okR headB
  simp
theorem check_two (b : Int) (R : List Nat) (c : Int) (S : List Nat) : checkL [(b, R), (c, S)] = (rightR b R && (rightR c S && decide (b = c))) := by
  unfold checkL okR headB
  simp [eq_comm]
/-- One sketch, or two, in a list of their own. -/
theorem hll_one (w : World) (b : Int) (R : List Nat) (T : TypeId) : HllAt (w.heap.size + 1) (some ⟨w.heap.size, 0, none⟩) [(b, R)] (w.alloc (.cells #[.int .i64 b, .string (regS R)] T)) := by
  intro j hj
  have h := HasC.new w T #[.int .i64 b, .string (regS R)]
  obtain rfl : j = 0 := by simpa using hj
  exact ⟨_, _, rfl, by omega, h.cell 0, h.cell 1⟩
theorem hll_two (w : World) (b : Int) (R : List Nat) (c : Int) (S : List Nat) (T : TypeId) : HllAt (w.heap.size + 1) (some ⟨w.heap.size, 0, none⟩) [(b, R), (c, S)] (w.alloc (.cells #[.int .i64 b, .string (regS R), .int .i64 c, .string (regS S)] T)) := by
  intro j hj
  have h := HasC.new w T #[.int .i64 b, .string (regS R), .int .i64 c, .string (regS S)]
  have hj2 : j < 2 := by simpa using hj
  have : j = 0 ∨ j = 1 := by omega
  rcases this with rfl | rfl
  · exact ⟨_, _, rfl, by omega, h.cell 0, h.cell 1⟩
  · exact ⟨_, _, rfl, by omega, h.cell 2, h.cell 3⟩
theorem check1_any (b : Int) (R : List Nat) (W : World) (hR : byteL R) (hn : R.length ≤ 300) :
    Calls Try.prog 36 #[.slice (some ⟨W.heap.size, 0, none⟩) 1 1] (W.alloc (.cells #[.int .i64 b, .string (regS R)] 23)) fun e w' => (∃ u, e = .returned u ∧ ErrV (rightR b R) u) ∧ Below (W.heap.size + 1) (W.alloc (.cells #[.int .i64 b, .string (regS R)] 23)) w' := by
  have h := check_any (some ⟨W.heap.size, 0, none⟩) 1 [(b, R)] (W.alloc (.cells #[.int .i64 b, .string (regS R)] 23)) (by rw [World.size_alloc]; exact hll_one W b R _) (by simp) (fun X hX => by
    obtain rfl : X = (b, R) := by simpa using hX
    exact ⟨hR, hn⟩)
  rw [check_one] at h
  refine h.mono ?_
  rintro e w' ⟨h1, h2⟩
  exact ⟨h1, by rw [World.size_alloc] at h2; exact h2⟩
theorem check2_any (b : Int) (R : List Nat) (c : Int) (S : List Nat) (W : World) (hR : byteL R) (hn : R.length ≤ 300) (hS : byteL S) (hm : S.length ≤ 300) :
    Calls Try.prog 36 #[.slice (some ⟨W.heap.size, 0, none⟩) 2 2] (W.alloc (.cells #[.int .i64 b, .string (regS R), .int .i64 c, .string (regS S)] 23)) fun e w' => (∃ u, e = .returned u ∧ ErrV (rightR b R && (rightR c S && decide (b = c))) u) ∧ Below (W.heap.size + 1) (W.alloc (.cells #[.int .i64 b, .string (regS R), .int .i64 c, .string (regS S)] 23)) w' := by
  have h := check_any (some ⟨W.heap.size, 0, none⟩) 2 [(b, R), (c, S)] (W.alloc (.cells #[.int .i64 b, .string (regS R), .int .i64 c, .string (regS S)] 23)) (by rw [World.size_alloc]; exact hll_two W b R c S _) (by simp) (fun X hX => by
    have : X = (b, R) ∨ X = (c, S) := by simpa using hX
    rcases this with rfl | rfl
    · exact ⟨hR, hn⟩
    · exact ⟨hS, hm⟩)
  rw [check_two] at h
  refine h.mono ?_
  rintro e w' ⟨h1, h2⟩
  exact ⟨h1, by rw [World.size_alloc] at h2; exact h2⟩
set_option maxHeartbeats 1000000 in
set_option maxRecDepth 100000 in
theorem hRight_any (b : Int) (R : List Nat) (w : World) (hR : byteL R) (hn : R.length ≤ 300) :
    Calls Try.prog 21 #[.agg #[.int .i64 b, .string (regS R)]] w fun e w' => e = .returned (.bool (rightR b R)) ∧ Below w.heap.size w w' := by
  have C1 := Lib.hid (check1_any b R (w.alloc (.cells #[.int .i64 b, .string (regS R)] 23)) hR hn)
  have HB := Lib.hid (((Below.refl _ w).alloc (Nat.le_refl _) (.cells #[.int .i64 b, .string (regS R)] 23)).alloc (by simp) (.cells #[.int .i64 b, .string (regS R)] 23))
  rw [World.size_alloc] at C1
  obtain ⟨r, hr⟩ : ∃ r, rightR b R = r := ⟨_, rfl⟩
  rw [hr] at C1 ⊢
  clear hr hR hn
  go_enter Try.func21, Try.ntmps21
  go_wp2_with fail
  with_reducible refine (C1.out).mono ?_
  rintro e w2 ⟨⟨u, rfl, hu⟩, hb⟩
  have hb2 := HB.out.trans (hb.mono (by omega))
  rcases hu with ⟨rfl, rfl⟩ | ⟨rfl, s, rfl⟩
  · go_wp2_with fail
    with_reducible refine (errno_ok _).mono ?_
    rintro e w3 ⟨rfl, rfl⟩
    go_wp2_with fail
    go_ret
    exact ⟨rfl, hb2⟩
  · go_wp2_with fail
    with_reducible refine (errno_bad _ _).mono ?_
    rintro e w3 ⟨rfl, rfl⟩
    go_wp2_with fail
    go_ret
    exact ⟨rfl, hb2⟩
end Go.Proofs.Ytnljepnmajcmgaa
