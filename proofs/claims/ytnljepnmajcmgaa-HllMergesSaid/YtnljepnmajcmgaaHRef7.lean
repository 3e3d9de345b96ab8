/- The page's own answers for layer 7: Lower. -/
import Derived.Test.YtnljepnmajcmgaaHRef6
namespace Go.Proofs.Ytnljepnmajcmgaa
open Go.RowKit

theorem low_len (R : List Nat) : (lowR R).length = R.length / 2 := by simp [lowR]
theorem low_at {R : List Nat} (k : Nat) (h1 : 2 * k < R.length) (h2 : 2 * k + 1 < R.length) (h3 : k < (lowR R).length) : (lowR R)[k] = lowC R[2 * k] R[2 * k + 1] := by
  simp only [lowR, List.getElem_map, List.getElem_range, List.getD_eq_getElem?_getD, List.getElem?_eq_getElem h1, List.getElem?_eq_getElem h2, Option.getD_some]
set_option maxHeartbeats 4000000 in
set_option maxRecDepth 100000 in
theorem pLower_any (b : Int) (R : List Nat) (w : World) (hR : byteL R) (hn : R.length ≤ 1000) :
    Calls Try.prog 26 #[hV b R] w fun e w' => e = .returned (hT (lowerH b R)) ∧ Below w.heap.size w w' := by
  obtain ⟨i0, hi, hz0, hz1, hz2⟩ := partsE infoU8
  have i1 := Lib.hid hi
  have i2 := Lib.hid hz0
  have i3 := Lib.hid hz1
  have i4 := Lib.hid hz2
  clear hi hz0 hz1 hz2
  obtain ⟨W1, hW1⟩ : ∃ W1, W1 = (w.alloc (Obj.cells #[.int .i64 b, .string (regS R)] 23)).alloc (Obj.cells #[.int .i64 0, .string { data := #[] }] 23) := ⟨_, rfl⟩
  have hb0 : Below w.heap.size w W1 := by rw [hW1]; exact ((Below.refl w.heap.size w).alloc (Nat.le_refl _) _).alloc (by simp) _
  have hx0 : HasC W1 w.heap.size 23 #[.int .i64 b, .string (regS R)] := by rw [hW1]; exact (HasC.new w _ _).alloc _
  have hr0 : HasC W1 (w.heap.size + 1) 23 #[.int .i64 0, .string { data := #[] }] := by rw [hW1]; exact HasC.at_ _ _ _ (by simp)
  have C1 := Lib.hid (fun W => pRight_any b R W hR hn)
  have HB := Lib.hid hb0
  have HX := Lib.hid hx0
  have HR0 := Lib.hid hr0
  unfold hV
  clear hb0 hx0 hr0
  subst hW1
  cases hq : rightR b R with
  | false =>
    rw [hq] at C1
    have hv : lowerH b R = badR := by unfold lowerH; rw [hq]; rfl
    have HV := Lib.hid hv
    clear hq hv
    go_enter Try.func26, Try.ntmps26
    have c0 := HX.out.cell 0
    have c1 := HX.out.cell 1
    go_wp2_with fail
    with_reducible refine (C1.out _).mono ?_
    rintro e w2 ⟨rfl, hb⟩
    have hb2 := HB.out.trans (hb.mono HB.out.size)
    have hx2 := HX.out.below hb HX.out.lt
    have hr2 := HR0.out.below hb HR0.out.lt
    clear hb c0 c1
    have c0 := hr2.cell 0
    have c1 := hr2.cell 1
    have z0 := hr2.frozen 0
    have z1 := hr2.frozen 1
    go_wp2_with fail
    have hr9 := ((hr2.set 0 (.int .i64 0)).set 1 (.string { data := #[] })).eq (cs' := #[.int .i64 0, .string { data := #[] }]) rfl
    refine bodyPost_ret (results_hll rfl _ _ (w.heap.size + 1) _ _ rfl hr9) rfl ?_
    rw [HV.out]
    exact ⟨rfl, (hb2.setCell (p := ⟨w.heap.size + 1, 0, none⟩) (by simp) _).setCell (p := ⟨w.heap.size + 1, 1, none⟩) (by simp) _⟩
  | true =>
    rw [hq] at C1
    by_cases hb3 : b = 3
    · subst hb3
      have hv : lowerH 3 R = badR := by unfold lowerH; rw [hq]; rfl
      have HV := Lib.hid hv
      clear hq hv
      go_enter Try.func26, Try.ntmps26
      have c0 := HX.out.cell 0
      have c1 := HX.out.cell 1
      go_wp2_with fail
      with_reducible refine (C1.out _).mono ?_
      rintro e w2 ⟨rfl, hb⟩
      have hb2 := HB.out.trans (hb.mono HB.out.size)
      have hx2 := HX.out.below hb HX.out.lt
      have hr2 := HR0.out.below hb HR0.out.lt
      clear hb c0 c1
      have d0 := hx2.cell 0
      have c0 := hr2.cell 0
      have c1 := hr2.cell 1
      have z0 := hr2.frozen 0
      have z1 := hr2.frozen 1
      go_wp2_with fail
      have hr9 := ((hr2.set 0 (.int .i64 0)).set 1 (.string { data := #[] })).eq (cs' := #[.int .i64 0, .string { data := #[] }]) rfl
      refine bodyPost_ret (results_hll rfl _ _ (w.heap.size + 1) _ _ rfl hr9) rfl ?_
      rw [HV.out]
      exact ⟨rfl, (hb2.setCell (p := ⟨w.heap.size + 1, 0, none⟩) (by simp) _).setCell (p := ⟨w.heap.size + 1, 1, none⟩) (by simp) _⟩
    · obtain ⟨n, rfl, h3, h8, hlen, hle⟩ := right_parts7 hq
      have hn3 : ¬ (n : Int) = 3 := hb3
      have hn3' : ((n : Int) == 3) = false := by simpa using hb3
      obtain ⟨q, hqe⟩ : ∃ q, n - 1 = q := ⟨_, rfl⟩
      have hnq : (n : Int) - 1 = (q : Int) := by omega
      have hv : lowerH (n : Int) R = (((q : Int), lowR R), 0) := by unfold lowerH; rw [hq, decide_eq_true hb3, hnq]; rfl
      obtain ⟨h, hhe⟩ : ∃ h, 2 ^ q = h := ⟨_, rfl⟩
      have hl2 : R.length = 2 * h := by rw [hlen, ← hhe, ← Nat.pow_succ', show q.succ = n by omega]
      have hp256 : R.length ≤ 256 := by rw [hlen]; exact pow_le8 h8
      have hh128 : h ≤ 128 := by omega
      have hlm : (lowR R).length = h := by rw [low_len]; omega
      have HLE : Hid (∀ r ∈ R, r ≤ 62) := fun r hr => Nat.le_trans (hle r hr) (by omega)
      have hMM : ∀ k (h1 : k < (lowR R).length) (h2 : 2 * k < R.length) (h3 : 2 * k + 1 < R.length), (lowR R)[k] = lowC R[2 * k] R[2 * k + 1] := fun k h1 h2 h3 => low_at k h2 h3 h1
      have hM : byteL (lowR R) := fun r hr => by
        obtain ⟨i, hi, rfl⟩ := List.mem_iff_getElem.1 hr
        rw [hMM i hi (by omega) (by omega)]
        have := HLE.out _ (List.getElem_mem (l := R) (show 2 * i < R.length by omega))
        unfold lowC
        split <;> split <;> omega
      obtain ⟨M, hMe⟩ : ∃ M, lowR R = M := ⟨_, rfl⟩
      have hMM2 : ∀ k (h1 : k < M.length) (h2 : 2 * k < R.length) (h3 : 2 * k + 1 < R.length), M[k] = lowC R[2 * k] R[2 * k + 1] := fun k h1 h2 h3 => by
        subst hMe
        exact hMM k h1 h2 h3
      rw [hMe] at hv hM hlm
      have hss : (regS R).size = 2 * h := by rw [regS_size, hl2]
      obtain ⟨Z, hZe⟩ : ∃ Z, Z = List.replicate h 0 := ⟨_, rfl⟩
      have hZl : Z.length = h := by rw [hZe, List.length_replicate]
      have hZM : M.length = Z.length := by rw [hZl, hlm]
      have hZ0 : ∀ k (hk : k < Z.length), Z[k] = 0 := fun k hk => by subst hZe; exact List.getElem_replicate hk
      have hdv : ((2 * h : Nat) : Int).tdiv 2 = (h : Int) := by show ((2 * h : Nat) : Int).tdiv ((2 : Nat) : Int) = _; rw [← Int.ofNat_tdiv]; congr 1; omega
      have HZE := Lib.hid hZe
      have HV := Lib.hid hv
      have HMM := Lib.hid hMM2
      have HMB := Lib.hid hM
      have HRR := Lib.hid hR
      have HL2 := Lib.hid hl2
      have HLM := Lib.hid hlm
      have HZL := Lib.hid hZl
      have HZM := Lib.hid hZM
      have HZ0 := Lib.hid hZ0
      have HQE := Lib.hid hqe
      clear hq hv hM hMM2 hMM hMe hlen hle hhe hlm hR hn hp256 hb3 hZe hZl hZM hZ0 hl2 hqe
      go_enter Try.func26, Try.ntmps26
      have c0 := HX.out.cell 0
      have c1 := HX.out.cell 1
      go_wp2_with fail
      with_reducible refine (C1.out _).mono ?_
      rintro e w2 ⟨rfl, hb⟩
      have hb2 := HB.out.trans (hb.mono HB.out.size)
      have hx2 := HX.out.below hb HX.out.lt
      have hr2 := HR0.out.below hb HR0.out.lt
      clear hb c0 c1
      have c0 := hx2.cell 0
      have c1 := hx2.cell 1
      have hltx := hx2.lt
      have hltr := hr2.lt
      have hgb := hb2.size
      have hpw : wrap64 (((2 * h : Nat) : Int).tdiv 2) = (h : Int) := by rw [hdv]; exact wrap64_small (by omega) (by omega)
      go_wp2_with (at_make; go_loud (refine wpList_make_full _ rfl (.tmp 18) (.tmp 18) 52 rfl w2.heap.size 5 i0 (.int .u8 0) 1 Try.underlying52 i1.out i2.out i3.out .i64 .i64 _ _ h rfl rfl (by first | exact hdv | exact hpw | rfl) (by first | exact hdv | exact hpw | rfl) (by rw [i4.out]; omega) (by unfold maxLen; omega) (Nat.le_refl _) ?_; intro w4 hown4 hgrow4; have hbw4 := (Below.refl w2.heap.size w2).grown hgrow4 (Nat.le_refl _) (fun k hk => by cases hk); have hbc := bytC_made hown4; rw [← HZE.out] at hbc; have hx4 := hx2.below hbw4 hltx; have hr4 := hr2.below hbw4 hltr; have hb4 := hb2.trans (hbw4.mono hgb); clear hown4 hgrow4 hbw4 hx2 hr2 hb2 c0 c1))
      go_loopw [5] (fun i wr => ∃ k : Nat, k ≤ h ∧ i = .int .i64 k ∧ BytC wr w2.heap.size (mixM M Z k) ∧ HasC wr w.heap.size 23 #[.int .i64 n, .string (regS R)] ∧ HasC wr (w.heap.size + 1) 23 #[.int .i64 0, .string { data := #[] }] ∧ Below w.heap.size w wr) (fun i _ => h - (intOf i).toNat)
      case atStart => exact ⟨0, Nat.zero_le _, rfl, by rw [mix_zero]; exact hbc, hx4, hr4, hb4⟩
      case round =>
        obtain ⟨k, hk, rfl, hg, hx, hr, hbel⟩ := hrel
        clear hx4 hr4 hb4 hbc hdv hpw
        by_cases hlt : k < h
        · have hk1 : 2 * k < R.length := by have := HL2.out; omega
          have hk2 : 2 * k + 1 < R.length := by have := HL2.out; omega
          have hkM : k < M.length := by have := HLM.out; omega
          have hkZ : k < Z.length := by have := HZL.out; omega
          have hkX : k < (mixM M Z k).length := by rw [mix_len _ _ _ HZM.out]; exact hkZ
          obtain ⟨k1, z1⟩ := hg.2 k hkX
          have hz0 := HZ0.out k hkZ
          have hds : 2 * k < (regS R).size := by rw [hss]; omega
          have hds2 : 2 * k + 1 < (regS R).size := by rw [hss]; omega
          have hat : ∀ h2 : 2 * k < (regS R).size, ((regS R)[2 * k]'h2).toNat = R[2 * k] := fun h2 => regS_get R HRR.out (2 * k) hk1 h2
          have hat2 : ∀ h2 : 2 * k + 1 < (regS R).size, ((regS R)[2 * k + 1]'h2).toNat = R[2 * k + 1] := fun h2 => regS_get R HRR.out (2 * k + 1) hk2 h2
          have hmv := HMM.out k hkM hk1 hk2
          have ha62 := HLE.out _ (List.getElem_mem hk1)
          have hc62 := HLE.out _ (List.getElem_mem hk2)
          obtain ⟨a, ha⟩ : ∃ a, R[2 * k] = a := ⟨_, rfl⟩
          obtain ⟨c, hc⟩ : ∃ c, R[2 * k + 1] = c := ⟨_, rfl⟩
          rw [ha] at hmv ha62
          rw [hc] at hmv hc62
          simp only [ha] at hat
          simp only [hc] at hat2
          rw [mix_at M Z k HZM.out hkZ hkX, hz0] at k1
          have d1 := hx.cell 1
          have hgl := hg.1
          clear ha hc
          by_cases ha0 : 0 < a
          · have ha0' : (0 : Int) < (a : Int) := by omega
            have hm1 : M[k] = a + 1 := by
              rw [hmv]
              unfold lowC
              rw [if_pos ha0]
              split <;> omega
            have hg5 := hg.set k (a + 1) hkX
            rw [mix_set M Z k (a + 1) HZM.out hkM hm1] at hg5
            have hx5 := hx.far ⟨w2.heap.size, k, none⟩ (.int .u8 ((a + 1 : Nat) : Int)) (by simp; omega)
            have hr5 := hr.far ⟨w2.heap.size, k, none⟩ (.int .u8 ((a + 1 : Nat) : Int)) (by simp; omega)
            have hb5 := hbel.setCell (p := ⟨w2.heap.size, k, none⟩) hgb (.int .u8 ((a + 1 : Nat) : Int))
            by_cases hc0 : 0 < c
            · have hc0' : (0 : Int) < (c : Int) := by omega
              have hg6 := hg.set k (a + 1) hkX
              have hk6 : k < ((mixM M Z k).set k (a + 1)).length := by rw [List.length_set]; exact hkX
              have hg7 := hg6.set k (a + 1) hk6
              rw [List.set_set, mix_set M Z k (a + 1) HZM.out hkM hm1] at hg7
              have hx6 := hx5.far ⟨w2.heap.size, k, none⟩ (.int .u8 ((a + 1 : Nat) : Int)) (by simp; omega)
              have hr6 := hr5.far ⟨w2.heap.size, k, none⟩ (.int .u8 ((a + 1 : Nat) : Int)) (by simp; omega)
              have hb6 := hb5.setCell (p := ⟨w2.heap.size, k, none⟩) hgb (.int .u8 ((a + 1 : Nat) : Int))
              have HGX := Lib.hid hg7
              have HXX := Lib.hid hx6
              have HRX := Lib.hid hr6
              have HBX := Lib.hid hb6
              clear hg5 hx5 hr5 hb5 hg6 hg7 hx6 hr6 hb6 hk6 hm1
              clear hg hx hr hbel hmv
              go_wp2_with fail
              go_roundw
              case rel => exact ⟨k + 1, by omega, by go_num, HGX.out, HXX.out, HRX.out, HBX.out⟩
              case measure => simp [intOf]; omega
            · have hc0' : ¬ (0 : Int) < (c : Int) := by omega
              have HGX := Lib.hid hg5
              have HXX := Lib.hid hx5
              have HRX := Lib.hid hr5
              have HBX := Lib.hid hb5
              clear hg5 hx5 hr5 hb5 hm1
              clear hg hx hr hbel hmv
              go_wp2_with fail
              go_roundw
              case rel => exact ⟨k + 1, by omega, by go_num, HGX.out, HXX.out, HRX.out, HBX.out⟩
              case measure => simp [intOf]; omega
          · have ha0' : ¬ (0 : Int) < (a : Int) := by omega
            by_cases hc0 : 0 < c
            · have hc0' : (0 : Int) < (c : Int) := by omega
              have hm1 : M[k] = 1 := by
                rw [hmv]
                unfold lowC
                rw [if_neg ha0, if_pos hc0]
                rfl
              have hg5 := hg.set k 1 hkX
              rw [mix_set M Z k 1 HZM.out hkM hm1] at hg5
              have hx5 := hx.far ⟨w2.heap.size, k, none⟩ (.int .u8 ((1 : Nat) : Int)) (by simp; omega)
              have hr5 := hr.far ⟨w2.heap.size, k, none⟩ (.int .u8 ((1 : Nat) : Int)) (by simp; omega)
              have hb5 := hbel.setCell (p := ⟨w2.heap.size, k, none⟩) hgb (.int .u8 ((1 : Nat) : Int))
              have HGX := Lib.hid hg5
              have HXX := Lib.hid hx5
              have HRX := Lib.hid hr5
              have HBX := Lib.hid hb5
              clear hg5 hx5 hr5 hb5 hm1
              clear hg hx hr hbel hmv
              go_wp2_with fail
              go_roundw
              case rel => exact ⟨k + 1, by omega, by go_num, HGX.out, HXX.out, HRX.out, HBX.out⟩
              case measure => simp [intOf]; omega
            · have hc0' : ¬ (0 : Int) < (c : Int) := by omega
              have hm1 : M[k] = 0 := by
                rw [hmv]
                unfold lowC
                rw [if_neg ha0, if_neg hc0]
                rfl
              have hst : (mixM M Z k).set k 0 = mixM M Z k := by
                have h0 : (mixM M Z k)[k] = 0 := by rw [mix_at M Z k HZM.out hkZ hkX, hz0]
                have := List.set_getElem_self hkX
                rwa [h0] at this
              have hg5 := hg
              rw [← hst, mix_set M Z k 0 HZM.out hkM hm1] at hg5
              have HGX := Lib.hid hg5
              have HXX := Lib.hid hx
              have HRX := Lib.hid hr
              have HBX := Lib.hid hbel
              clear hg5 hm1 hst
              clear hg hx hr hbel hmv
              go_wp2_with fail
              go_roundw
              case rel => exact ⟨k + 1, by omega, by go_num, HGX.out, HXX.out, HRX.out, HBX.out⟩
              case measure => simp [intOf]; omega
        · obtain rfl : k = h := by omega
          have hall : mixM M Z k = M := by
            have := mix_all M Z HZM.out
            rwa [HZL.out] at this
          rw [hall] at hg
          have hcb := bytC_back hg HMB.out k k (by rw [HLM.out])
          have c0 := hx.cell 0
          have d5 := hr.cell 0
          have d6 := hr.cell 1
          have z5 := hr.frozen 0
          have z6 := hr.frozen 1
          go_wp2_with fail
          have hr6 := ((hr.set 0 (.int .i64 (q : Int))).set 1 (.string (regS M))).eq (cs' := #[.int .i64 (q : Int), .string (regS M)]) rfl
          refine bodyPost_ret (results_hll rfl _ _ (w.heap.size + 1) _ _ rfl hr6) rfl ?_
          rw [HV.out]
          exact ⟨rfl, (hbel.setCell (p := ⟨w.heap.size + 1, 0, none⟩) (by simp) _).setCell (p := ⟨w.heap.size + 1, 1, none⟩) (by simp) _⟩
end Go.Proofs.Ytnljepnmajcmgaa
