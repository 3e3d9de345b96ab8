/- The page's own answers for layer 7: Merge. -/
import Derived.Test.YtnljepnmajcmgaaHRef3
namespace Go.Proofs.Ytnljepnmajcmgaa
open Go.RowKit

/-- The first k places of the one, the others of the other. -/
def mixM (M R : List Nat) (k : Nat) : List Nat := M.take k ++ R.drop k
theorem mix_zero (M R : List Nat) : mixM M R 0 = R := by simp [mixM]
theorem mix_len (M R : List Nat) (k : Nat) (h : M.length = R.length) : (mixM M R k).length = R.length := by
  simp [mixM]; omega
theorem mix_at (M R : List Nat) (k : Nat) (h : M.length = R.length) (hk : k < R.length) (h2 : k < (mixM M R k).length) : (mixM M R k)[k] = R[k] := by
  have hl : (M.take k).length = k := by rw [List.length_take]; omega
  have h3 : k < (M.take k ++ R.drop k).length := h2
  show (M.take k ++ R.drop k)[k]'h3 = R[k]
  rw [List.getElem_append_right (by omega), List.getElem_drop]
  simp only [hl, Nat.sub_self, Nat.add_zero]
theorem mix_set (M R : List Nat) (k v : Nat) (h : M.length = R.length) (hk : k < M.length) (hv : M[k] = v) : (mixM M R k).set k v = mixM M R (k + 1) := by
  have hl : (M.take k).length = k := by rw [List.length_take]; omega
  unfold mixM
  rw [List.set_append_right _ _ (by omega), hl, Nat.sub_self, List.drop_eq_getElem_cons (by omega), List.set_cons_zero, List.take_succ_eq_append_getElem hk, hv, List.append_assoc]
  rfl
theorem mix_all (M R : List Nat) (h : M.length = R.length) : mixM M R R.length = M := by
  unfold mixM
  rw [← h, List.take_length, h, List.drop_length, List.append_nil]
theorem max_len {R S : List Nat} (h : S.length = R.length) : (maxR R S).length = R.length := by
  unfold maxR
  rw [List.length_zipWith, h, Nat.min_self]
theorem max_at {R S : List Nat} (k : Nat) (hk : k < R.length) (hk2 : k < S.length) (h2 : k < (maxR R S).length) : (maxR R S)[k] = max R[k] S[k] := by
  unfold maxR
  exact List.getElem_zipWith
set_option maxHeartbeats 4000000 in
set_option maxRecDepth 100000 in
theorem pMerge_any (b : Int) (R : List Nat) (c : Int) (S : List Nat) (w : World) (hR : byteL R) (hn : R.length ≤ 1000) (hS : byteL S) (hm : S.length ≤ 1000) :
    Calls Try.prog 24 #[hV b R, hV c S] w fun e w' => e = .returned (hT (mergeH b R c S)) ∧ Below w.heap.size w w' := by
  obtain ⟨W1, hW1⟩ : ∃ W1, W1 = ((w.alloc (Obj.cells #[.int .i64 b, .string (regS R)] 23)).alloc (Obj.cells #[.int .i64 c, .string (regS S)] 23)).alloc (Obj.cells #[.int .i64 0, .string { data := #[] }] 23) := ⟨_, rfl⟩
  have hb0 : Below w.heap.size w W1 := by rw [hW1]; exact (((Below.refl w.heap.size w).alloc (Nat.le_refl _) _).alloc (by simp) _).alloc (by simp; omega) _
  have hx0 : HasC W1 w.heap.size 23 #[.int .i64 b, .string (regS R)] := by rw [hW1]; exact ((HasC.new w _ _).alloc _).alloc _
  have hy0 : HasC W1 (w.heap.size + 1) 23 #[.int .i64 c, .string (regS S)] := by rw [hW1]; exact (HasC.at_ _ _ _ (by simp)).alloc _
  have hr0 : HasC W1 (w.heap.size + 2) 23 #[.int .i64 0, .string { data := #[] }] := by rw [hW1]; exact HasC.at_ _ _ _ (by simp)
  have C1 := Lib.hid (fun W => pRight_any b R W hR hn)
  have C2 := Lib.hid (fun W => pRight_any c S W hS hm)
  have HB := Lib.hid hb0
  have HX := Lib.hid hx0
  have HY := Lib.hid hy0
  have HR0 := Lib.hid hr0
  unfold hV
  clear hb0 hx0 hy0 hr0
  subst hW1
  cases hq : rightR b R with
  | false =>
    rw [hq] at C1
    have hv : mergeH b R c S = badR := by unfold mergeH; rw [hq]; rfl
    have HV := Lib.hid hv
    clear hq hv
    go_enter Try.func24, Try.ntmps24
    have c0 := HX.out.cell 0
    have c1 := HX.out.cell 1
    go_wp2_with fail
    with_reducible refine (C1.out _).mono ?_
    rintro e w2 ⟨rfl, hb⟩
    have hb2 := HB.out.trans (hb.mono HB.out.size)
    have hx2 := HX.out.below hb HX.out.lt
    have hy2 := HY.out.below hb HY.out.lt
    have hr2 := HR0.out.below hb HR0.out.lt
    clear hb c0 c1
    have c0 := hr2.cell 0
    have c1 := hr2.cell 1
    have z0 := hr2.frozen 0
    have z1 := hr2.frozen 1
    go_wp2_with fail
    have hr9 := ((hr2.set 0 (.int .i64 0)).set 1 (.string { data := #[] })).eq (cs' := #[.int .i64 0, .string { data := #[] }]) rfl
    refine bodyPost_ret (results_hll rfl _ _ (w.heap.size + 2) _ _ rfl hr9) rfl ?_
    rw [HV.out]
    exact ⟨rfl, (hb2.setCell (p := ⟨w.heap.size + 2, 0, none⟩) (by simp) _).setCell (p := ⟨w.heap.size + 2, 1, none⟩) (by simp) _⟩
  | true =>
    cases hp : rightR c S with
    | false =>
      rw [hq] at C1
      rw [hp] at C2
      have hv : mergeH b R c S = badR := by unfold mergeH; rw [hq, hp]; rfl
      have HV := Lib.hid hv
      clear hq hp hv
      go_enter Try.func24, Try.ntmps24
      have c0 := HX.out.cell 0
      have c1 := HX.out.cell 1
      go_wp2_with fail
      with_reducible refine (C1.out _).mono ?_
      rintro e w2 ⟨rfl, hb⟩
      have hb2 := HB.out.trans (hb.mono HB.out.size)
      have hx2 := HX.out.below hb HX.out.lt
      have hy2 := HY.out.below hb HY.out.lt
      have hr2 := HR0.out.below hb HR0.out.lt
      clear hb c0 c1
      have d0 := hy2.cell 0
      have d1 := hy2.cell 1
      go_wp2_with fail
      with_reducible refine (C2.out _).mono ?_
      rintro e w3 ⟨rfl, hb⟩
      have hb3 := hb2.trans (hb.mono hb2.size)
      have hx3 := hx2.below hb hx2.lt
      have hy3 := hy2.below hb hy2.lt
      have hr3 := hr2.below hb hr2.lt
      clear hb d0 d1 hb2 hx2 hy2 hr2
      have c0 := hr3.cell 0
      have c1 := hr3.cell 1
      have z0 := hr3.frozen 0
      have z1 := hr3.frozen 1
      go_wp2_with fail
      have hr9 := ((hr3.set 0 (.int .i64 0)).set 1 (.string { data := #[] })).eq (cs' := #[.int .i64 0, .string { data := #[] }]) rfl
      refine bodyPost_ret (results_hll rfl _ _ (w.heap.size + 2) _ _ rfl hr9) rfl ?_
      rw [HV.out]
      exact ⟨rfl, (hb3.setCell (p := ⟨w.heap.size + 2, 0, none⟩) (by simp) _).setCell (p := ⟨w.heap.size + 2, 1, none⟩) (by simp) _⟩
    | true =>
      by_cases hbc : b = c
      · subst hbc
        obtain ⟨n, rfl, h3, h8, hlen, hle⟩ := right_parts7 hq
        obtain ⟨n2, hn2, _, _, hlen2, hle2⟩ := right_parts7 hp
        obtain rfl : n = n2 := by omega
        rw [hq] at C1
        rw [hp] at C2
        have hv : mergeH (n : Int) R (n : Int) S = (((n : Int), maxR R S), 0) := by unfold mergeH; rw [hq, hp, decide_eq_true rfl]; rfl
        have hp256 : R.length ≤ 256 := by rw [hlen]; exact pow_le8 h8
        have hls : S.length = R.length := by rw [hlen, hlen2]
        have hlm := max_len hls
        have HLE : Hid (∀ r ∈ R, r ≤ 65) := fun r hr => Nat.le_trans (hle r hr) (Nat.sub_le 65 n)
        have HLE2 : Hid (∀ r ∈ S, r ≤ 65) := fun r hr => Nat.le_trans (hle2 r hr) (Nat.sub_le 65 n)
        have hM : byteL (maxR R S) := fun r hr => by
          obtain ⟨i, hi, rfl⟩ := List.mem_iff_getElem.1 hr
          rw [max_at i (by omega) (by omega) hi]
          exact Nat.max_lt.2 ⟨hR _ (List.getElem_mem _), hS _ (List.getElem_mem _)⟩
        obtain ⟨M, hMe⟩ : ∃ M, maxR R S = M := ⟨_, rfl⟩
        obtain ⟨m, hme⟩ : ∃ m, m = R.length := ⟨_, rfl⟩
        have hss : (regS S).size = m := by rw [regS_size, hls, hme]
        have hMM : ∀ k (h1 : k < M.length) (h2 : k < R.length) (h3 : k < S.length), M[k] = max R[k] S[k] := fun k h1 h2 h3 => by
          subst hMe
          exact max_at k h2 h3 h1
        rw [hMe] at hv hM hlm
        have HV := Lib.hid hv
        have HMM := Lib.hid hMM
        have HMB := Lib.hid hM
        have HRR := Lib.hid hR
        have HSS := Lib.hid hS
        have HM := Lib.hid hme
        have HLM := Lib.hid hlm
        have HLS := Lib.hid hls
        have hm256 : m ≤ 256 := by omega
        clear hq hp hv hM hMM hMe hlen hle hlen2 hle2 hn2 hls hlm hR hS hme hm hn hp256
        go_enter Try.func24, Try.ntmps24
        have c0 := HX.out.cell 0
        have c1 := HX.out.cell 1
        go_wp2_with fail
        with_reducible refine (C1.out _).mono ?_
        rintro e w2 ⟨rfl, hb⟩
        have hb2 := HB.out.trans (hb.mono HB.out.size)
        have hx2 := HX.out.below hb HX.out.lt
        have hy2 := HY.out.below hb HY.out.lt
        have hr2 := HR0.out.below hb HR0.out.lt
        clear hb c0 c1
        have d0 := hy2.cell 0
        have d1 := hy2.cell 1
        go_wp2_with fail
        with_reducible refine (C2.out _).mono ?_
        rintro e w3 ⟨rfl, hb⟩
        have hb3 := hb2.trans (hb.mono hb2.size)
        have hx3 := hx2.below hb hx2.lt
        have hy3 := hy2.below hb hy2.lt
        have hr3 := hr2.below hb hr2.lt
        clear hb d0 d1 hb2 hx2 hy2 hr2
        obtain ⟨cap, V, hcv, hbV, hbc⟩ := bytC_of R HRR.out w3
        rw [← HM.out] at hcv
        have c0 := hx3.cell 0
        have c1 := hx3.cell 1
        have d0 := hy3.cell 0
        have hx4 := hx3.below hbV hx3.lt
        have hy4 := hy3.below hbV hy3.lt
        have hr4 := hr3.below hbV hr3.lt
        have hb4 := hb3.trans (hbV.mono hb3.size)
        have hlt3 := hx3.lt
        have hlty := hy3.lt
        have hlr3 := hr3.lt
        have hgb := hb3.size
        clear hx3 hy3 hr3 hb3 hbV
        go_wp2_with fail
        go_loopw [7] (fun i wr => ∃ k : Nat, k ≤ m ∧ i = .int .i64 k ∧ BytC wr w3.heap.size (mixM M R k) ∧ HasC wr w.heap.size 23 #[.int .i64 n, .string (regS R)] ∧ HasC wr (w.heap.size + 1) 23 #[.int .i64 n, .string (regS S)] ∧ HasC wr (w.heap.size + 2) 23 #[.int .i64 0, .string { data := #[] }] ∧ Below w.heap.size w wr) (fun i _ => m - (intOf i).toNat)
        case atStart => exact ⟨0, Nat.zero_le _, rfl, by rw [mix_zero]; exact hbc, hx4, hy4, hr4, hb4⟩
        case round =>
          obtain ⟨k, hk, rfl, hg, hx, hy, hr, hbel⟩ := hrel
          clear hx4 hy4 hr4 hb4 hbc c0 c1 d0 hcv
          by_cases hlt : k < m
          · have hkR : k < R.length := by have := HM.out; omega
            have hkS : k < S.length := by have := HLS.out; omega
            have hkM : k < M.length := by have := HLM.out; omega
            have hkX : k < (mixM M R k).length := by rw [mix_len _ _ _ HLM.out]; exact hkR
            obtain ⟨k1, k2⟩ := hg.2 k hkX
            rw [mix_at M R k HLM.out hkR hkX] at k1
            have hds : k < (regS S).size := by rw [hss]; exact hlt
            have hat : ∀ h2 : k < (regS S).size, ((regS S)[k]'h2).toNat = S[k] := fun h2 => regS_get S HSS.out k hkS h2
            have hmv := HMM.out k hkM hkR hkS
            have ho65 := HLE.out _ (List.getElem_mem hkR)
            have hs65 := HLE2.out _ (List.getElem_mem hkS)
            obtain ⟨o, ho⟩ : ∃ o, R[k] = o := ⟨_, rfl⟩
            obtain ⟨s, hse⟩ : ∃ s, S[k] = s := ⟨_, rfl⟩
            rw [ho] at k1 hmv ho65
            rw [hse] at hmv hs65
            simp only [hse] at hat
            obtain ⟨v, hve⟩ : ∃ v, max o s = v := ⟨_, rfl⟩
            rw [hve] at hmv
            have hmx : (if (o : Int) < (s : Int) then (s : Int) else (o : Int)) = (v : Int) := by split <;> omega
            have hmx2 : (if o < s then (s : Int) else (o : Int)) = (v : Int) := by split <;> omega
            have hg2 := hg.set k v hkX
            rw [mix_set M R k v HLM.out hkM hmv] at hg2
            have d1 := hy.cell 1
            have hgl := hg.1
            have hx2 := hx.far ⟨w3.heap.size, k, none⟩ (.int .u8 (v : Int)) (by simp; omega)
            have hy2 := hy.far ⟨w3.heap.size, k, none⟩ (.int .u8 (v : Int)) (by simp; omega)
            have hr2 := hr.far ⟨w3.heap.size, k, none⟩ (.int .u8 (v : Int)) (by simp; omega)
            have hb2 := hbel.setCell (p := ⟨w3.heap.size, k, none⟩) hgb (.int .u8 (v : Int))
            have HG2 := Lib.hid hg2
            have HX2 := Lib.hid hx2
            have HY2 := Lib.hid hy2
            have HR2 := Lib.hid hr2
            have HB2 := Lib.hid hb2
            clear hg hx hy hr hbel hg2 hx2 hy2 hr2 hb2 hmv ho hse hve
            go_wp2_with fail
            go_region_with (fail)
            all_goals
              try go_wp2_with fail
              go_roundw
              case rel => exact ⟨k + 1, by omega, by go_num, HG2.out, HX2.out, HY2.out, HR2.out, HB2.out.drew⟩
              case measure => simp [intOf]; omega
          · obtain rfl : k = m := by omega
            have hall : mixM M R k = M := by rw [HM.out]; exact mix_all _ _ HLM.out
            rw [hall] at hg
            have hcb := bytC_back hg HMB.out k cap (by rw [HLM.out]; exact HM.out)
            have c0 := hx.cell 0
            have d5 := hr.cell 0
            have d6 := hr.cell 1
            have z5 := hr.frozen 0
            have z6 := hr.frozen 1
            go_wp2_with fail
            have hr6 := ((hr.set 0 (.int .i64 (n : Int))).set 1 (.string (regS M))).eq (cs' := #[.int .i64 (n : Int), .string (regS M)]) rfl
            refine bodyPost_ret (results_hll rfl _ _ (w.heap.size + 2) _ _ rfl hr6) rfl ?_
            rw [HV.out]
            exact ⟨rfl, (hbel.setCell (p := ⟨w.heap.size + 2, 0, none⟩) (by simp) _).setCell (p := ⟨w.heap.size + 2, 1, none⟩) (by simp) _⟩
      · rw [hq] at C1
        rw [hp] at C2
        have hv : mergeH b R c S = badR := by unfold mergeH; rw [hq, hp, decide_eq_false hbc]; rfl
        have HV := Lib.hid hv
        clear hq hp hv
        go_enter Try.func24, Try.ntmps24
        have c0 := HX.out.cell 0
        have c1 := HX.out.cell 1
        go_wp2_with fail
        with_reducible refine (C1.out _).mono ?_
        rintro e w2 ⟨rfl, hb⟩
        have hb2 := HB.out.trans (hb.mono HB.out.size)
        have hx2 := HX.out.below hb HX.out.lt
        have hy2 := HY.out.below hb HY.out.lt
        have hr2 := HR0.out.below hb HR0.out.lt
        clear hb c0 c1
        have d0 := hy2.cell 0
        have d1 := hy2.cell 1
        go_wp2_with fail
        with_reducible refine (C2.out _).mono ?_
        rintro e w3 ⟨rfl, hb⟩
        have hb3 := hb2.trans (hb.mono hb2.size)
        have hx3 := hx2.below hb hx2.lt
        have hy3 := hy2.below hb hy2.lt
        have hr3 := hr2.below hb hr2.lt
        clear hb d0 d1 hb2 hx2 hy2 hr2
        have d0 := hy3.cell 0
        have d1 := hx3.cell 0
        have hbc : (b == c) = false := by simpa using hbc
        have c0 := hr3.cell 0
        have c1 := hr3.cell 1
        have z0 := hr3.frozen 0
        have z1 := hr3.frozen 1
        go_wp2_with fail
        have hr9 := ((hr3.set 0 (.int .i64 0)).set 1 (.string { data := #[] })).eq (cs' := #[.int .i64 0, .string { data := #[] }]) rfl
        refine bodyPost_ret (results_hll rfl _ _ (w.heap.size + 2) _ _ rfl hr9) rfl ?_
        rw [HV.out]
        exact ⟨rfl, (hb3.setCell (p := ⟨w.heap.size + 2, 0, none⟩) (by simp) _).setCell (p := ⟨w.heap.size + 2, 1, none⟩) (by simp) _⟩
end Go.Proofs.Ytnljepnmajcmgaa
