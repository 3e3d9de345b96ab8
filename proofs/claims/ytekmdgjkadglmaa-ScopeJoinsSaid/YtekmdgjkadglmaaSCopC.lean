/- Package scope: Right, Means: the contracts. -/
import Derived.Test.YtekmdgjkadglmaaSRead
import Derived.Test.YtekmdgjkadglmaaLGet
namespace Go.Proofs.Ytekmdgjkadglmaa
open Go.RowKit

theorem getLb_mem : ∀ (L : List Lab) (nm v : ByteArray), getLb L nm = some v → ∃ x ∈ L, x.2 = v := by
  intro L
  induction L with
  | nil => intro nm v h; cases h
  | cons x L ih =>
    intro nm v h
    unfold getLb at h
    split at h
    · exact ⟨x, List.mem_cons_self .., by simpa using h⟩
    · obtain ⟨y, hy, e⟩ := ih nm v h
      exact ⟨y, List.mem_cons_of_mem _ hy, e⟩
/-- Does a term mean labels? -/
def meanG (g : Option ByteArray) (y : ByteArray) : Bool := match g with
  | some v => fitsB y v
  | none => false
def meanT (L : List Lab) (t : Lab) : Bool := meanG (getLb L t.1) t.2
theorem getV_shape (L : List Lab) (nm : ByteArray) : GetV L nm = .tuple #[.string ((getLb L nm).getD { data := #[] }), .bool (getLb L nm).isSome] := by
  unfold GetV
  cases getLb L nm <;> rfl

set_option maxHeartbeats 1000000 in
set_option maxRecDepth 100000 in
theorem meant_any (L T : List Lab) (lv tv : Value) (w : World) (hl : LblSl w lv L) (ht : LblSl w tv T) (hn : L.length ≤ 1000) (hs : smallLb L) (hnT : T.length ≤ 1000) (hsT : smallLb T) :
    Calls Try.prog 17 #[lv, tv] w fun e w' => e = .returned (.bool (T.all (meanT L))) ∧ Below w.heap.size w w' := by
  obtain ⟨ao, c, rfl, hc⟩ := ht.shape
  obtain ⟨m, hm⟩ : ∃ m, m = T.length := ⟨_, rfl⟩
  have HM := Lib.hid hm
  rw [← hm] at hnT ⊢
  have HC := Lib.hid hc
  have HST := Lib.hid hsT
  have HSL := Lib.hid hs
  have HL := Lib.hid hl
  have G1 := Lib.hid (fun nm W h => lGet_any L lv nm W h hn)
  clear hm hc hsT hs ht hl
  go_enter Try.func17, Try.ntmps17
  go_wp2_with fail
  go_loopw [11] (fun i wr => ∃ k : Nat, k ≤ m ∧ i = .int .i64 (k : Int) ∧ Below w.heap.size w wr ∧ Hid ((T.take k).all (meanT L) = true)) (fun i _ => m - (intOf i).toNat)
  case atStart => exact ⟨0, Nat.zero_le _, rfl, Below.refl _ _, by rw [List.take_zero]; rfl⟩
  case round =>
    obtain ⟨k, hk, rfl, hb, HA⟩ := hrel
    by_cases hlt : k < m
    · have hkT : k < T.length := by have := HM.out; omega
      obtain ⟨g, o, rfl, hcell⟩ := HC.out k hkT
      obtain ⟨c1, c2⟩ := hcell wr hb
      obtain ⟨x, y, hxy⟩ : ∃ x y, T[k] = (x, y) := ⟨_, _, rfl⟩
      have sm := HST.out _ (List.getElem_mem hkT)
      have htk : T.take (k + 1) = T.take k ++ [(x, y)] := by rw [List.take_succ_eq_append_getElem hkT, hxy]
      rw [hxy] at c1 c2 sm
      dsimp only at c1 c2 sm
      have HTK := Lib.hid htk
      have HLW := Lib.hid (HL.out.below hb)
      have hmem : (x, y) ∈ T := by rw [← hxy]; exact List.getElem_mem hkT
      have HMEM := Lib.hid hmem
      have hb1 := hb.alloc hb.size (.cells #[.string x, .string y] 37)
      have hX := HasC.new wr 37 #[.string x, .string y]
      clear hxy htk hmem hcell
      have G2 := Lib.hid (G1.out x (wr.alloc (.cells #[.string x, .string y] 37)) (HLW.out.below ((Below.refl _ _).alloc (Nat.le_refl _) _)))
      rw [getV_shape] at G2
      obtain ⟨gv, hgv⟩ : ∃ gv, gv = getLb L x := ⟨_, rfl⟩
      have hmt : meanT L (x, y) = meanG gv y := by rw [hgv]; rfl
      have hgsz : ∀ v, gv = some v → v.size ≤ 3000 := fun v h => by
        rw [hgv] at h
        obtain ⟨z, hz, e⟩ := getLb_mem L x v h
        rw [← e]
        exact (HSL.out z hz).2
      rw [← hgv] at G2
      have HMT := Lib.hid hmt
      clear hmt hgv
      go_wp2_with fail
      with_reducible refine G2.out.mono ?_
      rintro e w3 ⟨rfl, hb3⟩
      have hX3 := hX.below hb3 hX.lt
      have hbb := hb1.trans (hb3.mono hb1.size)
      have cy : w3.cell? ⟨wr.heap.size, 1, none⟩ = some (.string y) := hX3.cell 1
      clear hb3 hb1 hX hX3 G2 c1 c2
      cases gv with
      | none =>
        have hF : T.all (meanT L) = false := by
          have h1 : meanT L (x, y) = false := HMT.out
          exact List.all_eq_false.2 ⟨_, HMEM.out, by rw [h1]; simp⟩
        have HF := Lib.hid hF
        clear hF hgsz
        go_wp2_with fail
        go_ret
        exact ⟨by rw [HF.out]; rfl, hbb⟩
      | some v =>
        have F1 := Lib.hid (sFits_any y v sm.2 (hgsz v rfl) w3)
        have hmt2 : meanT L (x, y) = fitsB y v := HMT.out
        have HM2 := Lib.hid hmt2
        clear hgsz hmt2
        obtain ⟨fb, hfb⟩ : ∃ fb, fb = fitsB y v := ⟨_, rfl⟩
        rw [← hfb] at F1 HM2
        clear hfb
        go_wp2_with fail
        with_reducible refine F1.out.mono ?_
        rintro e w4 ⟨rfl, hb4⟩
        have hbc := hbb.trans (hb4.mono hbb.size)
        clear hb4 hbb F1 cy
        cases fb with
        | false =>
          have hF : T.all (meanT L) = false := List.all_eq_false.2 ⟨_, HMEM.out, by rw [HM2.out]; simp⟩
          have HF := Lib.hid hF
          clear hF
          go_wp2_with fail
          go_ret
          exact ⟨by rw [HF.out]; rfl, hbc⟩
        | true =>
          have hA2 : Hid ((T.take (k + 1)).all (meanT L) = true) := by
            show (T.take (k + 1)).all (meanT L) = true
            rw [HTK.out, List.all_append, HA.out]
            simp [HM2.out]
          go_wp2_with fail
          go_roundw
          case rel => exact ⟨k + 1, by omega, by go_num, hbc, hA2⟩
          case measure => simp [intOf]; omega
    · have hF : T.all (meanT L) = true := by
        have := HA.out
        rwa [List.take_of_length_le (by have := HM.out; omega)] at this
      have HF := Lib.hid hF
      clear hF
      go_wp2_with fail
      go_ret
      exact ⟨by rw [HF.out]; rfl, hb⟩

set_option maxRecDepth 100000 in
theorem sRight_any (s : ByteArray) (hs : s.size ≤ 3000) (w : World) : Calls Try.prog 11 #[.string s] w fun e w' => e = .returned (.bool (scopeB s)) ∧ Below w.heap.size w w' := by
  have P1 := Lib.hid (read_any s hs w)
  go_enter Try.func11, Try.ntmps11
  go_wp2_with fail
  with_reducible refine P1.out.mono ?_
  rintro e w2 ⟨⟨v, rfl, _⟩, hb⟩
  go_wp2_with fail
  go_ret
  exact ⟨rfl, hb⟩
/-- A scope's terms mean what its parts do. -/
theorem means_terms {s : ByteArray} (h : scopeB s = true) (L : List Lab) : meansB s L = ((segsL s).map termV).all (meanT L) := by
  unfold meansB
  by_cases h0 : s.size = 0
  · rw [(segs_nil s).2 h0]
    simp [h0]
  · have hok : ∀ t ∈ segsL s, okT t = true := fun t ht => by
      cases hq : okT t with
      | true => rfl
      | false => rw [scope_bad ht hq] at h; cases h
    unfold segsL at hok ⊢
    rw [if_neg h0] at hok ⊢
    have hd : decide (s.size = 0) = false := by simp [h0]
    rw [hd, Bool.false_or, List.all_map]
    have he : ∀ t ∈ termsL s, termMeans L t = meanT L (termV t) := fun t ht => by
      have h1 := hok t ht
      unfold okT at h1
      obtain ⟨h2, _⟩ := (Bool.and_eq_true _ _).mp h1
      unfold termMeans meanT meanG
      rw [termB_yes h2]
      cases getLb L (termV t).1 <;> rfl
    rw [Bool.eq_iff_iff, List.all_eq_true, List.all_eq_true]
    exact forall_congr' fun t => forall_congr' fun ht => by rw [he t ht]; rfl
theorem segs_small {s : ByteArray} (hs : s.size ≤ 3000) : smallLb ((segsL s).map termV) := fun x hx => by
  obtain ⟨t, ht, rfl⟩ := List.mem_map.1 hx
  have h1 := segs_size s t ht
  have h2 := cutV_size 61 t
  exact ⟨Nat.le_trans h2.1 (by omega), Nat.le_trans h2.2 (by omega)⟩
theorem segs_few {s : ByteArray} (h : scopeB s = true) : ((segsL s).map termV).length ≤ 1000 := by
  rw [List.length_map]
  by_cases h4 : 4 < (segsL s).length
  · rw [scope_long h4] at h; cases h
  · omega
set_option maxHeartbeats 1000000 in
set_option maxRecDepth 100000 in
theorem sMeans_any (s : ByteArray) (L : List Lab) (v : Value) (w : World) (hs : s.size ≤ 3000) (hv : LblSl w v L) (hn : L.length ≤ 1000) (hsm : smallLb L) :
    Calls Try.prog 10 #[.string s, v] w fun e w' => e = .returned (MeansV s L) ∧ Below w.heap.size w w' := by
  have P1 := Lib.hid (read_any s hs w)
  have R1 := Lib.hid (fun W h => lRight_any L v W h hn hsm)
  have hMV : MeansV s L = if scopeB s && rightB L then .tuple #[.bool (meansB s L), .int .i64 0] else .tuple #[.bool false, .int .i64 50] := rfl
  have hfew := fun h => segs_few (s := s) h
  have hmt := fun h => means_terms (s := s) h L
  have HMV := Lib.hid hMV
  have HFEW := Lib.hid hfew
  have HMT := Lib.hid hmt
  have HV := Lib.hid hv
  have HSM := Lib.hid hsm
  obtain ⟨sb, hsb⟩ : ∃ sb, sb = scopeB s := ⟨_, rfl⟩
  rw [← hsb] at P1 HMV HFEW HMT
  clear hMV hfew hmt hsb hv hsm
  go_enter Try.func10, Try.ntmps10
  go_wp2_with fail
  with_reducible refine P1.out.mono ?_
  rintro e w2 ⟨⟨tv, rfl, htv⟩, hb⟩
  have hv2 := HV.out.below hb
  clear P1
  cases sb with
  | false =>
    have hF : MeansV s L = .tuple #[.bool false, .int .i64 50] := by rw [HMV.out]; rfl
    have HF := Lib.hid hF
    clear hF htv hv2
    go_wp2_with fail
    go_ret2
    exact ⟨by rw [HF.out]; rfl, hb⟩
  | true =>
    have HTV := Lib.hid (htv rfl)
    have R2 := Lib.hid (R1.out w2 hv2)
    obtain ⟨rb, hrb⟩ : ∃ rb, rb = rightB L := ⟨_, rfl⟩
    rw [← hrb] at R2 HMV
    clear hrb htv
    go_wp2_with fail
    with_reducible refine R2.out.mono ?_
    rintro e w3 ⟨rfl, hb3⟩
    have hbb := hb.trans (hb3.mono hb.size)
    have hv3 := hv2.below hb3
    have ht3 := HTV.out.below hb3
    clear hb3 R2
    cases rb with
    | false =>
      have hF : MeansV s L = .tuple #[.bool false, .int .i64 50] := by rw [HMV.out]; rfl
      have HF := Lib.hid hF
      clear hF hv3 ht3 hv2
      go_wp2_with fail
      go_ret2
      exact ⟨by rw [HF.out]; rfl, hbb⟩
    | true =>
      have M1 := Lib.hid (meant_any L ((segsL s).map termV) v tv w3 hv3 ht3 hn HSM.out (HFEW.out (by simp)) (segs_small hs))
      have hF : MeansV s L = .tuple #[.bool (meansB s L), .int .i64 0] := by rw [HMV.out]; rfl
      have hm2 := HMT.out (by simp)
      rw [← hm2] at M1
      have HF := Lib.hid hF
      clear hF hv3 ht3 hv2 hm2
      go_wp2_with fail
      with_reducible refine M1.out.mono ?_
      rintro e w4 ⟨rfl, hb4⟩
      have hbc := hbb.trans (hb4.mono hbb.size)
      clear hb4 M1
      go_wp2_with fail
      go_ret2
      exact ⟨by rw [HF.out]; rfl, hbc⟩
end Go.Proofs.Ytekmdgjkadglmaa
