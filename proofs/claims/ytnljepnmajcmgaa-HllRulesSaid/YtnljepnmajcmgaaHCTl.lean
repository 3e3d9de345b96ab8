/- Package hll: what two ranks come to; each number tells its register its rank. -/
import Derived.Test.YtnljepnmajcmgaaHCCh
namespace Go.Proofs.Ytnljepnmajcmgaa
open Go.RowKit Go.Shelf
attribute [local go_sem] Oper.semAt_some

set_option maxRecDepth 100000 in
theorem greater_any (a b : Nat) (w : World) : Calls Try.prog 41 #[.int .u8 (a : Int), .int .u8 (b : Int)] w fun e w' => e = .returned (.int .u8 ((max a b : Nat) : Int)) ∧ w' = w := by
  by_cases h : a < b
  · rw [Nat.max_eq_right (Nat.le_of_lt h)]
    have h1 : (a : Int) < (b : Int) := by omega
    have h2 : max (a : Int) (b : Int) = (b : Int) := by omega
    go_enter Try.func41, Try.ntmps41
    go_wp2
    go_ret
    exact ⟨rfl, rfl⟩
  · rw [Nat.max_eq_left (by omega)]
    have h1 : ¬ (a : Int) < (b : Int) := by omega
    have h2 : max (a : Int) (b : Int) = (a : Int) := by omega
    go_enter Try.func41, Try.ntmps41
    go_wp2
    go_ret
    exact ⟨rfl, rfl⟩
set_option maxRecDepth 100000 in
theorem lowered_any (a b : Nat) (w : World) (ha : a < 255) : Calls Try.prog 47 #[.int .u8 (a : Int), .int .u8 (b : Int)] w fun e w' => e = .returned (.int .u8 ((lowC a b : Nat) : Int)) ∧ w' = w := by
  unfold lowC
  by_cases h1 : 0 < a
  · have hne : ((a : Int) != 0) = true := by simp; omega
    rw [if_pos h1]
    have e1 : max (a + 1) (if 0 < b then 1 else 0) = a + 1 := by split <;> omega
    rw [e1]
    go_enter Try.func47, Try.ntmps47
    go_wp2
    go_ret
    exact ⟨by first | rfl | (congr 2), rfl⟩
  · have hne : ((a : Int) != 0) = false := by simp; omega
    obtain rfl : a = 0 := by omega
    rw [if_neg h1]
    by_cases h2 : 0 < b
    · have hne2 : ((b : Int) != 0) = true := by simp; omega
      rw [if_pos h2]
      go_enter Try.func47, Try.ntmps47
      go_wp2
      go_ret
      exact ⟨rfl, rfl⟩
    · obtain rfl : b = 0 := by omega
      go_enter Try.func47, Try.ntmps47
      go_wp2
      go_ret
      exact ⟨rfl, rfl⟩
def tellR (n : Nat) (R : List Nat) (L : List Nat) : List Nat := L.foldl (addR n) R
theorem add_size (b : Nat) (R : List Nat) (x : Nat) : (addR b R x).length = R.length := by simp [addR]
theorem tell_size (n : Nat) (L R : List Nat) : (tellR n R L).length = R.length := by
  unfold tellR
  induction L generalizing R with
  | nil => rfl
  | cons x t ih => rw [List.foldl_cons, ih, add_size]
theorem tell_snoc (n : Nat) (R L : List Nat) (x : Nat) : tellR n R (L ++ [x]) = addR n (tellR n R L) x := by simp [tellR]
theorem tell_of (n : Nat) (l L : List Nat) : tellR n (ofR n l) L = ofR n (l ++ L) := by
  unfold tellR
  induction L generalizing l with
  | nil => simp
  | cons x t ih => rw [List.foldl_cons, add_of, ih, List.append_assoc]; rfl
theorem add_set (b : Nat) (R : List Nat) (x : Nat) : addR b R x = R.set (atP b x) (max (R.getD (atP b x) 0) (rankP b x)) := by
  refine List.ext_getElem (by simp [addR]) fun i h1 h2 => ?_
  have hi : i < R.length := by simpa [addR] using h1
  simp only [addR, List.getElem_map, List.getElem_range, List.getElem_set]
  by_cases hh : i = atP b x
  · rw [if_pos hh, if_pos hh.symm, hh]
  · rw [if_neg hh, if_neg (Ne.symm hh), List.getD_eq_getElem?_getD, List.getElem?_eq_getElem hi, Option.getD_some]
theorem add_byte {b : Nat} {R : List Nat} {x : Nat} (hR : byteL R) : byteL (addR b R x) := by
  intro r hr
  obtain ⟨i, hi, rfl⟩ := List.mem_map.1 hr
  have hi : i < R.length := List.mem_range.1 hi
  have h1 : R.getD i 0 < 256 := by
    rw [List.getD_eq_getElem?_getD, List.getElem?_eq_getElem hi, Option.getD_some]
    exact hR _ (List.getElem_mem hi)
  have := rank_le b x
  split <;> omega
theorem tell_byte {n : Nat} (L : List Nat) {R : List Nat} (hR : byteL R) : byteL (tellR n R L) := by
  unfold tellR
  induction L generalizing R with
  | nil => exact hR
  | cons x t ih => rw [List.foldl_cons]; exact ih (add_byte hR)
/-- The closure that tells the greater one of two ranks. -/
abbrev fGreater : Value := .func (.func 41) #[] #[]

set_option maxHeartbeats 4000000 in
set_option maxRecDepth 100000 in
theorem tell_in (n : Nat) (h5 : 5 ≤ n) (nb gW gR cap : Nat) (s : ByteArray) (R L : List Nat) (ao : Option Addr) (c : Nat) (w : World) (h3b : 3 ≤ nb) (h8b : nb ≤ 8)
    (hW : WkC w gW (nb : Int) s (.slice (some ⟨gR, 0, none⟩) R.length cap) fGreater) (hRow : BytC w gR R) (hlt : gR < gW) (hRn : R.length = 2 ^ nb) (hRb : byteL R)
    (hN : NumAt gR ao L w) (hLn : L.length ≤ 1000) (hLx : ∀ x ∈ L, x < 18446744073709551616) :
    CallsIn Fence.wide n Try.prog 42 #[.pointer (some ⟨gW, 0, none⟩), .slice ao L.length c] w fun e w' => (∃ u, e = .returned u) ∧ BytC w' gR (tellR nb R L) ∧ WkC w' gW (nb : Int) s (.slice (some ⟨gR, 0, none⟩) R.length cap) fGreater ∧ (∀ k, gR < k → k < w.heap.size → w'.heap[k]? = w.heap[k]?) ∧ Below gR w w' := by
  have hgR := hRow.1
  have hgW := hW.lt
  obtain ⟨m, hm⟩ : ∃ m, m = L.length := ⟨_, rfl⟩
  obtain ⟨p, hp⟩ : ∃ p, p = R.length := ⟨_, rfl⟩
  have HM := Lib.hid hm
  have HP := Lib.hid hp
  rw [← hm] at hLn
  rw [← hm]
  rw [← hp] at hW hRn
  rw [← hp]
  have HN := Lib.hid hN
  have HLX := Lib.hid hLx
  have HRN := Lib.hid hRn
  have HRB := Lib.hid hRb
  clear hm hp hN hLx hRn hRb
  refine callsIn_of_wp_marks Try.func42 rfl trivial ?_ rfl
  simp only [Try.ntmps42, List.size_toArray, List.length_cons, List.length_nil, Nat.reduceAdd, Nat.reduceSub, Array.replicate_succ, Array.replicate_zero, List.push_toArray, List.append_toArray, List.nil_append, List.cons_append]
  gi_wp2_with fail
  refine ⟨trivial, fun _ => by omega, ?_⟩
  refine (callsIn_wide.2 (eachNum_any _ _ _ _)).mono ?_
  rintro e w2 ⟨rfl, rfl⟩
  gi_wp2_with fail
  obtain ⟨W0, hW0⟩ : ∃ W0, W0 = (w.alloc (.cells #[.pointer (some ⟨gW, 0, none⟩)] 77)).alloc (.cells #[.slice ao m c] 24) := ⟨_, rfl⟩
  have hz0 : W0.heap.size = w.heap.size + 2 := by rw [hW0]; simp
  have hk0 : Below w.heap.size w W0 := by
    rw [hW0]
    exact ((Below.refl _ w).alloc (Nat.le_refl _) _).alloc (by simp) _
  have hA0 : HasC W0 w.heap.size 77 #[.pointer (some ⟨gW, 0, none⟩)] := by rw [hW0]; exact (HasC.new w _ _).alloc _
  have hS0 : HasC W0 (w.heap.size + 1) 24 #[.slice ao m c] := by rw [hW0]; exact HasC.at_ _ _ _ (by simp)
  have hWk0 := hW.below hk0 hgW
  have hRow0 := hRow.below hk0
  rw [← hW0]
  clear hW0
  refine range_fn (by omega) (each_num (w.heap.size + 1) gR ao c L (by have := HM.out; omega)) (enters_of Try.func52 (by kernel_rfl) rfl) rfl (fun _ => rfl)
    (fun k W => HasC W (w.heap.size + 1) 24 #[.slice ao m c] ∧ HasC W w.heap.size 77 #[.pointer (some ⟨gW, 0, none⟩)] ∧ WkC W gW (nb : Int) s (.slice (some ⟨gR, 0, none⟩) p cap) fGreater ∧ BytC W gR (tellR nb R (L.take k)) ∧ (∀ k, gR < k → k < w.heap.size → W.heap[k]? = w.heap[k]?) ∧ Below gR w W)
    (fun _ _ => False)
    (fun k W W' h hb => ⟨h.1.below hb h.1.lt, h.2.1.below hb h.2.1.lt, h.2.2.1.below hb h.2.2.1.lt, h.2.2.2.1.below hb, fun j h1 h2 => (hb.block j (Nat.lt_of_lt_of_le h2 h.2.2.2.2.2.size)).trans (h.2.2.2.2.1 j h1 h2), h.2.2.2.2.2.trans (hb.mono (Nat.le_of_lt h.2.2.2.1.1))⟩)
    (fun k W h => ⟨by rw [← HM.out]; exact h.1.cell 0, HN.out.below h.2.2.2.2.2⟩) ?_ ?_ ?_ ?_ ?_ ?_
  · rintro k W _ o ⟨hS, hA, hWk, hRw, hoth, hbw⟩ hl
    refine ⟨hS.put (by omega) _, hA.put (by omega) _, hWk.put (by omega) _, hRw.keep (by simp) (World.putObj_heap_other (by omega)), fun j h1 h2 => (World.putObj_heap_other (by omega)).trans (hoth j h1 h2), below_put hbw _ _ (by omega)⟩
  · rintro j W _ o h
    exact h.elim
  · intro o
    have hk : Below W0.heap.size W0 ((W0.alloc (.deferred (some []))).alloc (.loop o)) := ((Below.refl _ W0).alloc (Nat.le_refl _) _).alloc (by simp) _
    exact ⟨hS0.below hk hS0.lt, hA0.below hk hA0.lt, hWk0.below hk hWk0.lt, by rw [List.take_zero]; exact hRow0.below hk, fun j h1 h2 => (hk.block j (by omega)).trans (hk0.block j h2), (hk0.trans (hk.mono hk0.size)).mono (Nat.le_of_lt hgR)⟩
  · rintro k hk W ⟨hS, hA, hWk, hRw, hoth, hbw⟩ rd bz hLp
    have hnext : tellR nb R (L.take (k + 1)) = addR nb (tellR nb R (L.take k)) L[k] := by rw [List.take_succ_eq_append_getElem hk, tell_snoc]
    have hlen : (tellR nb R (L.take k)).length = p := by rw [tell_size, ← HP.out]
    have hxl := HLX.out _ (List.getElem_mem hk)
    obtain ⟨x, hx⟩ : ∃ x, L[k] = x := ⟨_, rfl⟩
    obtain ⟨Rk, hRk⟩ : ∃ Rk, tellR nb R (L.take k) = Rk := ⟨_, rfl⟩
    unfold encN
    rw [hx, hRk] at hnext
    rw [hx] at hxl
    rw [hx]
    rw [hRk] at hRw hlen
    have hat := at_lt (b := nb) (by omega) hxl
    rw [← HRN.out] at hat
    have hset := add_set nb Rk x
    have hrk := rank_le nb x
    have hpl : placeH (nb : Int) x = (atP nb x, rankP nb x) := by unfold placeH; rw [okB_of h3b h8b, if_pos rfl, Int.toNat_natCast]
    have P1 := Lib.hid (fun W => hPlace_any' (nb : Int) x W hxl)
    rw [hpl] at P1
    obtain ⟨at', hat'⟩ : ∃ at', at' = atP nb x := ⟨_, rfl⟩
    obtain ⟨rk, hrk'⟩ : ∃ rk, rk = rankP nb x := ⟨_, rfl⟩
    rw [← hat', ← hrk'] at hset P1
    rw [← hat'] at hat
    rw [← hrk'] at hrk
    have hatl : at' < Rk.length := by rw [hlen]; exact hat
    obtain ⟨y, hy⟩ : ∃ y, y = Rk.getD at' 0 := ⟨_, rfl⟩
    have hy2 : Rk[at'] = y := by rw [hy, List.getD_eq_getElem?_getD, List.getElem?_eq_getElem hatl, Option.getD_some]
    rw [← hy] at hset
    have HNX := Lib.hid (hnext.trans hset)
    have hLt := hLp.lt
    have HLT := Lib.hid hLt
    have HZ := Lib.hid hz0
    have HGR := Lib.hid hgR
    have HGW := Lib.hid hgW
    have hrk66 : rk ≤ 65 := Nat.le_trans hrk (Nat.sub_le _ _)
    clear hx hRk hnext hset hrk hpl hat' hrk' hy hxl hA0 hS0 hWk0 hRow0 hk0 hW hRow hz0
    have HLP := Lib.hid hLp
    clear hLp
    gi_wp2_with fail
    have hLp := HLP.out
    refine ⟨hLp, ?_⟩
    have hz0 := HZ.out
    have hS1 := hS.put (L := W0.heap.size + 1) (by omega) (.loop bz)
    have hA1 := hA.put (L := W0.heap.size + 1) (by omega) (.loop bz)
    have hWk1 := hWk.put (L := W0.heap.size + 1) (by omega) (.loop bz)
    have hRw1 : BytC (W.putObj (W0.heap.size + 1) (.loop bz)) gR Rk := hRw.keep (by simp) (World.putObj_heap_other (by omega))
    have hoth1 : ∀ j, gR < j → j < w.heap.size → (W.putObj (W0.heap.size + 1) (.loop bz)).heap[j]? = w.heap[j]? := fun j h1 h2 => (World.putObj_heap_other (by omega)).trans (hoth j h1 h2)
    have hbw1 := below_put hbw (W0.heap.size + 1) (.loop bz) (by omega)
    have hL1 := hLp.put (.loop bz)
    generalize W.putObj (W0.heap.size + 1) (.loop bz) = V at hS1 hA1 hWk1 hRw1 hoth1 hbw1 hL1
    clear hS hA hWk hRw hoth hbw hLp hLt hz0
    have ca := hA1.cell 0
    have cb := hWk1.cell 0
    gi_wp2_with fail
    refine ⟨trivial, fun _ => by omega, ?_⟩
    refine (CallsIn.inRound _ (callsIn_wide.2 (P1.out _))).mono ?_
    rintro e V2 ⟨rfl, dn, hV2⟩
    have hS2 : HasC V2 (w.heap.size + 1) 24 #[.slice ao m c] := by rw [hV2]; exact hS1
    have hA2 : HasC V2 w.heap.size 77 #[.pointer (some ⟨gW, 0, none⟩)] := by rw [hV2]; exact hA1
    have hWk2 : WkC V2 gW (nb : Int) s (.slice (some ⟨gR, 0, none⟩) p cap) fGreater := by rw [hV2]; exact hWk1
    have hRw2 : BytC V2 gR Rk := by rw [hV2]; exact hRw1.below (bel_drewN (Below.refl _ V) dn)
    have hoth2 : ∀ j, gR < j → j < w.heap.size → V2.heap[j]? = w.heap[j]? := by rw [hV2]; exact hoth1
    have hbw2 : Below gR w V2 := by rw [hV2]; exact bel_drewN hbw1 dn
    have hL2 : Lp W0.heap.size (.loop bz) V2 := by rw [hV2]; exact hL1
    clear hS1 hA1 hWk1 hRw1 hoth1 hbw1 hL1 ca cb hV2
    gi_wp2_with fail
    have E1 : ∀ i : InC (DrN V2), i.w.cell? ⟨w.heap.size, 0, none⟩ = some (.pointer (some ⟨gW, 0, none⟩)) := fun ⟨_, _, h⟩ => by subst h; exact hA2.cell 0
    have E2 : ∀ i : InC (DrN V2), i.w.cell? ⟨gW, 2, none⟩ = some (.slice (some ⟨gR, 0, none⟩) p cap) := fun ⟨_, _, h⟩ => by subst h; exact hWk2.cell 2
    have E3 : ∀ i : InC (DrN V2), i.w.cell? ⟨gW, 3, none⟩ = some fGreater := fun ⟨_, _, h⟩ => by subst h; exact hWk2.cell 3
    have E4 : ∀ i : InC (DrN V2), i.w.cell? ⟨gR, at', none⟩ = some (.int .u8 (y : Int)) := fun ⟨_, _, h⟩ => by subst h; rw [← hy2]; exact (hRw2.2 at' hatl).1
    refine region_heldIn 19 [0, 1, 2, 3, 4, 5, 6, 7, 8, 9, 10, 11, 12, 13, 14, 15, 16, 17] [18] (DrN V2) (by kernel_rfl) (FOk.round _ (by kernel_rfl)) (by kernel_rfl) (by intro c a d v w h; cases d <;> exact h) ⟨1, rfl⟩ ?_
    intro hne
    simp only [pickL, nthL]
    repeat (go_big_quiet_step (fail))
    refine wpQuiet_nil ?_
    intro K hK
    have G1 := Lib.hid (fun W => greater_any y rk W)
    have cz := hRw2.2 at' hatl
    rw [hy2] at cz
    obtain ⟨c1, z1⟩ := cz
    gi_wp2_with fail
    refine ⟨trivial, fun _ => by omega, ?_⟩
    refine (CallsIn.inRound _ (callsIn_wide.2 (G1.out _))).mono ?_
    rintro e V3 ⟨rfl, rfl⟩
    gi_wp2_with fail
    refine hK.out _ _ ⟨⟨V2.drew, 1, rfl⟩, rfl⟩ ?_
    simp only [heavyRun, List.drop_succ_cons, List.drop_zero]
    have hRw3 := (hRw2.set at' (max y rk) hatl).below ((Below.refl _ _).drew)
    rw [← HNX.out] at hRw3
    clear E1 E2 E3 E4 hne hK
    gi_wp2_with fail
    have hz0 := HZ.out
    refine ⟨hL2.set _ _ (by simp; omega) (by simp; omega), hS2.far _ _ (by simp; omega), hA2.far _ _ (by simp; omega), hWk2.far _ _ (by simp; omega), hRw3, fun j h1 h2 => (Below.heap_setCell V2 _ _ j (by simp; omega)).trans (hoth2 j h1 h2), (hbw2.setCell (p := ⟨gR, at', none⟩) (Nat.le_refl _) _).drew⟩
  · rintro W ⟨hS, hA, hWk, hRw, hoth, hbw⟩ hK
    rw [List.take_of_length_le (Nat.le_refl _)] at hRw
    gi_wp2_with fail
    refine ⟨by simp, .inl ⟨_, _, rfl, run_takeDeferred (b := W0.heap.size) hK, ?_⟩⟩
    refine ⟨_, results_none rfl _ _ _, ⟨_, rfl⟩, hRw.keep (by simp) (World.putObj_heap_other (by omega)), hWk.put (by omega) _, fun j h1 h2 => (World.putObj_heap_other (by omega)).trans (hoth j h1 h2), below_put hbw _ _ (by omega)⟩
  · rintro j W h
    exact h.elim
end Go.Proofs.Ytnljepnmajcmgaa
