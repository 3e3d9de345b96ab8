/- Package cms: each number told: tell. -/
import Derived.Test.YthhlofcmhnkcmaaCCLe
namespace Go.Proofs.Ythhlofcmhnkcmaa
open Go.RowKit Go.Shelf
attribute [local go_sem] Oper.semAt_some

/-- Each number added x times. -/
def tellC (b x : Nat) (L hs : List Nat) : List Nat := hs.foldl (fun L h => addC b L h x) L
theorem tellC_len (b x : Nat) (L hs : List Nat) : (tellC b x L hs).length = L.length := by
  unfold tellC
  induction hs generalizing L with
  | nil => rfl
  | cons h t ih => rw [List.foldl_cons, ih, addC_size]
theorem tellC_snoc (b x : Nat) (L hs : List Nat) (h : Nat) : tellC b x L (hs ++ [h]) = addC b (tellC b x L hs) h x := by simp [tellC]
theorem addC_le (b : Nat) (L : List Nat) (h x : Nat) (hL : ∀ y ∈ L, y ≤ topN) : ∀ y ∈ addC b L h x, y ≤ topN := by
  intro y hy
  obtain ⟨i, hi, rfl⟩ := List.mem_map.1 hy
  have hi : i < L.length := List.mem_range.1 hi
  split
  · exact plus_le _ _
  · rw [getD_at hi]; exact hL _ (List.getElem_mem hi)
theorem tellC_le (b x : Nat) (hs : List Nat) : ∀ L : List Nat, (∀ y ∈ L, y ≤ topN) → ∀ y ∈ tellC b x L hs, y ≤ topN := by
  unfold tellC
  induction hs with
  | nil => intro L hL; exact hL
  | cons h t ih => intro L hL; rw [List.foldl_cons]; exact ih _ (addC_le b L h x hL)
theorem addK_at8 (b : Nat) (hb : 0 < b) (L : List Nat) (h x k : Nat) (hk : plC b h k < L.length) : (numL (addK b L h x k))[plC b h k]? = some (nV (L.getD (plC b h k) 0)) := by
  have hl : k * b + colC b k h < (addK b L h x k).length := by rw [addK_len]; exact hk
  have e := addK_idx b hb L h x k hl
  unfold plC at hk ⊢
  rw [numL, List.getElem?_map, List.getElem?_eq_getElem hl, e]
  rfl
theorem addK_next (b : Nat) (hb : 0 < b) (L : List Nat) (h x k z : Nat) (hz : z = plusS (L.getD (plC b h k) 0) x) : (numL (addK b L h x k)).set (plC b h k) (nV z) = numL (addK b L h x (k + 1)) := by
  rw [numL_set, addK_step b hb, hz]
  rfl
theorem owns_put {W : World} {g L m cap : Nat} {e : TypeId} {sz : Nat} {xs : List Value} (h : W.ownsRow g e sz (.slice (some ⟨g, 0, none⟩) m cap) m xs) (hne : g ≠ L) (o : Obj) : (W.putObj L o).ownsRow g e sz (.slice (some ⟨g, 0, none⟩) m cap) m xs := by
  rcases h.2 with ⟨hv, _⟩ | ⟨g', c', cur, hv, hB, hg, h1⟩
  · cases hv
  · simp only [Value.slice.injEq, Option.some.injEq, Addr.mk.injEq] at hv
    obtain ⟨⟨rfl, _, _⟩, _, rfl⟩ := hv
    exact ⟨h.1, .inr ⟨g, cap, cur, rfl, hB, (World.putObj_heap_other hne).trans hg, h1⟩⟩
set_option maxHeartbeats 4000000 in
set_option maxRecDepth 100000 in
theorem tell_in (n : Nat) (h7 : 7 ≤ n) (gW gR a b m cap x : Nat) (L hs : List Nat) (ao : Option Addr) (c : Nat) (w : World) (h2 : a ≤ 4) (h3 : 0 < b) (hb32 : b ≤ 32) (hm : m = a * b) (hx : x ≤ topN)
    (hW : WkC w gW a b (.slice (some ⟨gR, 0, none⟩) m cap)) (hRow : w.ownsRow gR 25 1 (.slice (some ⟨gR, 0, none⟩) m cap) m (numL L)) (hgR : gR < w.heap.size) (hlt : gW < gR) (hLn : L.length = m) (hLx : ∀ y ∈ L, y ≤ topN)
    (hN : NumAt gR ao hs w) (hsn : hs.length ≤ 1000) (hsx : ∀ h ∈ hs, h ≤ topN) :
    CallsIn Fence.wide n Try.prog 46 #[.pointer (some ⟨gW, 0, none⟩), nV x, .slice ao hs.length c] w fun e w' => (∃ u, e = .returned u) ∧ w'.ownsRow gR 25 1 (.slice (some ⟨gR, 0, none⟩) m cap) m (numL (tellC b x L hs)) ∧ Below gR w w' := by
  obtain ⟨p, hp⟩ : ∃ p, p = hs.length := ⟨_, rfl⟩
  have HPP := Lib.hid hp
  rw [← hp] at hsn
  rw [← hp]
  have HM := Lib.hid hm
  have HLN := Lib.hid hLn
  have HLX := Lib.hid hLx
  have HN := Lib.hid hN
  have HSX := Lib.hid hsx
  have HW := Lib.hid hW
  have hab : a * b ≤ 4 * 32 := Nat.mul_le_mul h2 hb32
  have hm128 : m ≤ 128 := by omega
  clear hp hm hLn hLx hN hsx hab
  refine callsIn_of_wp_marks Try.func46 rfl trivial ?_ rfl
  simp only [Try.ntmps46, List.size_toArray, List.length_cons, List.length_nil, Nat.reduceAdd, Nat.reduceSub, Array.replicate_succ, Array.replicate_zero, List.push_toArray, List.append_toArray, List.nil_append, List.cons_append]
  gi_wp2_with fail
  refine ⟨trivial, fun _ => by omega, ?_⟩
  refine (callsIn_wide.2 (eachNum_any _ _ _ _)).mono ?_
  rintro e w2 ⟨rfl, rfl⟩
  gi_wp2_with fail
  obtain ⟨W0, hW0⟩ : ∃ W0, W0 = ((w.alloc (.cells #[.pointer (some ⟨gW, 0, none⟩)] 66)).alloc (.cells #[nV x] 25)).alloc (.cells #[.slice ao p c] 22) := ⟨_, rfl⟩
  have hz0 : W0.heap.size = w.heap.size + 3 := by rw [hW0]; simp
  have hk0 : Below w.heap.size w W0 := by
    rw [hW0]
    exact (((Below.refl _ w).alloc (Nat.le_refl _) _).alloc (by simp) _).alloc (by simp; omega) _
  have hA0 : HasC W0 w.heap.size 66 #[.pointer (some ⟨gW, 0, none⟩)] := by rw [hW0]; exact ((HasC.new w _ _).alloc _).alloc _
  have hX0 : HasC W0 (w.heap.size + 1) 25 #[nV x] := by rw [hW0]; exact (HasC.at_ _ _ _ (by simp)).alloc _
  have hS0 : HasC W0 (w.heap.size + 2) 22 #[.slice ao p c] := by rw [hW0]; exact HasC.at_ _ _ _ (by simp)
  have hRow0 := owns_same (W := W0) hRow fun k _ h2 => hk0.block k h2
  rw [← hW0]
  clear hW0
  refine range_fn (by omega) (each_num (w.heap.size + 2) gR ao c hs (by have := HPP.out; omega)) (enters_of Try.func55 (by kernel_rfl) rfl) rfl (fun _ => rfl)
    (fun k W => HasC W (w.heap.size + 2) 22 #[.slice ao p c] ∧ HasC W w.heap.size 66 #[.pointer (some ⟨gW, 0, none⟩)] ∧ HasC W (w.heap.size + 1) 25 #[nV x] ∧ W.ownsRow gR 25 1 (.slice (some ⟨gR, 0, none⟩) m cap) m (numL (tellC b x L (hs.take k))) ∧ Below gR w W)
    (fun _ _ => False)
    (fun k W W' h hb => ⟨h.1.below hb h.1.lt, h.2.1.below hb h.2.1.lt, h.2.2.1.below hb h.2.2.1.lt, owns_same h.2.2.2.1 fun j _ h2 => hb.block j h2, h.2.2.2.2.trans (hb.mono (by have := h.1.lt; omega))⟩)
    (fun k W h => ⟨by rw [← HPP.out]; exact h.1.cell 0, HN.out.below h.2.2.2.2⟩) ?_ ?_ ?_ ?_ ?_ ?_
  · rintro k W _ o ⟨hS, hA, hX, hR, hbw⟩ hl
    exact ⟨hS.put (by omega) _, hA.put (by omega) _, hX.put (by omega) _, owns_put hR (by omega) _, below_put hbw _ _ (by omega)⟩
  · rintro j W _ o h
    exact h.elim
  · intro o
    have hk : Below W0.heap.size W0 ((W0.alloc (.deferred (some []))).alloc (.loop o)) := ((Below.refl _ W0).alloc (Nat.le_refl _) _).alloc (by simp) _
    exact ⟨hS0.below hk hS0.lt, hA0.below hk hA0.lt, hX0.below hk hX0.lt, by rw [List.take_zero]; exact owns_same hRow0 fun j _ h2 => hk.block j h2, (hk0.trans (hk.mono hk0.size)).mono (Nat.le_of_lt hgR)⟩
  · rintro k hk W ⟨hS, hA, hX, hR, hbw⟩ rd bz hLp
    have hnext : tellC b x L (hs.take (k + 1)) = addC b (tellC b x L (hs.take k)) hs[k] x := by rw [List.take_succ_eq_append_getElem hk, tellC_snoc]
    have hlen : (tellC b x L (hs.take k)).length = m := by rw [tellC_len, HLN.out]
    have hle := tellC_le b x (hs.take k) L HLX.out
    have hht := HSX.out _ (List.getElem_mem hk)
    obtain ⟨h, hh⟩ : ∃ h, hs[k] = h := ⟨_, rfl⟩
    obtain ⟨Lk, hLk⟩ : ∃ Lk, tellC b x L (hs.take k) = Lk := ⟨_, rfl⟩
    unfold encN
    rw [hh, hLk] at hnext
    rw [hh] at hht
    rw [hh]
    rw [hLk] at hR hlen hle
    have HNX := Lib.hid hnext
    have HLEN := Lib.hid hlen
    have HLE := Lib.hid hle
    have HLP := Lib.hid hLp
    have HZ := Lib.hid hz0
    clear hnext hlen hle hh hLk hLp hz0 hA0 hX0 hS0 hRow0 hk0 hW hRow hk
    gi_wp2_with fail
    have hLp := HLP.out
    have hLt := hLp.lt
    have hz0 := HZ.out
    refine ⟨hLp, ?_⟩
    have hS1 := hS.put (L := W0.heap.size + 1) (by omega) (.loop bz)
    have hA1 := hA.put (L := W0.heap.size + 1) (by omega) (.loop bz)
    have hX1 := hX.put (L := W0.heap.size + 1) (by omega) (.loop bz)
    have hR1 := owns_put hR (L := W0.heap.size + 1) (by omega) (.loop bz)
    have hbw1 := below_put hbw (W0.heap.size + 1) (.loop bz) (by omega)
    have hL1 := hLp.put (.loop bz)
    have hVs : W0.heap.size + 1 < (W.putObj (W0.heap.size + 1) (.loop bz)).heap.size := by simpa using hLt
    generalize W.putObj (W0.heap.size + 1) (.loop bz) = V at hS1 hA1 hX1 hR1 hbw1 hL1 hVs
    have ca := hA1.cell 0
    have HVS := Lib.hid hVs
    clear hS hA hX hR hbw hLp hLt hz0 hVs
    gi_wp2_with fail
    refine ⟨trivial, fun _ => by omega, ?_⟩
    refine (CallsIn.inRound _ (callsIn_wide.2 (counters_any gW h V))).mono ?_
    rintro e V2 ⟨rfl, hV2⟩
    have hVs := HVS.out
    have hz0 := HZ.out
    have hk2 : Below V.heap.size V V2 := by rw [hV2]; exact ((Below.refl _ V).alloc (Nat.le_refl _) _).alloc (by simp) _
    have hz2 : V2.heap.size = V.heap.size + 2 := by rw [hV2]; simp
    have hP2 : HasC V2 V.heap.size 66 #[.pointer (some ⟨gW, 0, none⟩)] := by rw [hV2]; exact (HasC.new V _ _).alloc _
    have hH2 : HasC V2 (V.heap.size + 1) 25 #[nV h] := by rw [hV2]; exact HasC.at_ _ _ _ (by simp)
    have hS2 := hS1.below hk2 hS1.lt
    have hA2 := hA1.below hk2 hA1.lt
    have hX2 := hX1.below hk2 hX1.lt
    have hR2 := owns_same (W := V2) hR1 fun j _ h2 => hk2.block j h2
    have hbw2 : Below gR w V2 := hbw1.trans (hk2.mono (by omega))
    have hL2 : Lp W0.heap.size (.loop bz) V2 := hL1.below hk2 hL1.lt
    obtain ⟨B, hB⟩ : ∃ B, B = V.heap.size := ⟨_, rfl⟩
    rw [← hB] at hP2 hH2 hz2 hVs ⊢
    clear hS1 hA1 hX1 hR1 hbw1 hL1 hk2 hV2 hB HVS ca
    gi_wp2_with fail
    have hWkk := HW.out.lt
    refine range_fnN (by omega) (counters_it B (B + 1) gW gR 0 m cap a b h Lk HM.out h2 h3 hb32 hht) (enters_of Try.func54 (by kernel_rfl) rfl) hL2.2 rfl (fun _ => rfl)
      (fun j W => HasC W B 66 #[.pointer (some ⟨gW, 0, none⟩)] ∧ HasC W (B + 1) 25 #[nV h] ∧ HasC W (w.heap.size + 2) 22 #[.slice ao p c] ∧ HasC W w.heap.size 66 #[.pointer (some ⟨gW, 0, none⟩)] ∧ HasC W (w.heap.size + 1) 25 #[nV x] ∧ W.ownsRow gR 25 1 (.slice (some ⟨gR, 0, none⟩) m cap) m (numL (addK b Lk h x j)) ∧ Below gR w W ∧ Lp W0.heap.size (.loop bz) W)
      (fun _ _ => False)
      (fun j W W' h hb => ⟨h.1.below hb h.1.lt, h.2.1.below hb h.2.1.lt, h.2.2.1.below hb h.2.2.1.lt, h.2.2.2.1.below hb h.2.2.2.1.lt, h.2.2.2.2.1.below hb h.2.2.2.2.1.lt, owns_same h.2.2.2.2.2.1 fun j _ h2 => hb.block j h2, h.2.2.2.2.2.2.1.trans (hb.mono (by have := h.2.2.1.lt; omega)), h.2.2.2.2.2.2.2.below hb h.2.2.2.2.2.2.2.lt⟩)
      (fun j W hj => ⟨hj.1.cell 0, hj.2.1.cell 0, (HW.out.below hj.2.2.2.2.2.2.1 hlt).cell 0, (HW.out.below hj.2.2.2.2.2.2.1 hlt).cell 1, (HW.out.below hj.2.2.2.2.2.2.1 hlt).cell 2, fun hja => by
        have hpl : plC b h j < m := by rw [HM.out]; exact pl_lt h3 hja
        rw [Nat.zero_add, hj.2.2.2.2.2.1.cellAt (plC b h j) (by omega)]
        exact addK_at8 b h3 Lk h x j (by rw [HLEN.out]; exact hpl)⟩) ?_ ?_ ?_ ?_ ?_ ?_
    · rintro j W _ o ⟨hP, hH, hS, hA, hX, hR, hbw, hL⟩ _
      exact ⟨hP.put (by omega) _, hH.put (by omega) _, hS.put (by omega) _, hA.put (by omega) _, hX.put (by omega) _, owns_put hR (by omega) _, below_put hbw _ _ (by omega), hL.putN _ (by omega) (by omega)⟩
    · rintro j W _ o h
      exact h.elim
    · intro o
      have hk : Below V2.heap.size V2 (V2.alloc (.loop o)) := (Below.refl _ V2).alloc (Nat.le_refl _) _
      exact ⟨hP2.below hk hP2.lt, hH2.below hk hH2.lt, hS2.below hk hS2.lt, hA2.below hk hA2.lt, hX2.below hk hX2.lt, by rw [addK_zero]; exact owns_same hR2 fun j _ h2 => hk.block j h2, hbw2.trans (hk.mono (by omega)), hL2.below hk hL2.lt⟩
    · rintro j hj W ⟨hP, hH, hS, hA, hX, hR, hbw, hL⟩ rd2 bz2 hLn
      rw [cnts_at]
      have hja : j < a := by rwa [cnts_len] at hj
      have hpl : plC b h j < m := by rw [HM.out]; exact pl_lt h3 hja
      have hplL : plC b h j < Lk.length := by rw [HLEN.out]; exact hpl
      have hnx := addK_next b h3 Lk h x j _ rfl
      have hcy := addK_at8 b h3 Lk h x j hplL
      have hyt : Lk.getD (plC b h j) 0 ≤ topN := by rw [getD_at hplL]; exact HLE.out _ (List.getElem_mem hplL)
      have HP2 := Lib.hid hP2
      obtain ⟨t, ht⟩ : ∃ t, t = plC b h j := ⟨_, rfl⟩
      rw [← ht] at hnx hcy hyt hpl ⊢
      obtain ⟨y, hy⟩ : ∃ y, y = Lk.getD t 0 := ⟨_, rfl⟩
      rw [← hy] at hnx hcy hyt ⊢
      obtain ⟨z, hz⟩ : ∃ z, z = plusS y x := ⟨_, rfl⟩
      rw [← hz] at hnx
      obtain ⟨xs, hxs⟩ : ∃ xs, xs = numL (addK b Lk h x j) := ⟨_, rfl⟩
      rw [← hxs] at hnx hcy hR
      have T1 := Lib.hid (fun W => together_any y x W hyt hx)
      rw [← hz] at T1
      unfold encA
      have HLN2 := Lib.hid hLn
      have HNX2 := Lib.hid hnx
      have HCY := Lib.hid hcy
      have HZ2 := Lib.hid hz2
      clear hP2 hH2 hS2 hA2 hX2 hR2 hbw2 hL2 hnx hcy hyt hplL hy hz hxs ht hLn hj hz2
      gi_wp2_with fail
      have hLn := HLN2.out
      have hz2 := HZ2.out
      refine ⟨hLn, ?_⟩
      have hP1 := hP.put (L := V2.heap.size) (by omega) (.loop bz2)
      have hH1 := hH.put (L := V2.heap.size) (by omega) (.loop bz2)
      have hS1 := hS.put (L := V2.heap.size) (by omega) (.loop bz2)
      have hA1 := hA.put (L := V2.heap.size) (by omega) (.loop bz2)
      have hX1 := hX.put (L := V2.heap.size) (by omega) (.loop bz2)
      have hR1 := owns_put hR (L := V2.heap.size) (by omega) (.loop bz2)
      have hbw1 := below_put hbw V2.heap.size (.loop bz2) (by omega)
      have hL1 := hL.putN (L := V2.heap.size) (.loop bz2) (by omega) (by omega)
      have hN1 := hLn.put (.loop bz2)
      generalize W.putObj V2.heap.size (.loop bz2) = U at hP1 hH1 hS1 hA1 hX1 hR1 hbw1 hL1 hN1
      have E1 : ∀ i : InC (DrC U), i.w.cell? ⟨w.heap.size, 0, none⟩ = some (.pointer (some ⟨gW, 0, none⟩)) := fun ⟨_, _, h⟩ => by subst h; exact hA1.cell 0
      have E2 : ∀ i : InC (DrC U), i.w.cell? ⟨w.heap.size + 1, 0, none⟩ = some (nV x) := fun ⟨_, _, h⟩ => by subst h; exact hX1.cell 0
      have E3 : ∀ i : InC (DrC U), i.w.cell? ⟨gW, 2, none⟩ = some (.slice (some ⟨gR, 0, none⟩) m cap) := fun ⟨_, _, h⟩ => by subst h; exact (HW.out.below hbw1 hlt).cell 2
      have htm : (t : Int) < (m : Int) := by omega
      have HS1 := Lib.hid hS1
      have HP1 := Lib.hid hP1
      have HH1 := Lib.hid hH1
      have HA1 := Lib.hid hA1
      have HX1 := Lib.hid hX1
      have HR1 := Lib.hid hR1
      have HB1 := Lib.hid hbw1
      have HL1 := Lib.hid hL1
      have HN1 := Lib.hid hN1
      clear hP hH hS hA hX hR hbw hL hLn hz2 hS1 hP1 hH1 hA1 hX1 hR1 hbw1 hL1 hN1
      gi_wp2_with fail
      refine region_tailIn 10 (DrC U) (by kernel_rfl) (by kernel_rfl) (by kernel_rfl) ⟨1, rfl⟩ ?_
      intro hne
      simp only [List.take_succ_cons, List.take_zero]
      repeat (go_big_quiet_step (((with_reducible refine (T1.out _).mono ?_); rintro e w' ⟨rfl, rfl⟩; exact ⟨rfl, ⟨_, InC.h _⟩, rfl⟩)))
      refine wpQuiet_nil ?_
      intro i
      simp only [List.drop_succ_cons, List.drop_zero]
      obtain ⟨V5, dn, hV5⟩ := i
      have hP5 : HasC V5 B 66 #[.pointer (some ⟨gW, 0, none⟩)] := by rw [hV5]; exact HP1.out
      have hH5 : HasC V5 (B + 1) 25 #[nV h] := by rw [hV5]; exact HH1.out
      have hS5 : HasC V5 (w.heap.size + 2) 22 #[.slice ao p c] := by rw [hV5]; exact HS1.out
      have hA5 : HasC V5 w.heap.size 66 #[.pointer (some ⟨gW, 0, none⟩)] := by rw [hV5]; exact HA1.out
      have hX5 : HasC V5 (w.heap.size + 1) 25 #[nV x] := by rw [hV5]; exact HX1.out
      have hR5 : V5.ownsRow gR 25 1 (.slice (some ⟨gR, 0, none⟩) m cap) m xs := owns_same HR1.out fun k' _ _ => by rw [hV5]; rfl
      have hbw5 : Below gR w V5 := by rw [hV5]; exact bel_drewN HB1.out dn
      have hL5 : Lp W0.heap.size (.loop bz) V5 := by rw [hV5]; exact HL1.out
      have hN5 : Ln V2.heap.size (.loop bz2) V5 := by rw [hV5]; exact HN1.out
      have c5 : V5.cell? ⟨gR, t, none⟩ = some (nV y) := by rw [hR5.cellAt t (by omega)]; exact HCY.out
      have f5 : V5.frozen? ⟨gR, t, none⟩ = false := hR5.frozenAt t
      have HR5 := Lib.hid hR5
      dsimp only
      clear E1 E2 E3 hV5 hne hR5
      gi_wp2_with fail
      have hz2 := HZ2.out
      refine ⟨hN5.set _ _ (by simp; omega), hP5.far _ _ (by simp; omega), hH5.far _ _ (by simp; omega), hS5.far _ _ (by simp; omega), hA5.far _ _ (by simp; omega), hX5.far _ _ (by simp; omega), ?_, hbw5.setCell (p := ⟨gR, t, none⟩) (Nat.le_refl _) _, hL5.set _ _ (by simp; omega) (by simp; omega)⟩
      rw [← HNX2.out]
      exact (HR5.out.stored t (nV z)).1
    · rintro W ⟨hP, hH, hS, hA, hX, hR, hbw, hL⟩
      rw [cnts_len, addK_full a b h3 Lk h x (by rw [HLEN.out, HM.out]), ← HNX.out] at hR
      gi_wp2_with fail
      exact ⟨hL, hS, hA, hX, hR, hbw⟩
    · rintro j W h
      exact h.elim
  · rintro W ⟨hS, hA, hX, hR, hbw⟩ hK
    rw [List.take_of_length_le (Nat.le_refl _)] at hR
    gi_wp2_with fail
    refine ⟨by simp, .inl ⟨_, _, rfl, run_takeDeferred (b := W0.heap.size) hK, ?_⟩⟩
    refine ⟨_, results_none rfl _ _ _, ⟨_, rfl⟩, owns_put hR (by omega) _, below_put hbw _ _ (by omega)⟩
  · rintro j W h
    exact h.elim
end Go.Proofs.Ythhlofcmhnkcmaa
