/- The page's own answers for layer 8: Add. -/
import Derived.Test.YthhlofcmhnkcmaaCRef5
namespace Go.Proofs.Ythhlofcmhnkcmaa
open Go.RowKit

/-- A number more, in the first k rows. -/
def addK (c : Nat) (L : List Nat) (h n k : Nat) : List Nat := (List.range L.length).map fun i => if i / c < k ∧ colC c (i / c) h = i % c then plusS (L.getD i 0) n else L.getD i 0
theorem addK_len (c : Nat) (L : List Nat) (h n k : Nat) : (addK c L h n k).length = L.length := by simp [addK]
theorem addK_at (c : Nat) (L : List Nat) (h n k i : Nat) (hi : i < (addK c L h n k).length) : (addK c L h n k)[i] = if i / c < k ∧ colC c (i / c) h = i % c then plusS (L.getD i 0) n else L.getD i 0 := by simp [addK]
theorem addK_zero (c : Nat) (L : List Nat) (h n : Nat) : addK c L h n 0 = L := by
  refine List.ext_getElem (addK_len ..) fun i h1 h2 => ?_
  rw [addK_at, if_neg (fun e => Nat.not_lt_zero _ e.1), getD_at h2]
theorem addK_full (r c : Nat) (hc : 0 < c) (L : List Nat) (h n : Nat) (hl : L.length = r * c) : addK c L h n r = addC c L h n := by
  unfold addK addC
  refine List.map_congr_left fun i hi => ?_
  have hi : i < r * c := by rw [← hl]; exact List.mem_range.1 hi
  have : i / c < r := (Nat.div_lt_iff_lt_mul hc).2 hi
  by_cases hh : colC c (i / c) h = i % c
  · rw [if_pos hh, if_pos ⟨this, hh⟩]
  · rw [if_neg hh, if_neg (fun e => hh e.2)]
theorem addK_idx (c : Nat) (hc : 0 < c) (L : List Nat) (h n k : Nat) (hi : k * c + colC c k h < (addK c L h n k).length) : (addK c L h n k)[k * c + colC c k h] = L.getD (k * c + colC c k h) 0 := by
  rw [addK_at, dm_div (col_lt hc k h), if_neg (by omega)]
theorem addK_step (c : Nat) (hc : 0 < c) (L : List Nat) (h n k : Nat) : addK c L h n (k + 1) = (addK c L h n k).set (k * c + colC c k h) (plusS (L.getD (k * c + colC c k h) 0) n) := by
  refine List.ext_getElem (by simp [addK_len]) fun i h1 h2 => ?_
  have hd := dm_div (q := k) (col_lt hc k h)
  have hm := dm_mod (q := k) (col_lt hc k h)
  rw [addK_at, List.getElem_set]
  by_cases hh : k * c + colC c k h = i
  · rw [if_pos hh, if_pos]
    · rw [hh]
    · rw [← hh, hd, hm]
      exact ⟨by omega, rfl⟩
  · rw [if_neg hh, addK_at]
    by_cases h3 : colC c (i / c) h = i % c
    · have h4 : i / c ≠ k := fun e => hh (by rw [← e, h3]; have := Nat.div_add_mod i c; rw [Nat.mul_comm] at this; exact this)
      by_cases h5 : i / c < k
      · rw [if_pos ⟨by omega, h3⟩, if_pos ⟨h5, h3⟩]
      · rw [if_neg (fun e => by omega), if_neg (fun e => h5 e.1)]
    · rw [if_neg (fun e => h3 e.2), if_neg (fun e => h3 e.2)]
theorem numL_set (L : List Nat) (j z : Nat) : (numL L).set j (nV z) = numL (L.set j z) := by
  simp [numL, List.map_set]
set_option maxHeartbeats 4000000 in
set_option maxRecDepth 100000 in
theorem pAdd8_any (r c : Int) (L : List Nat) (v : Value) (h x : Nat) (w : World) (hv : NumSl w v L) (hh : h ≤ topN) (hx : x ≤ topN) :
    Calls Try.prog 15 #[cV r c v, nV h, nV x] w fun e w' => CmX w.heap.size (addCm r c L h x) e w' ∧ Below w.heap.size w w' := by
  obtain ⟨W0, hW0⟩ : ∃ W0, W0 = (w.alloc (Obj.cells #[.int .i64 r, .int .i64 c, v] 24)).alloc (Obj.cells #[.int .i64 0, .int .i64 0, .slice none 0 0] 24) := ⟨_, rfl⟩
  have hz0 : W0.heap.size = w.heap.size + 2 := by rw [hW0]; simp
  have hb0 : Below w.heap.size w W0 := by rw [hW0]; exact ((Below.refl w.heap.size w).alloc (Nat.le_refl _) _).alloc (by simp) _
  have hx0 : HasC W0 w.heap.size 24 #[.int .i64 r, .int .i64 c, v] := by rw [hW0]; exact (HasC.new w _ _).alloc _
  have hr0 : HasC W0 (w.heap.size + 1) 24 #[.int .i64 0, .int .i64 0, .slice none 0 0] := by rw [hW0]; exact HasC.at_ _ _ _ (by simp)
  have R1 := Lib.hid (pRight8_any r c L v W0 (hv.below hb0))
  have HBF := Lib.hid (hb0.alloc hb0.size (Obj.cells #[.int .i64 r, .int .i64 c, v] 24))
  have HXF := Lib.hid (hx0.alloc (Obj.cells #[.int .i64 r, .int .i64 c, v] 24))
  have HRF := Lib.hid (hr0.alloc (Obj.cells #[.int .i64 r, .int .i64 c, v] 24))
  have hzV : w.heap.size + 3 = (W0.alloc (Obj.cells #[.int .i64 r, .int .i64 c, v] 24)).heap.size := by rw [World.size_alloc]; omega
  have HZV := Lib.hid hzV
  have HSV := Lib.hid hv
  have K1 := Lib.hid (fun W (row : Int) (hs : NumSl W v L) => pCol_any r c L v row h W hs hh)
  have hshape := hv.shape
  obtain ⟨ao, cp, hvv, _⟩ := hshape
  obtain ⟨m, hm⟩ : ∃ m, m = L.length := ⟨_, rfl⟩
  have HM := Lib.hid hm
  obtain ⟨A, hA⟩ : ∃ A : Cm → Ending → World → Prop, A = CmX w.heap.size := ⟨_, rfl⟩
  have HA := Lib.hid hA
  rw [← hA]
  rw [← hm] at hvv
  subst hvv
  obtain ⟨V, hV⟩ : ∃ V, V = W0.alloc (Obj.cells #[.int .i64 r, .int .i64 c, .slice ao m cp] 24) := ⟨_, rfl⟩
  rw [← hV] at HBF HXF HRF HZV R1
  have x2 := HXF.out.cell 2
  have HV := Lib.hid hV
  subst hW0
  clear hb0 hx0 hr0 hz0 hzV hv hm hA hV hh
  unfold cV at R1 K1 ⊢
  cases hq1 : rightC r c L with
  | false =>
    have hmg : addCm r c L h x = badC := by unfold addCm; rw [hq1]; rfl
    rw [hq1] at R1
    have HG := Lib.hid hmg
    have r0 := HRF.out.cell 0
    have r1 := HRF.out.cell 1
    have r2 := HRF.out.cell 2
    have z0 := HRF.out.frozen 0
    have z1 := HRF.out.frozen 1
    have z2 := HRF.out.frozen 2
    clear hq1 hmg
    go_enter Try.func15, Try.ntmps15
    go_wp2_with fail
    with_reducible refine (R1.out).mono ?_
    rintro e w1 ⟨rfl, hw1⟩
    rw [hw1]
    clear hw1 w1
    go_wp2_with fail
    refine bodyPost_ret (results_cms rfl _ _ (w.heap.size + 1) _ _ _ rfl ((((HRF.out.set 0 (.int .i64 0)).set 1 (.int .i64 0)).set 2 (.slice none 0 0)).eq (cs' := #[.int .i64 0, .int .i64 0, .slice none 0 0]) rfl)) rfl ?_
    rw [HA.out, HG.out]
    exact ⟨⟨_, rfl, NumF.nil _ _⟩, ((HBF.out.setCell (p := ⟨w.heap.size + 1, 0, none⟩) (by simp) _).setCell (p := ⟨w.heap.size + 1, 1, none⟩) (by simp) _).setCell (p := ⟨w.heap.size + 1, 2, none⟩) (by simp) _⟩
  | true =>
    rw [hq1] at R1
    obtain ⟨a, b, rfl, rfl, ha1, ha4, hb, hlen⟩ := rightC_nat hq1
    have hb0 : 0 < b := by omega
    have hb32 : b ≤ 32 := by omega
    have hmg : addCm (a : Int) (b : Int) L h x = (((a : Int), (b : Int), addC b L h x), 0) := by
      unfold addCm
      rw [hq1, if_pos rfl, Int.toNat_natCast]
    have hcol : ∀ k : Nat, k < a → colCm (a : Int) (b : Int) L (k : Int) h = colC b k h := fun k hk => by unfold colCm; rw [hq1, decide_eq_true (by omega), decide_eq_true (by omega)]; rfl
    have hab : a * b ≤ 128 := Nat.mul_le_mul ha4 hb32
    have hm128 : m ≤ 128 := by have := HM.out; omega
    have HG := Lib.hid hmg
    have HCOL := Lib.hid hcol
    have HLEN := Lib.hid hlen
    have HAB := Lib.hid hab
    have hsrc := SrcN.of_num (HSV.out.below HBF.out)
    have hown0 : V.ownsRow V.heap.size 25 1 (.slice none 0 0) 0 [] := ⟨rfl, .inl ⟨rfl, rfl⟩⟩
    have HSRC := Lib.hid hsrc
    have HOW0 := Lib.hid hown0
    clear hq1 hmg hlen hb hcol hab hsrc hown0
    go_enter Try.func15, Try.ntmps15
    go_wp2_with fail
    with_reducible refine (R1.out).mono ?_
    rintro e w1 ⟨rfl, hw1⟩
    rw [hw1]
    clear hw1 w1
    go_wp2_with (refine wpList_appN V rfl (.tmp 15) (.tmp 17) rfl V.heap.size (.slice none 0 0) 0 [] rfl HOW0.out (.slice ao m cp) L.length (numL L) rfl HSRC.out (by have := HM.out; omega) (Nat.le_refl _) ?_; intro v' V1 hown1 hgrow1)
    have hown2 : V1.ownsRow V.heap.size 25 1 v' L.length (numL L) := by rw [Nat.zero_add, List.nil_append] at hown1; exact hown1
    have hb1 : Below V.heap.size V V1 := (Below.refl _ _).grown hgrow1 (Nat.le_refl _) (fun k hk => by cases hk)
    have hlen0 : 0 < L.length := by rw [HLEN.out]; exact Nat.mul_pos (by omega) hb0
    obtain ⟨gg, cc, rfl, hgg, hgl⟩ := owns_some hown2 hlen0
    rw [← HM.out] at hown2 ⊢
    have hxV := HXF.out
    have hbV := HBF.out
    clear hown1 hgrow1 x2 hlen0
    go_loopw [9] (fun i wr => ∃ k : Nat, k ≤ a ∧ i = .int .i64 (k : Int) ∧ wr.ownsRow V.heap.size 25 1 (.slice (some ⟨gg, 0, none⟩) m cc) m (numL (addK b L h x k)) ∧ Below V.heap.size V wr) (fun i _ => a - (intOf i).toNat)
    case atStart => exact ⟨0, Nat.zero_le _, rfl, by rw [addK_zero]; exact hown2, hb1⟩
    case round =>
      obtain ⟨k, hk, rfl, hown, hbw⟩ := hrel
      clear hown2 hb1
      have hx0 := hxV.below hbw hxV.lt
      have k0 := hx0.cell 0
      by_cases hlt : k < a
      · have hklt : (k : Int) < (a : Int) := by omega
        have hcl := col_lt hb0 k h
        have hkk : (k + 1) * b ≤ a * b := Nat.mul_le_mul_right _ hlt
        have hab : a * b ≤ 128 := HAB.out
        rw [Nat.add_mul, Nat.one_mul] at hkk
        obtain ⟨d, hd⟩ : ∃ d, d = colC b k h := ⟨_, rfl⟩
        obtain ⟨p, hp⟩ : ∃ p, p = k * b := ⟨_, rfl⟩
        have hidx : p + d < L.length := by rw [HLEN.out, hp, hd]; omega
        have C1 := Lib.hid (fun W hs => K1.out W (k : Int) hs)
        rw [HCOL.out k hlt, ← hd] at C1
        have hpw : IntKind.i64.wrap ((k : Int) * (b : Int)) = (p : Int) := by
          have e : ((k : Int) * (b : Int)) = (p : Int) := by rw [hp]; push_cast; rfl
          rw [e]; exact wrap_ki _ (by omega) (by omega)
        obtain ⟨i, hi⟩ : ∃ i, i = p + d := ⟨_, rfl⟩
        have hiw : IntKind.i64.wrap ((p : Int) + (d : Int)) = (i : Int) := by rw [wrap_ki _ (by omega) (by omega)]; omega
        have him : i < m := by have := HM.out; omega
        obtain ⟨y, hy⟩ : ∃ y, y = L.getD i 0 := ⟨_, rfl⟩
        have hki : k * b + colC b k h = i := by rw [hi, hp, hd]
        have hcy : (numL (addK b L h x k))[i]? = some (nV y) := by
          have hl : k * b + colC b k h < (addK b L h x k).length := by rw [addK_len, hki, hi]; exact hidx
          have e := addK_idx b hb0 L h x k hl
          simp only [hki] at e hl
          rw [numL, List.getElem?_map, List.getElem?_eq_getElem hl, e, hy]
          rfl
        have hstep : (numL (addK b L h x k)).set i (nV (plusS y x)) = numL (addK b L h x (k + 1)) := by
          rw [numL_set, addK_step b hb0, hki, ← hy]
        obtain ⟨z, hz⟩ : ∃ z, z = plusS y x := ⟨_, rfl⟩
        have hP := fun W => pPlus_any y x W hx
        rw [← hz] at hP hstep
        obtain ⟨xs, hxs⟩ : ∃ xs, xs = numL (addK b L h x k) := ⟨_, rfl⟩
        rw [← hxs] at hown hcy hstep
        obtain ⟨D, hD0, hDon, hDk⟩ : ∃ D : World → Prop, D wr ∧ (∀ W W', D W → Below W.heap.size W W' → D W') ∧ ∀ W, D W → Below wr.heap.size wr W :=
          ⟨fun W => Below wr.heap.size wr W, Below.refl _ _, fun W W' h hb => h.trans (hb.mono h.size), fun _ h => h⟩
        have E1 : ∀ i : InC D, i.w.cell? ⟨w.heap.size, 0, none⟩ = some (.int .i64 (a : Int)) := fun i => (hx0.below (hDk _ i.h) hx0.lt).cell 0
        have E2 : ∀ i : InC D, i.w.cell? ⟨w.heap.size, 1, none⟩ = some (.int .i64 (b : Int)) := fun i => (hx0.below (hDk _ i.h) hx0.lt).cell 1
        have E3 : ∀ i : InC D, i.w.cell? ⟨w.heap.size, 2, none⟩ = some (.slice ao m cp) := fun i => (hx0.below (hDk _ i.h) hx0.lt).cell 2
        have HD0 := Lib.hid (hDon _ _ hD0 ((Below.refl _ _).drew))
        have HDON := Lib.hid hDon
        have HDK := Lib.hid hDk
        have HBW := Lib.hid hbw
        have HOW := Lib.hid hown
        have HPL := Lib.hid hP
        have HST := Lib.hid hstep
        have HCY := Lib.hid hcy
        have HNS := Lib.hid (fun W (hd : D W) => HSV.out.below (hbV.trans ((hbw.trans ((hDk W hd).mono hbw.size)).mono hbV.size)))
        clear hD0 hDon hDk hcl hkk hab hd hp hidx hi hy hki hcy hstep hz hP hxs hown hbw hx0
        go_wp2_with fail
        refine region_class D (by kernel_rfl) (by kernel_rfl) HD0.out ?_
        intro hne
        repeat (go_big_quiet_step (((with_reducible refine (C1.out _ ?_).mono ?_); exact HNS.out _ (InC.h _); rintro e w' ⟨rfl, hw⟩; exact ⟨rfl, ⟨_, HDON.out _ _ (InC.h _) hw⟩, rfl⟩)))
        refine wpQuiet_nil ?_
        intro j
        have hd3 := HDK.out _ j.h
        obtain ⟨W3, hW3⟩ : ∃ W3, j.w = W3 := ⟨_, rfl⟩
        rw [hW3] at hd3 ⊢
        have hown3 : W3.ownsRow V.heap.size 25 1 (.slice (some ⟨gg, 0, none⟩) m cc) m xs := owns_same HOW.out fun k' _ h2 => hd3.block k' h2
        have hb3 : Below V.heap.size V W3 := HBW.out.trans (hd3.mono HBW.out.size)
        have c3 : W3.cell? ⟨gg, i, none⟩ = some (nV y) := by rw [hown3.cellAt i (by omega)]; exact HCY.out
        have f3 : W3.frozen? ⟨gg, i, none⟩ = false := hown3.frozenAt i
        have HO3 := Lib.hid hown3
        have HB3 := Lib.hid hb3
        clear hW3 E1 E2 E3 hne k0 hown3 hb3 hd3 hpw hiw
        go_wp2_with fail
        with_reducible refine (HPL.out _).mono ?_
        rintro e w1 ⟨rfl, hw1⟩
        rw [← hw1]
        clear hw1 w1
        go_wp2_with fail
        go_roundw
        case rel => exact ⟨k + 1, by omega, by go_num, by rw [← HST.out]; exact (HO3.out.stored i (nV z)).1, HB3.out.setCell (by omega) _⟩
        case measure => simp [intOf]; omega
      · obtain rfl : k = a := by omega
        have hnk : ¬ (k : Int) < (k : Int) := by omega
        have hAL : (addC b L h x).length = m := by rw [HM.out]; simp [addC]
        rw [addK_full k b hb0 L h x HLEN.out] at hown
        have hr := HRF.out.below hbw HRF.out.lt
        have hf : NumF V.heap.size wr (.slice (some ⟨gg, 0, none⟩) m cc) (addC b L h x) := numF_of_owns (by rw [hAL]; exact hown)
        have HF := Lib.hid hf
        have HR4 := Lib.hid hr
        have HB4 := Lib.hid (hbV.trans (hbw.mono hbV.size))
        have k1 := hx0.cell 1
        have z0 := hr.frozen 0
        have z1 := hr.frozen 1
        have z2 := hr.frozen 2
        have r0 := hr.cell 0
        have r1 := hr.cell 1
        have r2' := hr.cell 2
        clear hown hf hx0 hr hbw hAL
        go_wp2_with fail
        refine bodyPost_ret (results_cms rfl _ _ (w.heap.size + 1) _ _ _ rfl ((((HR4.out.set 0 (.int .i64 (k : Int))).set 1 (.int .i64 (b : Int))).set 2 (.slice (some ⟨gg, 0, none⟩) m cc)).eq (cs' := #[.int .i64 (k : Int), .int .i64 (b : Int), .slice (some ⟨gg, 0, none⟩) m cc]) rfl)) rfl ?_
        rw [HA.out, HG.out]
        have hzV := HZV.out
        refine ⟨⟨_, rfl, ?_⟩, ((HB4.out.setCell (p := ⟨w.heap.size + 1, 0, none⟩) (by simp) _).setCell (p := ⟨w.heap.size + 1, 1, none⟩) (by simp) _).setCell (p := ⟨w.heap.size + 1, 2, none⟩) (by simp) _⟩
        refine (HF.out.keep (by simp) fun j h1 h2 => ?_).mono (by omega)
        rw [Below.heap_setCell _ _ _ j (by simp; omega), Below.heap_setCell _ _ _ j (by simp; omega), Below.heap_setCell _ _ _ j (by simp; omega)]
end Go.Proofs.Ythhlofcmhnkcmaa
