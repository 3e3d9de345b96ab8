/- Package hll: pairs of ranks made one register each: join. -/
import Derived.Test.YtnljepnmajcmgaaHCAf
namespace Go.Proofs.Ytnljepnmajcmgaa
open Go.RowKit Go.Shelf
attribute [local go_sem] Oper.semAt_some

/-- Ranks, as values. -/
def rowB (R : List Nat) : List Value := R.map fun (r : Nat) => .int .u8 (r : Int)
theorem rowB_len (R : List Nat) : (rowB R).length = R.length := by simp [rowB]
/-- What owns a row keeps it where its block is as it was. -/
theorem owns_same {w W : World} {B : Nat} {e : TypeId} {sz : Nat} {v : Value} {n : Nat} {xs : List Value} (h : w.ownsRow B e sz v n xs) (hb : ∀ k, B ≤ k → k < w.heap.size → W.heap[k]? = w.heap[k]?) : W.ownsRow B e sz v n xs := by
  rcases h.2 with ⟨hv, h0⟩ | ⟨g, cap, cur, hv, hB, hg, h1⟩
  · exact ⟨h.1, .inl ⟨hv, h0⟩⟩
  · exact ⟨h.1, .inr ⟨g, cap, cur, hv, hB, (hb g hB (Array.getElem?_eq_some_iff.1 hg).1).trans hg, h1⟩⟩
theorem owns_block {w : World} {B : Nat} {e : TypeId} {sz : Nat} {v : Value} {n : Nat} {xs : List Value} (h : w.ownsRow B e sz v n xs) : ∀ k, v.ownBlock = some k → B ≤ k := by
  intro k hk
  rcases h.2 with ⟨hv, _⟩ | ⟨g, cap, cur, hv, hB, _⟩
  · rw [hv] at hk; cases hk
  · rw [hv] at hk; cases hk; exact hB
theorem owns_shape {w : World} {B : Nat} {e : TypeId} {sz : Nat} {v : Value} {n : Nat} {xs : List Value} (h : w.ownsRow B e sz v n xs) : ∃ a c, v = .slice a n c := by
  rcases h.2 with ⟨hv, h0⟩ | ⟨g, cap, cur, hv, _⟩
  · exact ⟨none, 0, by rw [hv, h0]⟩
  · exact ⟨_, _, hv⟩
set_option maxHeartbeats 1000000 in
set_option maxRecDepth 100000 in
/-- Two texts, side by side. -/
theorem pairs_any (s t : ByteArray) (st : Nat) (w : World) :
    Calls Try.prog 46 #[.string s, .string t, .int .i64 (st : Int)] w fun e w' => e = .returned (.func (.func 51) #[] #[.pointer (some ⟨w.heap.size, 0, none⟩), .pointer (some ⟨w.heap.size + 1, 0, none⟩), .pointer (some ⟨w.heap.size + 2, 0, none⟩)]) ∧
      w' = ((w.alloc (.cells #[.string s] 9)).alloc (.cells #[.string t] 9)).alloc (.cells #[.int .i64 (st : Int)] 3) := by
  go_enter Try.func46, Try.ntmps46
  go_wp2_with fail
  go_ret
  exact ⟨rfl, rfl⟩

set_option maxHeartbeats 4000000 in
set_option maxRecDepth 100000 in
theorem join_in (n : Nat) (h5 : 5 ≤ n) (gW : Nat) (b : Int) (s : ByteArray) (caps : Array Value) (L : List (Nat × Nat)) (G : World → Prop) (hit : IterOk 51 caps encP L G)
    (fn : Nat) (Fm : Nat → Nat → Nat) (hfn : ∀ p ∈ L, ∀ W, Calls Try.prog fn #[.int .u8 (p.1 : Int), .int .u8 (p.2 : Int)] W fun e w' => e = .returned (.int .u8 (Fm p.1 p.2 : Int)) ∧ w' = W)
    (heg : ∀ args w, (callFunc fn args).run Try.prog w = .ok (.enter fn args) w)
    (w : World) (hW : WkC w gW b s (.slice none 0 0) (.func (.func fn) #[] #[])) (hG : ∀ W, (∀ j, j < w.heap.size → j ≠ gW → W.heap[j]? = w.heap[j]?) → G W) (hLn : L.length ≤ 1000) :
    CallsIn Fence.wide n Try.prog 45 #[.pointer (some ⟨gW, 0, none⟩), .func (.func 51) #[] caps] w fun e w' => (∃ u, e = .returned u) ∧ (∃ v, WkC w' gW b s v (.func (.func fn) #[] #[]) ∧ w'.ownsRow w.heap.size 5 1 v L.length (rowB (L.map fun p => Fm p.1 p.2))) ∧ (∀ j, j < w.heap.size → j ≠ gW → w'.heap[j]? = w.heap[j]?) ∧ w.heap.size ≤ w'.heap.size ∧ Below gW w w' := by
  obtain ⟨i0, hi, hz0', hz1, hz2⟩ := partsE infoU8
  have i1 := Lib.hid hi
  have i2 := Lib.hid hz0'
  have i3 := Lib.hid hz1
  have i4 := Lib.hid hz2
  clear hi hz0' hz1 hz2
  have hgW := hW.lt
  have HFN := Lib.hid hfn
  have HGG := Lib.hid hG
  clear hfn hG
  refine callsIn_of_wp_marks Try.func45 rfl trivial ?_ rfl
  simp only [Try.ntmps45, List.size_toArray, List.length_cons, List.length_nil, Nat.reduceAdd, Nat.reduceSub, Array.replicate_succ, Array.replicate_zero, List.push_toArray, List.append_toArray, List.nil_append, List.cons_append]
  gi_wp2_with fail
  obtain ⟨W0, hW0⟩ : ∃ W0, W0 = w.alloc (.cells #[.pointer (some ⟨gW, 0, none⟩)] 77) := ⟨_, rfl⟩
  have hz0 : W0.heap.size = w.heap.size + 1 := by rw [hW0]; simp
  have hk0 : Below w.heap.size w W0 := by rw [hW0]; exact (Below.refl _ w).alloc (Nat.le_refl _) _
  have hA0 : HasC W0 w.heap.size 77 #[.pointer (some ⟨gW, 0, none⟩)] := by rw [hW0]; exact HasC.new w _ _
  have hWk0 := hW.below hk0 hgW
  rw [← hW0]
  clear hW0
  refine range_fn (by omega) hit (enters_of Try.func51 (by kernel_rfl) rfl) rfl (fun _ => rfl)
    (fun k W => HasC W w.heap.size 77 #[.pointer (some ⟨gW, 0, none⟩)] ∧ (∃ v, WkC W gW b s v (.func (.func fn) #[] #[]) ∧ W.ownsRow (W0.heap.size + 2) 5 1 v k (rowB ((L.take k).map fun p => Fm p.1 p.2))) ∧ (∀ j, j < w.heap.size → j ≠ gW → W.heap[j]? = w.heap[j]?) ∧ Below gW w W ∧ W0.heap.size ≤ W.heap.size)
    (fun _ _ => False)
    (fun k W W' h hb => ⟨h.1.below hb h.1.lt, h.2.1.imp fun v hv => ⟨hv.1.below hb hv.1.lt, owns_same hv.2 fun j _ h2 => hb.block j h2⟩, fun j h1 h2 => (hb.block j (by have := h.2.2.2.2; omega)).trans (h.2.2.1 j h1 h2), h.2.2.2.1.trans (hb.mono (by have := h.2.2.2.2; omega)), Nat.le_trans h.2.2.2.2 hb.size⟩)
    (fun k W h => HGG.out W h.2.2.1) ?_ ?_ ?_ ?_ ?_ ?_
  · rintro k W _ o ⟨hA, ⟨v, hWk, hown⟩, hoth, hbw, hsz⟩ hl
    refine ⟨hA.put (by omega) _, ⟨v, hWk.put (by omega) _, owns_same hown fun j h1 h2 => World.putObj_heap_other (by omega)⟩, fun j h1 h2 => (World.putObj_heap_other (by omega)).trans (hoth j h1 h2), below_put hbw _ _ (by omega), by simpa using hsz⟩
  · rintro j W _ o h
    exact h.elim
  · intro o
    have hk : Below W0.heap.size W0 ((W0.alloc (.deferred (some []))).alloc (.loop o)) := ((Below.refl _ W0).alloc (Nat.le_refl _) _).alloc (by simp) _
    refine ⟨hA0.below hk hA0.lt, ⟨.slice none 0 0, hWk0.below hk hWk0.lt, by rw [List.take_zero]; exact ⟨rfl, .inl ⟨rfl, rfl⟩⟩⟩, fun j h1 h2 => (hk.block j (by omega)).trans (hk0.block j h1), (hk0.trans (hk.mono hk0.size)).mono (Nat.le_of_lt hgW), hk.size⟩
  · rintro k hk W ⟨hA, ⟨v, hWk, hown⟩, hoth, hbw, hsz⟩ rd bz hLp
    have hFk := HFN.out _ (List.getElem_mem hk)
    have hnext : rowB ((L.take (k + 1)).map fun p => Fm p.1 p.2) = rowB ((L.take k).map fun p => Fm p.1 p.2) ++ [.int .u8 ((Fm L[k].1 L[k].2 : Nat) : Int)] := by
      rw [List.take_succ_eq_append_getElem hk, List.map_append]
      simp [rowB]
    obtain ⟨z, hz⟩ : ∃ z, z = Fm L[k].1 L[k].2 := ⟨_, rfl⟩
    obtain ⟨x1, hx1⟩ : ∃ x, x = L[k].1 := ⟨_, rfl⟩
    obtain ⟨x2, hx2⟩ : ∃ x, x = L[k].2 := ⟨_, rfl⟩
    obtain ⟨xs, hxs⟩ : ∃ xs, xs = rowB ((L.take k).map fun p => Fm p.1 p.2) := ⟨_, rfl⟩
    unfold encP
    rw [← hxs, ← hz] at hnext
    rw [← hxs] at hown
    rw [← hz, ← hx1, ← hx2] at hFk
    rw [← hx1, ← hx2]
    have HNX := Lib.hid hnext
    have HFK := Lib.hid hFk
    have HLP := Lib.hid hLp
    have HZ := Lib.hid hz0
    have HSZ := Lib.hid hsz
    have HGW := Lib.hid hgW
    have HOWN := Lib.hid hown
    have hkb : k < 1000 := by omega
    clear hnext hFk hLp hz0 hz hx1 hx2 hxs hA0 hWk0 hk0 hW hown hsz
    gi_wp2_with fail
    have hLp := HLP.out
    have hLt := hLp.lt
    have hz0 := HZ.out
    refine ⟨hLp, ?_⟩
    have hA1 := hA.put (L := W0.heap.size + 1) (by omega) (.loop bz)
    have hWk1 := hWk.put (L := W0.heap.size + 1) (by omega) (.loop bz)
    have hown1 := owns_same (W := W.putObj (W0.heap.size + 1) (.loop bz)) HOWN.out (fun j h1 h2 => World.putObj_heap_other (by omega))
    have hoth1 : ∀ j, j < w.heap.size → j ≠ gW → (W.putObj (W0.heap.size + 1) (.loop bz)).heap[j]? = w.heap[j]? := fun j h1 h2 => (World.putObj_heap_other (by omega)).trans (hoth j h1 h2)
    have hbw1 := below_put hbw (W0.heap.size + 1) (.loop bz) (by omega)
    have hL1 := hLp.put (.loop bz)
    have hVs : W0.heap.size + 1 < (W.putObj (W0.heap.size + 1) (.loop bz)).heap.size := by simpa using hLt
    generalize W.putObj (W0.heap.size + 1) (.loop bz) = V at hA1 hWk1 hown1 hoth1 hbw1 hL1 hVs
    obtain ⟨D, hDk, hDd⟩ : ∃ D : World → Prop, (∀ W, D W → W.cell? ⟨w.heap.size, 0, none⟩ = some (.pointer (some ⟨gW, 0, none⟩)) ∧ W.cell? ⟨gW, 2, none⟩ = some v ∧ W.cell? ⟨gW, 3, none⟩ = some (.func (.func fn) #[] #[])) ∧ (∀ W, HasC W w.heap.size 77 #[.pointer (some ⟨gW, 0, none⟩)] → WkC W gW b s v (.func (.func fn) #[] #[]) → D W) :=
      ⟨_, fun _ h => h, fun W h1 h2 => ⟨h1.cell 0, h2.cell 2, h2.cell 3⟩⟩
    have E1 : ∀ i : InC D, i.w.cell? ⟨w.heap.size, 0, none⟩ = some (.pointer (some ⟨gW, 0, none⟩)) := fun i => (hDk _ i.h).1
    have E2 : ∀ i : InC D, i.w.cell? ⟨gW, 2, none⟩ = some v := fun i => (hDk _ i.h).2.1
    have E3 : ∀ i : InC D, i.w.cell? ⟨gW, 3, none⟩ = some (.func (.func fn) #[] #[]) := fun i => (hDk _ i.h).2.2
    have HDD := Lib.hid hDd
    have HOW1 := Lib.hid hown1
    have HVS := Lib.hid hVs
    clear hA hWk hoth hbw hLp hLt hz0 hDk hDd hown1 hVs HLP HOWN
    gi_wp2_with fail
    refine region_heldIn 14 [0, 1, 2, 3, 4, 5, 6, 7, 8, 9, 10] [11, 12, 13] D (by kernel_rfl) (FOk.round _ (by kernel_rfl)) (by kernel_rfl) (by intro c a d v w h; cases d <;> exact h) (HDD.out _ hA1 hWk1) ?_
    intro hne
    simp only [pickL, nthL]
    repeat (go_big_quiet_step (fail))
    refine wpQuiet_nil ?_
    intro K hK
    gi_wp2_with fail
    refine ⟨trivial, fun _ => by omega, ?_⟩
    refine (CallsIn.inRound _ (callsIn_wide.2 (HFK.out _))).mono ?_
    rintro e V3 ⟨rfl, rfl⟩
    gi_wp2_with fail
    refine hK.out _ _ ⟨⟨V.drew, HDD.out _ hA1 hWk1⟩, rfl⟩ ?_
    intro K2 hK2
    clear hK
    gi_wp2_with fail
    have hA2 := hA1.alloc (.cells #[.int .u8 (z : Int)] 5)
    have hWk2 := hWk1.alloc (.cells #[.int .u8 (z : Int)] 5)
    have hk2 : Below V.heap.size V (V.alloc (.cells #[.int .u8 (z : Int)] 5)) := (Below.refl _ V).alloc (Nat.le_refl _) _
    have hown2 : ((V.alloc (.cells #[.int .u8 (z : Int)] 5)).drew).ownsRow (W0.heap.size + 2) 5 1 v k xs := owns_same HOW1.out fun j _ h2 => hk2.block j h2
    have hz2 : ((V.alloc (.cells #[.int .u8 (z : Int)] 5)).drew).heap.size = V.heap.size + 1 := by simp [World.drew]
    have hc2 : ∀ j u, ([.int .u8 (z : Int)] : List Value)[j]? = some u → ((V.alloc (.cells #[.int .u8 (z : Int)] 5)).drew).cell? ((⟨V.heap.size, 0, none⟩ : Addr).add j) = some u := fun j u hj => by
      have hj0 : j = 0 := by
        have := (List.getElem?_eq_some_iff.1 hj).1
        simp at this
        exact this
      subst hj0
      rw [add_blockN]
      exact ((HasC.new V 5 #[.int .u8 (z : Int)]).cell 0).trans hj
    have HU1 : Hid (∀ u ∈ ([.int .u8 (z : Int)] : List Value), u.oneCell' = true) := fun u hu => by
      have hu' : u = .int .u8 (z : Int) := by simpa using hu
      rw [hu']
      rfl
    have HK2 := Lib.hid hk2
    have HOW2 := Lib.hid hown2
    have HZ2 := Lib.hid hz2
    have HC2 := Lib.hid hc2
    refine hK2.out _ _ ⟨⟨_, HDD.out (V.alloc (.cells #[.int .u8 (z : Int)] 5)).drew hA2 hWk2⟩, rfl⟩ ?_
    intro K3 hK3
    clear hK2 hk2 hown2 hz2 hc2
    refine wpListIn_append_own _ rfl (.tmp 13) (.tmp 21) 52 rfl (W0.heap.size + 2) 5 i0 (.int .u8 0) 1 1 Try.underlying52 i1.out i2.out i3.out i4.out rfl (by decide) v k xs rfl HOW2.out ⟨V.heap.size, 0, none⟩ 1 1 [.int .u8 (z : Int)] rfl rfl HC2.out HU1.out (by unfold maxLen; omega) (by omega) (by have := HZ2.out; have := HVS.out; omega) ?_
    intro v' V4 hown4 hgrow4 _
    have hz0 := HZ.out
    have hvs := HVS.out
    have hb4 : Below (W0.heap.size + 2) (V.alloc (.cells #[.int .u8 (z : Int)] 5)).drew V4 := (Below.refl _ _).grown hgrow4 (by rw [HZ2.out]; omega) (owns_block HOW2.out)
    have hA4 : HasC V4 w.heap.size 77 #[.pointer (some ⟨gW, 0, none⟩)] := HasC.below (w := (V.alloc (.cells #[.int .u8 (z : Int)] 5)).drew) hA2 hb4 (by omega)
    have hWk4 : WkC V4 gW b s v (.func (.func fn) #[] #[]) := HasC.below (w := (V.alloc (.cells #[.int .u8 (z : Int)] 5)).drew) hWk2 hb4 (by omega)
    have hL4 : Lp W0.heap.size (.loop bz) V4 := Lp.below (W := (V.alloc (.cells #[.int .u8 (z : Int)] 5)).drew) (hL1.alloc _) hb4 (by omega)
    have hoth4 : ∀ j, j < w.heap.size → j ≠ gW → V4.heap[j]? = w.heap[j]? := fun j h1 h2 => (hb4.block j (by omega)).trans ((HK2.out.block j (by omega)).trans (hoth1 j h1 h2))
    have hbw4 : Below gW w V4 := (hbw1.trans (HK2.out.mono (by omega))).trans ((Below.refl gW (V.alloc (.cells #[.int .u8 (z : Int)] 5))).drew.trans (hb4.mono (by omega)))
    have hsz4 : W0.heap.size + 2 ≤ V4.heap.size := Nat.le_trans (by rw [HZ2.out]; omega) hb4.size
    obtain ⟨va, vc, rfl⟩ := owns_shape hown4
    have c2 := hWk4.cell 2
    have z2 := hWk4.frozen 2
    have HOW4 := Lib.hid hown4
    have HS4 := Lib.hid hsz4
    clear hz0 hvs hown4 hgrow4 hb4 hA2 hWk2 hoth1 hbw1 hL1 hA1 hWk1 E1 E2 E3 hne hsz4
    gi_wp2_with fail
    refine hK3.out _ _ ⟨⟨V4, HDD.out V4 hA4 hWk4⟩, rfl⟩ ?_
    simp only [heavyRun, List.drop_succ_cons, List.drop_zero]
    clear hK3
    gi_wp2_with fail
    have hz0 := HZ.out
    have hs4 := HS4.out
    refine ⟨hL4.set _ _ (by simp; omega) (by simp; omega), hA4.far _ _ (by simp; omega), ⟨_, (hWk4.set 2 _).eq rfl, ?_⟩, fun j h1 h2 => (Below.heap_setCell V4 _ _ j (by simp; omega)).trans (hoth4 j h1 h2), hbw4.setCell (p := ⟨gW, 2, none⟩) (Nat.le_refl _) _, by simp; omega⟩
    rw [HNX.out]
    exact ownsRow_setCell_below HOW4.out (a := ⟨gW, 2, none⟩) (by simp; omega) _
  · rintro W ⟨hA, ⟨v, hWk, hown⟩, hoth, hbw, hsz⟩ hK
    rw [List.take_of_length_le (Nat.le_refl _)] at hown
    gi_wp2_with fail
    refine ⟨by simp, .inl ⟨_, _, rfl, run_takeDeferred (b := W0.heap.size) hK, ?_⟩⟩
    refine ⟨_, results_none rfl _ _ _, ⟨_, rfl⟩, ⟨v, hWk.put (by omega) _, World.ownsRow.mono (owns_same hown fun j h1 h2 => World.putObj_heap_other (by omega)) (by omega)⟩, fun j h1 h2 => (World.putObj_heap_other (by omega)).trans (hoth j h1 h2), by simp; omega, below_put hbw _ _ (by omega)⟩
  · rintro j W h
    exact h.elim
end Go.Proofs.Ytnljepnmajcmgaa
