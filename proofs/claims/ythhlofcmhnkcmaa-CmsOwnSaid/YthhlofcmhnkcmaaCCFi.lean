/- Package cms: counters that a closure tells, one by one: filled. -/
import Derived.Test.YthhlofcmhnkcmaaCCRi
import Derived.Test.YthhlofcmhnkcmaaCRef6
namespace Go.Proofs.Ythhlofcmhnkcmaa
open Go.RowKit Go.Shelf

/-- Counters told so far: the first k. -/
def fillK (b : Nat) (Fm : Nat → Nat → Nat) (p k : Nat) : List Nat := (List.range p).map fun i => if i < k then Fm (i / b) (i % b) else 0
def fillF (b : Nat) (Fm : Nat → Nat → Nat) (p : Nat) : List Nat := (List.range p).map fun i => Fm (i / b) (i % b)
theorem fillK_len (b : Nat) (Fm : Nat → Nat → Nat) (p k : Nat) : (fillK b Fm p k).length = p := by simp [fillK]
theorem fillF_len (b : Nat) (Fm : Nat → Nat → Nat) (p : Nat) : (fillF b Fm p).length = p := by simp [fillF]
theorem fillK_zero (b : Nat) (Fm : Nat → Nat → Nat) (p : Nat) : fillK b Fm p 0 = List.replicate p 0 := by
  refine List.ext_getElem (by simp [fillK]) fun i h1 h2 => ?_
  simp [fillK]
theorem fillK_full (b : Nat) (Fm : Nat → Nat → Nat) (p : Nat) : fillK b Fm p p = fillF b Fm p := by
  unfold fillK fillF
  refine List.map_congr_left fun i hi => ?_
  rw [if_pos (List.mem_range.1 hi)]
theorem fillK_step (b : Nat) (Fm : Nat → Nat → Nat) (p k : Nat) (z : Nat) (hz : z = Fm (k / b) (k % b)) : fillK b Fm p (k + 1) = (fillK b Fm p k).set k z := by
  refine List.ext_getElem (by simp [fillK]) fun i h1 h2 => ?_
  have hi : i < p := by simpa [fillK] using h1
  rw [List.getElem_set]
  simp only [fillK, List.getElem_map, List.getElem_range]
  by_cases h : k = i
  · subst h
    rw [if_pos (by omega), if_pos rfl, hz]
  · rw [if_neg h]
    by_cases h2 : i < k
    · rw [if_pos (by omega), if_pos h2]
    · rw [if_neg (by omega), if_neg h2]
theorem fillK_at (b : Nat) (Fm : Nat → Nat → Nat) (p k : Nat) (hk : k < p) : (numL (fillK b Fm p k))[k]? = some (nV 0) := by
  have hl : k < (fillK b Fm p k).length := by rw [fillK_len]; exact hk
  have e : (fillK b Fm p k)[k] = 0 := by simp [fillK]
  rw [numL, List.getElem?_map, List.getElem?_eq_getElem hl, e]
  rfl
theorem drewN_drewN (w : World) (n m : Nat) : ∃ k, (w.drewN n).drewN m = w.drewN k := ⟨n + m, by
  simp [World.drewN, Nat.add_assoc]⟩
theorem result_cms {fn : Func} {p : Tmp} (h : fn.results = #[.cell p 24]) (tmps : Array Value) (w : World) (g : Nat) (a b d : Value)
    (hp : tmps.getD p undef = .pointer (some ⟨g, 0, none⟩)) (hg : HasC w g 24 #[a, b, d]) : (results fn tmps).run Try.prog w = .ok (.agg #[a, b, d]) w :=
  results_cell_row h tmps w g 24 #[a, b, d] (0, 0) _ hp hg Try.underlying24 rfl (by kernel_rfl)
set_option maxHeartbeats 4000000 in
set_option maxRecDepth 100000 in
theorem filled_any (a b : Nat) (fn : Nat) (caps : Array Value) (Fm : Nat → Nat → Nat) (w : World) (h1 : 1 ≤ a) (h2 : a ≤ 4) (h3 : b = 4 ∨ b = 8 ∨ b = 16 ∨ b = 32)
    (hfn : ∀ W, Below w.heap.size w W → ∀ i j, i < a → j < b → Calls Try.prog fn (#[.int .i64 (i : Int), .int .i64 (j : Int)] ++ caps) W fun e w' => e = .returned (nV (Fm i j)) ∧ ∃ n, w' = W.drewN n)
    (heg : ∀ args w, (callFunc fn args).run Try.prog w = .ok (.enter fn args) w) :
    Calls Try.prog 43 #[.int .i64 (a : Int), .int .i64 (b : Int), .func (.func fn) #[] caps] w fun e w' => (∃ v, e = .returned (cV a b v) ∧ NumF w.heap.size w' v (fillF b Fm (a * b))) ∧ Below w.heap.size w w' := by
  obtain ⟨i0, hi, hz0, hz1, hz2⟩ := partsE infoN
  have i1 := Lib.hid hi
  have i2 := Lib.hid hz0
  have i3 := Lib.hid hz1
  have i4 := Lib.hid hz2
  clear hi hz0 hz1 hz2
  have HX := Lib.hid (HasC.new w 24 #[.int .i64 0, .int .i64 0, .slice none 0 0])
  have HB := Lib.hid ((Below.refl w.heap.size w).alloc (Nat.le_refl _) (Obj.cells #[.int .i64 0, .int .i64 0, .slice none 0 0] 24))
  obtain ⟨p, hp, hp128, hpw⟩ := okC_mul h2 h3
  have HP := Lib.hid hp
  have HFN := Lib.hid hfn
  have hb0 : 0 < b := by omega
  have hb32 : b ≤ 32 := by omega
  rw [← hp]
  clear hp hfn h3
  go_enter Try.func43, Try.ntmps43
  go_wp2_with (at_make; go_loud (refine wpList_make_full _ rfl (.tmp 14) (.tmp 14) 22 rfl (w.heap.size + 1) 25 i0 (.int .u64 0) 1 Try.underlying22 i1.out i2.out i3.out .i64 .i64 _ _ p rfl rfl hpw hpw (by rw [i4.out]; omega) (by unfold maxLen; omega) (by simp) ?_; intro w2 hown2 hgrow2; have hb12 := HB.out.grown hgrow2 (by simp) (fun k hk => by cases hk); have hx2 := HX.out.below ((Below.refl _ _).grown hgrow2 (Nat.le_refl _) (fun k hk => by cases hk)) (by simp); rw [numL_made] at hown2; have HO2 := Lib.hid hown2; clear hown2 hgrow2))
  have hown0 := HO2.out
  rw [World.size_alloc] at hown0
  have hown1 : w2.ownsRow (w.heap.size + 1) 25 1 (.slice (some ⟨w.heap.size + 1, 0, none⟩) p p) p (numL (fillK b Fm p 0)) := by rw [fillK_zero]; exact hown0
  have hp0 : 0 < p := by rw [HP.out]; exact Nat.mul_pos (by omega) hb0
  obtain ⟨g', c', hgc, _, hg2⟩ := owns_some hown1 hp0
  simp only [Value.slice.injEq, Option.some.injEq, Addr.mk.injEq, and_true, true_and] at hgc
  obtain ⟨rfl, rfl⟩ := hgc
  have hWk0 := HasC.new w2 59 #[.int .i64 (a : Int), .int .i64 (b : Int), .slice (some ⟨w.heap.size + 1, 0, none⟩) p p]
  have hk2 : Below w2.heap.size w2 (w2.alloc (.cells #[.int .i64 (a : Int), .int .i64 (b : Int), .slice (some ⟨w.heap.size + 1, 0, none⟩) p p] 59)) := (Below.refl _ w2).alloc (Nat.le_refl _) _
  have hown2 := owns_same (W := w2.alloc (.cells #[.int .i64 (a : Int), .int .i64 (b : Int), .slice (some ⟨w.heap.size + 1, 0, none⟩) p p] 59)) hown1 fun k _ h2 => hk2.block k h2
  have hr0 := hx2.below hk2 (by omega)
  have hbw0 := hb12.trans (hk2.mono (by omega))
  clear hown0 hown1 hx2 hb12 hk2
  go_loopw [21] (fun i wr => ∃ k : Nat, k ≤ a ∧ i = .int .i64 (k : Int) ∧ HasC wr w2.heap.size 59 #[.int .i64 (a : Int), .int .i64 (b : Int), .slice (some ⟨w.heap.size + 1, 0, none⟩) p p] ∧ wr.ownsRow (w.heap.size + 1) 25 1 (.slice (some ⟨w.heap.size + 1, 0, none⟩) p p) p (numL (fillK b Fm p (k * b))) ∧ HasC wr w.heap.size 24 #[.int .i64 0, .int .i64 0, .slice none 0 0] ∧ Below w.heap.size w wr) (fun i _ => a - (intOf i).toNat)
  case atStart => exact ⟨0, Nat.zero_le _, rfl, hWk0, by rw [Nat.zero_mul]; exact hown2, hr0, hbw0⟩
  case round =>
    obtain ⟨k, hk, rfl, hWk, hown, hr, hbw⟩ := hrel
    clear hWk0 hown2 hr0 hbw0
    have k1 := hWk.cell 1
    by_cases hlt : k < a
    · have hlta : (k : Int) < (a : Int) := by omega
      have hkb : (k + 1) * b ≤ a * b := Nat.mul_le_mul_right _ hlt
      rw [Nat.add_mul, Nat.one_mul, ← HP.out] at hkb
      obtain ⟨q, hq⟩ : ∃ q, q = k * b := ⟨_, rfl⟩
      rw [← hq] at hown hkb
      have hqw : IntKind.i64.wrap ((k : Int) * (b : Int)) = (q : Int) := by
        have e : ((k : Int) * (b : Int)) = (q : Int) := by rw [hq]; push_cast; rfl
        rw [e]; exact wrap_ki _ (by omega) (by omega)
      have HQ := Lib.hid hq
      have HQW := Lib.hid hqw
      clear hq hqw
      go_wp2_with fail
      clear k1
      go_loopw [27] (fun i wr => ∃ j : Nat, j ≤ b ∧ i = .int .i64 (j : Int) ∧ HasC wr w2.heap.size 59 #[.int .i64 (a : Int), .int .i64 (b : Int), .slice (some ⟨w.heap.size + 1, 0, none⟩) p p] ∧ wr.ownsRow (w.heap.size + 1) 25 1 (.slice (some ⟨w.heap.size + 1, 0, none⟩) p p) p (numL (fillK b Fm p (q + j))) ∧ HasC wr w.heap.size 24 #[.int .i64 0, .int .i64 0, .slice none 0 0] ∧ Below w.heap.size w wr) (fun i _ => b - (intOf i).toNat)
      case atStart => exact ⟨0, Nat.zero_le _, rfl, hWk, hown, hr, hbw⟩
      case round =>
        obtain ⟨j, hj, rfl, hWk', hown', hr', hbw'⟩ := hrel
        clear hWk hown hr hbw
        by_cases hlj : j < b
        · have hljb : (j : Int) < (b : Int) := by omega
          obtain ⟨t, ht⟩ : ∃ t, t = q + j := ⟨_, rfl⟩
          rw [← ht] at hown'
          have hq' : k * b = q := HQ.out.symm
          have htw : IntKind.i64.wrap ((q : Int) + (j : Int)) = (t : Int) := by rw [wrap_ki _ (by omega) (by omega)]; omega
          have htp : t < p := by omega
          have htd : t / b = k := by rw [ht, ← hq']; exact dm_div hlj
          have htm : t % b = j := by rw [ht, ← hq']; exact dm_mod hlj
          have hstep := fillK_step b Fm p t (Fm k j) (by rw [htd, htm])
          have hcy := fillK_at b Fm p t htp
          have hF := HFN.out
          obtain ⟨z, hz⟩ : ∃ z, z = Fm k j := ⟨_, rfl⟩
          rw [← hz] at hstep
          have hFk : ∀ W, Below w.heap.size w W → Calls Try.prog fn (#[.int .i64 (k : Int), .int .i64 (j : Int)] ++ caps) W fun e w' => e = .returned (nV z) ∧ ∃ n, w' = W.drewN n := fun W hb => by rw [hz]; exact hF W hb k j hlt hlj
          have hstep2 : (numL (fillK b Fm p t)).set t (nV z) = numL (fillK b Fm p (t + 1)) := by rw [numL_set, hstep]
          obtain ⟨D, hD0, hDk, hDon⟩ : ∃ D : World → Prop, D wr ∧ (∀ W, D W → ∃ n, W = wr.drewN n) ∧ (∀ W n, D W → D (W.drewN n)) := ⟨fun W => ∃ n, W = wr.drewN n, ⟨0, rfl⟩, fun _ h => h, fun W n ⟨m, hm⟩ => by rw [hm]; exact drewN_drewN wr m n⟩
          have E1 : ∀ i : InC D, i.w.cell? ⟨w2.heap.size, 1, none⟩ = some (.int .i64 (b : Int)) := fun i => by obtain ⟨n, e⟩ := hDk _ i.h; rw [e]; exact hWk'.cell 1
          have E2 : ∀ i : InC D, i.w.cell? ⟨w2.heap.size, 2, none⟩ = some (.slice (some ⟨w.heap.size + 1, 0, none⟩) p p) := fun i => by obtain ⟨n, e⟩ := hDk _ i.h; rw [e]; exact hWk'.cell 2
          have hFD : ∀ W, D W → Calls Try.prog fn (#[.int .i64 (k : Int), .int .i64 (j : Int)] ++ caps) W fun e w' => e = .returned (nV z) ∧ D w' := fun W hd => by
            refine (hFk W ?_).mono ?_
            · obtain ⟨n, e⟩ := hDk _ hd
              rw [e]; exact bel_drewN hbw' n
            · rintro e w' ⟨h1, n, h2⟩
              exact ⟨h1, by rw [h2]; exact hDon W n hd⟩
          have HFD := Lib.hid hFD
          have HD0 := Lib.hid (hDon _ 1 hD0)
          have HDK := Lib.hid hDk
          have HBW := Lib.hid hbw'
          have HOW := Lib.hid hown'
          have HST := Lib.hid hstep2
          have HCY := Lib.hid hcy
          have HT := Lib.hid ht
          have hqw := HQW.out
          clear hD0 hDon hDk hF hFk hFD hbw' hown' hstep hstep2 hcy htd htm hz hq' hkb ht
          go_wp2_with fail
          refine region_tail 15 D (by kernel_rfl) (by kernel_rfl) HD0.out ?_
          intro hne
          simp only [List.take_succ_cons, List.take_zero]
          repeat (go_big_quiet_step (((with_reducible refine (HFD.out _ (InC.h _)).mono ?_); rintro e w' ⟨rfl, hw⟩; exact ⟨rfl, ⟨⟨_, hw⟩, rfl⟩⟩)))
          refine wpQuiet_nil ?_
          clear E1 E2 hne
          intro i
          simp only [List.drop_succ_cons, List.drop_zero]
          obtain ⟨n3, e3⟩ := HDK.out _ i.h
          obtain ⟨W3, hW3⟩ : ∃ W3, i.w = W3 := ⟨_, rfl⟩
          rw [hW3] at e3 ⊢
          have hown3 : W3.ownsRow (w.heap.size + 1) 25 1 (.slice (some ⟨w.heap.size + 1, 0, none⟩) p p) p (numL (fillK b Fm p t)) := owns_same HOW.out fun k' _ _ => by rw [e3]; rfl
          have hb3 : Below w.heap.size w W3 := by rw [e3]; exact bel_drewN HBW.out n3
          have hr3 : HasC W3 w.heap.size 24 #[.int .i64 0, .int .i64 0, .slice none 0 0] := by rw [e3]; exact hr'
          have hWk3 : HasC W3 w2.heap.size 59 #[.int .i64 (a : Int), .int .i64 (b : Int), .slice (some ⟨w.heap.size + 1, 0, none⟩) p p] := by rw [e3]; exact hWk'
          have c3 : W3.cell? ⟨w.heap.size + 1, t, none⟩ = some (nV 0) := by rw [hown3.cellAt t (by omega)]; exact HCY.out
          have f3 : W3.frozen? ⟨w.heap.size + 1, t, none⟩ = false := hown3.frozenAt t
          have HO3 := Lib.hid hown3
          clear hW3 e3 hown3 hWk' hr'
          go_wp2_with fail
          go_roundw
          case rel => exact ⟨j + 1, by omega, by go_num, hWk3.far _ _ (by simp; omega), by rw [show q + (j + 1) = t + 1 by have := HT.out; omega, ← HST.out]; exact (HO3.out.stored t (nV z)).1, hr3.far _ _ (by simp), hb3.setCell (by simp) _⟩
          case measure => simp [intOf]; omega
        · obtain rfl : j = b := by omega
          have hnj : ¬ (j : Int) < (j : Int) := by omega
          have e : q + j = (k + 1) * j := by have := HQ.out; rw [Nat.add_mul, Nat.one_mul]; omega
          rw [e] at hown'
          have HOW4 := Lib.hid hown'
          clear hown'
          go_wp2_with fail
          go_roundw
          case rel => exact ⟨k + 1, by omega, by go_num, hWk', HOW4.out, hr', hbw'⟩
          case measure => simp [intOf]; omega
    · obtain rfl : k = a := by omega
      have hnk : ¬ (k : Int) < (k : Int) := by omega
      rw [← HP.out, fillK_full] at hown
      have hf : NumF (w.heap.size + 1) wr (.slice (some ⟨w.heap.size + 1, 0, none⟩) p p) (fillF b Fm p) := numF_of_owns (by rw [fillF_len]; exact hown)
      have HF := Lib.hid hf
      have HR4 := Lib.hid hr
      have HB4 := Lib.hid hbw
      have k0 := hWk.cell 0
      have k2 := hWk.cell 2
      have z0 := hr.frozen 0
      have z1 := hr.frozen 1
      have z2 := hr.frozen 2
      have r0 := hr.cell 0
      have r1 := hr.cell 1
      have r2' := hr.cell 2
      clear hown hf hr hbw hWk
      go_wp2_with fail
      refine bodyPost_ret (result_cms rfl _ _ w.heap.size _ _ _ rfl ((((HR4.out.set 0 (.int .i64 (k : Int))).set 1 (.int .i64 (b : Int))).set 2 (.slice (some ⟨w.heap.size + 1, 0, none⟩) p p)).eq (cs' := #[.int .i64 (k : Int), .int .i64 (b : Int), .slice (some ⟨w.heap.size + 1, 0, none⟩) p p]) rfl)) rfl ?_
      refine ⟨⟨_, rfl, ?_⟩, ((HB4.out.setCell (p := ⟨w.heap.size, 0, none⟩) (by simp) _).setCell (p := ⟨w.heap.size, 1, none⟩) (by simp) _).setCell (p := ⟨w.heap.size, 2, none⟩) (by simp) _⟩
      refine (HF.out.keep (by simp) fun j h1 h2 => ?_).mono (by omega)
      rw [Below.heap_setCell _ _ _ j (by simp; omega), Below.heap_setCell _ _ _ j (by simp; omega), Below.heap_setCell _ _ _ j (by simp; omega)]
end Go.Proofs.Ythhlofcmhnkcmaa
