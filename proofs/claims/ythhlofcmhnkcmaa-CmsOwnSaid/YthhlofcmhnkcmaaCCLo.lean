/- Package cms: Lower. -/
import Derived.Test.YthhlofcmhnkcmaaCCMg
namespace Go.Proofs.Ythhlofcmhnkcmaa
open Go.RowKit Go.Shelf

theorem fill_low (a h : Nat) (L : List Nat) : fillF h (fun i j => plusS (L.getD (i * (2 * h) + j) 0) (L.getD (i * (2 * h) + j + h) 0)) (a * h) = lowC8 a h L := by
  unfold fillF lowC8
  refine List.map_congr_left fun i _ => ?_
  rw [show i / h * (2 * h) + h + i % h = i / h * (2 * h) + i % h + h by omega]
set_option maxHeartbeats 4000000 in
set_option maxRecDepth 100000 in
/-- The closure that tells what two columns of one's come to. -/
theorem half_any (BX BH b h i j : Nat) (L : List Nat) (v : Value) (rx : Int) (w : World) (hb32 : b ≤ 32) (hh : h ≤ 32) (hi4 : i < 4) (hj : j < h)
    (hX : HasC w BX 24 #[.int .i64 rx, .int .i64 (b : Int), v]) (hY : HasC w BH 3 #[.int .i64 (h : Int)]) (hv : NumSl w v L)
    (hl : i * b + j < L.length) (hk : i * b + j + h < L.length) (hL : ∀ x ∈ L, x ≤ topN) :
    Calls Try.prog 51 (#[.int .i64 (i : Int), .int .i64 (j : Int)] ++ #[.pointer (some ⟨BX, 0, none⟩), .pointer (some ⟨BH, 0, none⟩)]) w
      fun e w' => e = .returned (nV (plusS (L.getD (i * b + j) 0) (L.getD (i * b + j + h) 0))) ∧ ∃ n, w' = w.drewN n := by
  show Calls Try.prog 51 #[.int .i64 (i : Int), .int .i64 (j : Int), .pointer (some ⟨BX, 0, none⟩), .pointer (some ⟨BH, 0, none⟩)] w _
  have hib : i * b ≤ 3 * 32 := Nat.mul_le_mul (by omega) hb32
  obtain ⟨q, hq⟩ : ∃ q, q = i * b := ⟨_, rfl⟩
  obtain ⟨t, ht⟩ : ∃ t, t = q + j := ⟨_, rfl⟩
  obtain ⟨s, hs⟩ : ∃ s, s = t + h := ⟨_, rfl⟩
  rw [← hq, ← ht] at hl hk
  rw [← hs] at hk
  rw [← hq, ← ht, ← hs, getD_at hl, getD_at hk]
  obtain ⟨ao, cp, rfl, hcv⟩ := hv.shape
  obtain ⟨g, o, rfl, hg⟩ := hcv t hl
  obtain ⟨g2, o2, he, hg2⟩ := hcv s hk
  cases he
  have c1 := hX.cell 1
  have c2 := hX.cell 2
  have d0 := hY.cell 0
  have e1 := hg w (Below.refl _ _)
  have e2 := hg2 w (Below.refl _ _)
  have hLt := hL _ (List.getElem_mem hl)
  have hKt := hL _ (List.getElem_mem hk)
  obtain ⟨x, hx⟩ : ∃ x, x = L[t] := ⟨_, rfl⟩
  obtain ⟨y, hy⟩ : ∃ y, y = L[s] := ⟨_, rfl⟩
  obtain ⟨m, hm⟩ : ∃ m, m = L.length := ⟨_, rfl⟩
  rw [← hx] at e1 hLt ⊢
  rw [← hy] at e2 hKt ⊢
  rw [← hm] at c2 hl hk
  have T1 := Lib.hid (fun W => together_any x y W hLt hKt)
  have hqw : IntKind.i64.wrap ((i : Int) * (b : Int)) = (q : Int) := by
    have e : ((i : Int) * (b : Int)) = (q : Int) := by rw [hq]; push_cast; rfl
    rw [e]; exact wrap_ki _ (by omega) (by omega)
  have htw : IntKind.i64.wrap ((q : Int) + (j : Int)) = (t : Int) := by rw [wrap_ki _ (by omega) (by omega)]; omega
  have hsw : IntKind.i64.wrap ((t : Int) + (h : Int)) = (s : Int) := by rw [wrap_ki _ (by omega) (by omega)]; omega
  have htm : (t : Int) < (m : Int) := by omega
  have htp : (s : Int) < (m : Int) := by omega
  clear hcv hg hg2 hX hY hv hL hLt hKt hx hy hm hq ht hs hib hl hk
  go_enter Try.func51, Try.ntmps51
  go_wp2_with fail
  go_quiet ((with_reducible refine (T1.out _).mono ?_; rintro e w2 ⟨rfl, rfl⟩; exact ⟨rfl, _, rfl⟩))
  go_wp2_with fail
  go_ret
  exact ⟨rfl, _, rfl⟩
set_option maxHeartbeats 4000000 in
set_option maxRecDepth 100000 in
theorem lower_any (r c : Int) (L : List Nat) (v : Value) (w : World) (hv : NumSl w v L) (hL : ∀ x ∈ L, x ≤ topN) :
    Calls Try.prog 40 #[cV r c v] w fun e w' => (∃ x u, e = .returned (.tuple #[x, u]) ∧ ResC w.heap.size (rightC r c L && decide (c ≠ 4)) r (c / 2) (lowC8 r.toNat (c.toNat / 2) L) x u w') ∧ Below w.heap.size w w' := by
  obtain ⟨W0, hW0⟩ : ∃ W0, W0 = (w.alloc (Obj.cells #[.int .i64 r, .int .i64 c, v] 24)).alloc (Obj.cells #[.int .i64 0, .int .i64 0, .slice none 0 0] 24) := ⟨_, rfl⟩
  have hz0 : W0.heap.size = w.heap.size + 2 := by rw [hW0]; simp
  have hb0 : Below w.heap.size w W0 := by rw [hW0]; exact ((Below.refl w.heap.size w).alloc (Nat.le_refl _) _).alloc (by simp) _
  have hx0 : HasC W0 w.heap.size 24 #[.int .i64 r, .int .i64 c, v] := by rw [hW0]; exact (HasC.new w _ _).alloc _
  have hr0 : HasC W0 (w.heap.size + 1) 24 #[.int .i64 0, .int .i64 0, .slice none 0 0] := by rw [hW0]; exact HasC.at_ _ _ _ (by simp)
  obtain ⟨ao, cp, rfl, _⟩ := hv.shape
  obtain ⟨m, hm⟩ : ∃ m, m = L.length := ⟨_, rfl⟩
  have HSV := Lib.hid hv
  rw [← hm] at HSV hW0 hx0 ⊢
  have C1 := Lib.hid (check1_any r c ao m cp L hm W0)
  have HB := Lib.hid (hb0.alloc hb0.size (Obj.cells #[.int .i64 r, .int .i64 c, .slice ao m cp] 24))
  have HX := Lib.hid (hx0.alloc (Obj.cells #[.int .i64 r, .int .i64 c, .slice ao m cp] 24))
  have HR := Lib.hid (hr0.alloc (Obj.cells #[.int .i64 r, .int .i64 c, .slice ao m cp] 24))
  have HZ := Lib.hid hz0
  rw [hz0] at C1
  have HM := Lib.hid hm
  have HLL := Lib.hid hL
  subst hW0
  clear hb0 hx0 hr0 hz0 hv hm hL
  unfold cV
  cases hq : rightC r c L with
  | false =>
    rw [hq] at C1
    rw [Bool.false_and]
    clear hq
    go_enter Try.func40, Try.ntmps40
    go_wp2_with fail
    with_reducible refine (C1.out).mono ?_
    rintro e w2 ⟨⟨u, rfl, hu⟩, hb⟩
    rcases hu with ⟨hu, _⟩ | ⟨_, s, rfl⟩
    · cases hu
    have hz := HZ.out
    have hb2 := HB.out.trans (hb.mono (by omega))
    have hr2 := HR.out.below hb (by omega)
    have hx2 := HX.out.below hb (by omega)
    have c0 := hr2.cell 0
    have c1 := hr2.cell 1
    have c2 := hr2.cell 2
    have z0 := hr2.frozen 0
    have z1 := hr2.frozen 1
    have z2 := hr2.frozen 2
    have d1 := hx2.cell 1
    have HR2 := Lib.hid hr2
    clear hb hr2 hz hx2
    go_wp2_with fail
    refine bodyPost_ret (results_cms rfl _ _ (w.heap.size + 1) _ _ _ rfl ((((HR2.out.set 0 (.int .i64 0)).set 1 (.int .i64 0)).set 2 (.slice none 0 0)).eq (cs' := #[.int .i64 0, .int .i64 0, .slice none 0 0]) rfl)) rfl ?_
    exact ⟨⟨_, _, rfl, .inr ⟨rfl, rfl, _, rfl⟩⟩, ((hb2.setCell (p := ⟨w.heap.size + 1, 0, none⟩) (by simp) _).setCell (p := ⟨w.heap.size + 1, 1, none⟩) (by simp) _).setCell (p := ⟨w.heap.size + 1, 2, none⟩) (by simp) _⟩
  | true =>
    rw [hq] at C1
    rw [Bool.true_and]
    by_cases hn4 : c = 4
    · rw [show decide (c ≠ 4) = false from decide_eq_false (by simp [hn4])]
      have hne : (c == 4) = true := by simp [hn4]
      clear hq hn4
      go_enter Try.func40, Try.ntmps40
      go_wp2_with fail
      with_reducible refine (C1.out).mono ?_
      rintro e w2 ⟨⟨u, rfl, hu⟩, hb⟩
      rcases hu with ⟨_, rfl⟩ | ⟨hu, _⟩
      case inr => cases hu
      have hz := HZ.out
      have hb2 := HB.out.trans (hb.mono (by omega))
      have hr2 := HR.out.below hb (by omega)
      have hx2 := HX.out.below hb (by omega)
      have c0 := hr2.cell 0
      have c1 := hr2.cell 1
      have c2 := hr2.cell 2
      have z0 := hr2.frozen 0
      have z1 := hr2.frozen 1
      have z2 := hr2.frozen 2
      have d1 := hx2.cell 1
      have HR2 := Lib.hid hr2
      clear hb hr2 hz hx2
      go_wp2_with fail
      refine bodyPost_ret (results_cms rfl _ _ (w.heap.size + 1) _ _ _ rfl ((((HR2.out.set 0 (.int .i64 0)).set 1 (.int .i64 0)).set 2 (.slice none 0 0)).eq (cs' := #[.int .i64 0, .int .i64 0, .slice none 0 0]) rfl)) rfl ?_
      exact ⟨⟨_, _, rfl, .inr ⟨rfl, rfl, _, rfl⟩⟩, ((hb2.setCell (p := ⟨w.heap.size + 1, 0, none⟩) (by simp) _).setCell (p := ⟨w.heap.size + 1, 1, none⟩) (by simp) _).setCell (p := ⟨w.heap.size + 1, 2, none⟩) (by simp) _⟩
    · rw [show decide (c ≠ 4) = true from decide_eq_true (by simpa using hn4)]
      have hne : (c == 4) = false := by simp [hn4]
      obtain ⟨a, b, rfl, rfl, h1, h2, h3, hl⟩ := rightC_nat hq
      obtain ⟨h, hbh⟩ : ∃ h, b = 2 * h := ⟨b / 2, by omega⟩
      have h3' : h = 4 ∨ h = 8 ∨ h = 16 ∨ h = 32 := by omega
      have hdv : ((b : Int) / 2) = (h : Int) := by omega
      have hwh : IntKind.i64.wrap (h : Int) = (h : Int) := wrap_ki _ (by omega) (by omega)
      have hdt : (b : Int).tdiv 2 = (h : Int) := by rw [Int.tdiv_eq_ediv_of_nonneg (by omega)]; exact hdv
      rw [Int.toNat_natCast, Int.toNat_natCast, show b / 2 = h by omega, hdv]
      have hb32 : b ≤ 32 := by omega
      have hh32 : h ≤ 32 := by omega
      obtain ⟨T, hT⟩ : ∃ T, lowC8 a h L = T := ⟨_, rfl⟩
      rw [hT]
      have HT := Lib.hid hT
      have HBH := Lib.hid hbh
      have HH3 := Lib.hid h3'
      clear hq hn4 h3 h3' hbh hT
      go_enter Try.func40, Try.ntmps40
      go_wp2_with fail
      with_reducible refine (C1.out).mono ?_
      rintro e w2 ⟨⟨u, rfl, hu⟩, hb⟩
      rcases hu with ⟨_, rfl⟩ | ⟨hu, _⟩
      case inr => cases hu
      have hz := HZ.out
      have hb2 := HB.out.trans (hb.mono (by omega))
      have hx2 := HX.out.below hb (by omega)
      have hr2 := HR.out.below hb (by omega)
      have hlt2 : w.heap.size + 1 < w2.heap.size := hr2.lt
      obtain ⟨W5, hW5⟩ : ∃ W5, W5 = w2.alloc (.cells #[.int .i64 (h : Int)] 3) := ⟨_, rfl⟩
      have hk5 : Below w2.heap.size w2 W5 := by rw [hW5]; exact (Below.refl _ w2).alloc (Nat.le_refl _) _
      have hh5 : HasC W5 w2.heap.size 3 #[.int .i64 (h : Int)] := by rw [hW5]; exact HasC.new w2 _ _
      have hx5 := hx2.below hk5 hx2.lt
      have hr5 := hr2.below hk5 hr2.lt
      have hb5 := hb2.trans (hk5.mono hb2.size)
      have F1 := filled_any a h 51 #[.pointer (some ⟨w.heap.size, 0, none⟩), .pointer (some ⟨w2.heap.size, 0, none⟩)] (fun i j => plusS (L.getD (i * (2 * h) + j) 0) (L.getD (i * (2 * h) + j + h) 0)) W5 h1 h2 HH3.out (fun W hW i j hi hj => by
        have hij : i * (2 * h) + j + h < L.length := by
          have : (i + 1) * (2 * h) ≤ a * (2 * h) := Nat.mul_le_mul_right _ hi
          rw [Nat.add_mul, Nat.one_mul] at this
          have hbh := HBH.out
          rw [hl, hbh]
          omega
        have hX := hx5.below hW hx5.lt
        rw [HBH.out] at hX
        exact half_any w.heap.size w2.heap.size (2 * h) h i j L _ _ W (by have := HBH.out; omega) hh32 (by omega) hj hX (hh5.below hW hh5.lt) (HSV.out.below (hb5.trans (hW.mono hb5.size))) (by omega) hij HLL.out)
        (enters_of Try.func51 (by kernel_rfl) rfl)
      rw [fill_low a h L] at F1
      rw [HT.out] at F1
      have HF := Lib.hid F1
      have HR5 := Lib.hid hr5
      have HB5 := Lib.hid hb5
      have HW5 := Lib.hid hW5
      have HLT := Lib.hid (show w.heap.size ≤ W5.heap.size by have := hk5.size; omega)
      have x1 := hx2.cell 1
      have x0 := hx5.cell 0
      have y0 := hh5.cell 0
      rw [hW5] at x0 y0
      clear F1 hr2 hb2 hb hz hx2 hl h1 h2 hlt2 hb32 hh32 hk5 hh5 hx5 hr5 hb5 hW5
      go_wp2_with fail
      rw [← HW5.out]
      with_reducible refine (HF.out).mono ?_
      rintro e w3 ⟨⟨v, rfl, hf⟩, hb⟩
      obtain ⟨va, vn, vc, rfl⟩ := hf.form
      have hr3 := HR5.out.below hb HR5.out.lt
      have hb3 := HB5.out.trans (hb.mono HB5.out.size)
      have c0 := hr3.cell 0
      have c1 := hr3.cell 1
      have c2 := hr3.cell 2
      have z0 := hr3.frozen 0
      have z1 := hr3.frozen 1
      have z2 := hr3.frozen 2
      have HR3 := Lib.hid hr3
      have HF3 := Lib.hid hf
      have HLR := Lib.hid HR5.out.lt
      clear hr3 hb hf x0 x1 y0
      unfold cV
      go_wp2_with fail
      refine bodyPost_ret (results_cms rfl _ _ (w.heap.size + 1) _ _ _ rfl ((((HR3.out.set 0 (.int .i64 (a : Int))).set 1 (.int .i64 (h : Int))).set 2 (.slice va vn vc)).eq (cs' := #[.int .i64 (a : Int), .int .i64 (h : Int), .slice va vn vc]) rfl)) rfl ?_
      refine ⟨⟨_, _, rfl, .inl ⟨rfl, rfl, _, rfl, ?_⟩⟩, ((hb3.setCell (p := ⟨w.heap.size + 1, 0, none⟩) (by simp) _).setCell (p := ⟨w.heap.size + 1, 1, none⟩) (by simp) _).setCell (p := ⟨w.heap.size + 1, 2, none⟩) (by simp) _⟩
      have hz := HLT.out
      have hz2 := HLR.out
      refine (HF3.out.keep (by simp) fun j h1 h2 => ?_).mono hz
      rw [Below.heap_setCell _ _ _ j (by simp; omega), Below.heap_setCell _ _ _ j (by simp; omega), Below.heap_setCell _ _ _ j (by simp; omega)]
set_option maxHeartbeats 4000000 in
set_option maxRecDepth 100000 in
theorem cLower_any (r c : Int) (L : List Nat) (v : Value) (w : World) (hv : NumSl w v L) (_hn : L.length ≤ 200) (hL : ∀ x ∈ L, x ≤ topN) :
    Calls Try.prog 25 #[cV r c v] w fun e w' => CmX w.heap.size (lowerCm r c L) e w' ∧ Below w.heap.size w w' := by
  have hP : lowerCm r c L = if (rightC r c L && decide (c ≠ 4)) then ((r, c / 2, lowC8 r.toNat (c.toNat / 2) L), 0) else badC := rfl
  rw [hP]
  have hb0 : Below w.heap.size w ((w.alloc (Obj.cells #[.int .i64 r, .int .i64 c, v] 24)).alloc (Obj.cells #[.int .i64 0, .int .i64 0, .slice none 0 0] 24)) := ((Below.refl w.heap.size w).alloc (Nat.le_refl _) _).alloc (by simp) _
  have hr0 : HasC ((w.alloc (Obj.cells #[.int .i64 r, .int .i64 c, v] 24)).alloc (Obj.cells #[.int .i64 0, .int .i64 0, .slice none 0 0] 24)) (w.heap.size + 1) 24 #[.int .i64 0, .int .i64 0, .slice none 0 0] := HasC.at_ _ _ _ (by simp)
  have A1 := lower_any r c L v _ (hv.below hb0) hL
  obtain ⟨ok, hok⟩ : ∃ ok, (rightC r c L && decide (c ≠ 4)) = ok := ⟨_, rfl⟩
  obtain ⟨T, hT⟩ : ∃ T, lowC8 r.toNat (c.toNat / 2) L = T := ⟨_, rfl⟩
  obtain ⟨d, hd⟩ : ∃ d, c / 2 = d := ⟨_, rfl⟩
  rw [hok, hT, hd] at A1
  rw [hok, hT, hd]
  obtain ⟨P, hPP⟩ : ∃ P : Cm, P = if ok then ((r, d, T), 0) else badC := ⟨_, rfl⟩
  rw [← hPP]
  have HP1 := Lib.hid (fun (h : ok = true) => (by rw [hPP, h]; rfl : P = ((r, d, T), 0)))
  have HP0 := Lib.hid (fun (h : ok = false) => (by rw [hPP, h]; rfl : P = badC))
  clear hPP
  have HA := Lib.hid A1
  have HR := Lib.hid hr0
  have HB := Lib.hid hb0
  have HZ : Hid (w.heap.size ≤ ((w.alloc (Obj.cells #[.int .i64 r, .int .i64 c, v] 24)).alloc (Obj.cells #[.int .i64 0, .int .i64 0, .slice none 0 0] 24)).heap.size) := hb0.size
  have HZ2 : ((w.alloc (Obj.cells #[.int .i64 r, .int .i64 c, v] 24)).alloc (Obj.cells #[.int .i64 0, .int .i64 0, .slice none 0 0] 24)).heap.size = w.heap.size + 2 := by simp
  obtain ⟨ao, cp, rfl, _⟩ := hv.shape
  clear A1 hP hok hT hd hb0 hr0 hL
  unfold cV at HA ⊢
  go_enter Try.func25, Try.ntmps25
  go_wp2_with fail
  with_reducible refine (HA.out).mono ?_
  rintro e w2 ⟨⟨xv, uv, rfl, hres⟩, hb⟩
  have hr2 := HR.out.below hb HR.out.lt
  have hb2 := HB.out.trans (hb.mono HB.out.size)
  have HR2 := Lib.hid hr2
  have HB2 := Lib.hid hb2
  clear hb hr2 hb2
  rcases hres with ⟨hok, rfl, v, rfl, hf⟩ | ⟨hok, rfl, s, rfl⟩
  · obtain ⟨va, vn, vc, rfl⟩ := hf.form
    have hf2 := fun w3 (hb : Below w2.heap.size w2 w3) => hf.below hb
    have HF := Lib.hid hf2
    have HOK := Lib.hid hok
    clear hf hf2 hok
    unfold cV
    go_wp2_with fail
    with_reducible refine (told_ok _ _ _ _ _ _).mono ?_
    rintro e w3 ⟨rfl, hb⟩
    have hr3 := HR2.out.below hb HR2.out.lt
    have hb3 := HB2.out.trans (hb.mono HB2.out.size)
    have HF3 := Lib.hid (HF.out w3 hb)
    have c0 := hr3.cell 0
    have c1 := hr3.cell 1
    have c2 := hr3.cell 2
    have z0 := hr3.frozen 0
    have z1 := hr3.frozen 1
    have z2 := hr3.frozen 2
    have HR3 := Lib.hid hr3
    clear hr3 hb
    unfold cV
    go_wp2_with fail
    refine bodyPost_ret (results_cms rfl _ _ (w.heap.size + 1) _ _ _ rfl ((((HR3.out.set 0 (.int .i64 (r))).set 1 (.int .i64 (d))).set 2 (.slice va vn vc)).eq (cs' := #[.int .i64 (r), .int .i64 (d), .slice va vn vc]) rfl)) rfl ?_
    rw [HP1.out HOK.out]
    refine ⟨⟨_, rfl, ?_⟩, ((hb3.setCell (p := ⟨(w.heap.size + 1), 0, none⟩) (by simp) _).setCell (p := ⟨(w.heap.size + 1), 1, none⟩) (by simp) _).setCell (p := ⟨(w.heap.size + 1), 2, none⟩) (by simp) _⟩
    refine (HF3.out.keep (by simp) fun j h1 h2 => ?_).mono HZ.out
    rw [Below.heap_setCell _ _ _ j (by simp; omega), Below.heap_setCell _ _ _ j (by simp; omega), Below.heap_setCell _ _ _ j (by simp; omega)]
  · have HOK := Lib.hid hok
    clear hok
    unfold cV
    go_wp2_with fail
    with_reducible refine (told_bad _ _ _ _ _ _ _).mono ?_
    rintro e w3 ⟨rfl, hb⟩
    have hr3 := HR2.out.below hb HR2.out.lt
    have hb3 := HB2.out.trans (hb.mono HB2.out.size)
    have c0 := hr3.cell 0
    have c1 := hr3.cell 1
    have c2 := hr3.cell 2
    have z0 := hr3.frozen 0
    have z1 := hr3.frozen 1
    have z2 := hr3.frozen 2
    have HR3 := Lib.hid hr3
    clear hr3 hb
    unfold cV
    go_wp2_with fail
    refine bodyPost_ret (results_cms rfl _ _ (w.heap.size + 1) _ _ _ rfl ((((HR3.out.set 0 (.int .i64 0)).set 1 (.int .i64 0)).set 2 (.slice none 0 0)).eq (cs' := #[.int .i64 0, .int .i64 0, .slice none 0 0]) rfl)) rfl ?_
    rw [HP0.out HOK.out]
    exact ⟨⟨_, rfl, NumF.nil _ _⟩, ((hb3.setCell (p := ⟨(w.heap.size + 1), 0, none⟩) (by simp) _).setCell (p := ⟨(w.heap.size + 1), 1, none⟩) (by simp) _).setCell (p := ⟨(w.heap.size + 1), 2, none⟩) (by simp) _⟩
end Go.Proofs.Ythhlofcmhnkcmaa
