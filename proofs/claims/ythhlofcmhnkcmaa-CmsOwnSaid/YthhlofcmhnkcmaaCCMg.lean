/- Package cms: Merge. -/
import Derived.Test.YthhlofcmhnkcmaaCCNw
namespace Go.Proofs.Ythhlofcmhnkcmaa
open Go.RowKit Go.Shelf

theorem fill_merge (a b : Nat) (L K : List Nat) (hl : L.length = a * b) (hk : K.length = a * b) : fillF b (fun i j => plusS (L.getD (i * b + j) 0) (K.getD (i * b + j) 0)) (a * b) = mergeC L K := by
  refine List.ext_getElem (by rw [fillF_len, mergeC_len (hl.trans hk.symm), hl]) fun i h1 h2 => ?_
  have hi : i < a * b := by rwa [fillF_len] at h1
  rw [mergeC_at i (by omega) (by omega)]
  simp only [fillF, List.getElem_map, List.getElem_range]
  have e : i / b * b + i % b = i := by rw [Nat.mul_comm]; exact Nat.div_add_mod i b
  rw [e, getD_at (by omega), getD_at (by omega)]
set_option maxHeartbeats 4000000 in
set_option maxRecDepth 100000 in
/-- The closure that tells what two counters come to. -/
theorem both_any (BX BY b i j : Nat) (L K : List Nat) (v u : Value) (rx ry cy : Int) (w : World) (hb32 : b ≤ 32) (hi4 : i < 4) (hj : j < b)
    (hX : HasC w BX 24 #[.int .i64 rx, .int .i64 (b : Int), v]) (hY : HasC w BY 24 #[.int .i64 ry, .int .i64 cy, u]) (hv : NumSl w v L) (hu : NumSl w u K)
    (hl : i * b + j < L.length) (hk : i * b + j < K.length) (hL : ∀ x ∈ L, x ≤ topN) (hK : ∀ x ∈ K, x ≤ topN) :
    Calls Try.prog 49 (#[.int .i64 (i : Int), .int .i64 (j : Int)] ++ #[.pointer (some ⟨BX, 0, none⟩), .pointer (some ⟨BY, 0, none⟩)]) w
      fun e w' => e = .returned (nV (plusS (L.getD (i * b + j) 0) (K.getD (i * b + j) 0))) ∧ ∃ n, w' = w.drewN n := by
  show Calls Try.prog 49 #[.int .i64 (i : Int), .int .i64 (j : Int), .pointer (some ⟨BX, 0, none⟩), .pointer (some ⟨BY, 0, none⟩)] w _
  have hib : i * b ≤ 3 * 32 := Nat.mul_le_mul (by omega) hb32
  obtain ⟨q, hq⟩ : ∃ q, q = i * b := ⟨_, rfl⟩
  obtain ⟨t, ht⟩ : ∃ t, t = q + j := ⟨_, rfl⟩
  rw [← hq, ← ht] at hl hk
  rw [← hq, ← ht, getD_at hl, getD_at hk]
  obtain ⟨ao, cp, rfl, hcv⟩ := hv.shape
  obtain ⟨bo, dp, rfl, hcu⟩ := hu.shape
  obtain ⟨g, o, rfl, hg⟩ := hcv t hl
  obtain ⟨g2, o2, rfl, hg2⟩ := hcu t hk
  have c1 := hX.cell 1
  have c2 := hX.cell 2
  have d2 := hY.cell 2
  have e1 := hg w (Below.refl _ _)
  have e2 := hg2 w (Below.refl _ _)
  have hLt := hL _ (List.getElem_mem hl)
  have hKt := hK _ (List.getElem_mem hk)
  obtain ⟨x, hx⟩ : ∃ x, x = L[t] := ⟨_, rfl⟩
  obtain ⟨y, hy⟩ : ∃ y, y = K[t] := ⟨_, rfl⟩
  obtain ⟨m, hm⟩ : ∃ m, m = L.length := ⟨_, rfl⟩
  obtain ⟨p, hp⟩ : ∃ p, p = K.length := ⟨_, rfl⟩
  rw [← hx] at e1 hLt ⊢
  rw [← hy] at e2 hKt ⊢
  rw [← hm] at c2 hl
  rw [← hp] at d2 hk
  have T1 := Lib.hid (fun W => together_any x y W hLt hKt)
  have hqw : IntKind.i64.wrap ((i : Int) * (b : Int)) = (q : Int) := by
    have e : ((i : Int) * (b : Int)) = (q : Int) := by rw [hq]; push_cast; rfl
    rw [e]; exact wrap_ki _ (by omega) (by omega)
  have htw : IntKind.i64.wrap ((q : Int) + (j : Int)) = (t : Int) := by rw [wrap_ki _ (by omega) (by omega)]; omega
  have htm : (t : Int) < (m : Int) := by omega
  have htp : (t : Int) < (p : Int) := by omega
  clear hcv hcu hg hg2 hX hY hv hu hL hK hLt hKt hx hy hm hp hq ht hib hl hk
  go_enter Try.func49, Try.ntmps49
  go_wp2_with fail
  go_quiet ((with_reducible refine (T1.out _).mono ?_; rintro e w2 ⟨rfl, rfl⟩; exact ⟨rfl, _, rfl⟩))
  go_wp2_with fail
  go_ret
  exact ⟨rfl, _, rfl⟩
set_option maxHeartbeats 4000000 in
set_option maxRecDepth 100000 in
theorem merge_any (r c : Int) (L : List Nat) (v : Value) (r2 c2 : Int) (K : List Nat) (u : Value) (w : World) (hv : NumSl w v L) (hu : NumSl w u K) (hL : ∀ x ∈ L, x ≤ topN) (hK : ∀ x ∈ K, x ≤ topN) :
    Calls Try.prog 39 #[cV r c v, cV r2 c2 u] w fun e w' => (∃ x u, e = .returned (.tuple #[x, u]) ∧ ResC w.heap.size (rightC r c L && (rightC r2 c2 K && (decide (r = r2) && decide (c = c2)))) r c (mergeC L K) x u w') ∧ Below w.heap.size w w' := by
  obtain ⟨W0, hW0⟩ : ∃ W0, W0 = ((w.alloc (Obj.cells #[.int .i64 r, .int .i64 c, v] 24)).alloc (Obj.cells #[.int .i64 r2, .int .i64 c2, u] 24)).alloc (Obj.cells #[.int .i64 0, .int .i64 0, .slice none 0 0] 24) := ⟨_, rfl⟩
  have hz0 : W0.heap.size = w.heap.size + 3 := by rw [hW0]; simp
  have hb0 : Below w.heap.size w W0 := by rw [hW0]; exact (((Below.refl w.heap.size w).alloc (Nat.le_refl _) _).alloc (by simp) _).alloc (by simp; omega) _
  have hx0 : HasC W0 w.heap.size 24 #[.int .i64 r, .int .i64 c, v] := by rw [hW0]; exact ((HasC.new w _ _).alloc _).alloc _
  have hy0 : HasC W0 (w.heap.size + 1) 24 #[.int .i64 r2, .int .i64 c2, u] := by rw [hW0]; exact (HasC.at_ _ _ _ (by simp)).alloc _
  have hr0 : HasC W0 (w.heap.size + 2) 24 #[.int .i64 0, .int .i64 0, .slice none 0 0] := by rw [hW0]; exact HasC.at_ _ _ _ (by simp)
  obtain ⟨ao, cp, rfl, _⟩ := hv.shape
  obtain ⟨bo, dp, rfl, _⟩ := hu.shape
  obtain ⟨m, hm⟩ : ∃ m, m = L.length := ⟨_, rfl⟩
  obtain ⟨p, hp⟩ : ∃ p, p = K.length := ⟨_, rfl⟩
  have HSV := Lib.hid hv
  have HSU := Lib.hid hu
  rw [← hm] at HSV hW0 hx0 ⊢
  rw [← hp] at HSU hW0 hy0 ⊢
  have C1 := Lib.hid (check2_any r c ao m cp L hm r2 c2 bo p dp K hp W0)
  have HB := Lib.hid (hb0.alloc hb0.size (Obj.cells #[.int .i64 r, .int .i64 c, .slice ao m cp, .int .i64 r2, .int .i64 c2, .slice bo p dp] 24))
  have HX := Lib.hid (hx0.alloc (Obj.cells #[.int .i64 r, .int .i64 c, .slice ao m cp, .int .i64 r2, .int .i64 c2, .slice bo p dp] 24))
  have HY := Lib.hid (hy0.alloc (Obj.cells #[.int .i64 r, .int .i64 c, .slice ao m cp, .int .i64 r2, .int .i64 c2, .slice bo p dp] 24))
  have HR := Lib.hid (hr0.alloc (Obj.cells #[.int .i64 r, .int .i64 c, .slice ao m cp, .int .i64 r2, .int .i64 c2, .slice bo p dp] 24))
  have HZ := Lib.hid hz0
  rw [hz0] at C1
  have HM := Lib.hid hm
  have HP := Lib.hid hp
  have HLL := Lib.hid hL
  have HKK := Lib.hid hK
  subst hW0
  clear hb0 hx0 hy0 hr0 hz0 hv hu hm hp hL hK
  obtain ⟨ok, hok⟩ : ∃ ok, (rightC r c L && (rightC r2 c2 K && (decide (r = r2) && decide (c = c2)))) = ok := ⟨_, rfl⟩
  rw [hok] at C1 ⊢
  have HOK := Lib.hid hok
  clear hok
  unfold cV
  cases ok with
  | false =>
    go_enter Try.func39, Try.ntmps39
    go_wp2_with fail
    with_reducible refine (C1.out).mono ?_
    rintro e w2 ⟨⟨u, rfl, hu⟩, hb⟩
    rcases hu with ⟨hu, _⟩ | ⟨_, s, rfl⟩
    · cases hu
    have hz := HZ.out
    have hb2 := HB.out.trans (hb.mono (by omega))
    have hr2 := HR.out.below hb (by omega)
    have c0 := hr2.cell 0
    have c1 := hr2.cell 1
    have c2 := hr2.cell 2
    have z0 := hr2.frozen 0
    have z1 := hr2.frozen 1
    have z2 := hr2.frozen 2
    have HR2 := Lib.hid hr2
    clear hb hr2 hz
    go_wp2_with fail
    refine bodyPost_ret (results_cms rfl _ _ (w.heap.size + 2) _ _ _ rfl ((((HR2.out.set 0 (.int .i64 0)).set 1 (.int .i64 0)).set 2 (.slice none 0 0)).eq (cs' := #[.int .i64 0, .int .i64 0, .slice none 0 0]) rfl)) rfl ?_
    exact ⟨⟨_, _, rfl, .inr ⟨rfl, rfl, _, rfl⟩⟩, ((hb2.setCell (p := ⟨w.heap.size + 2, 0, none⟩) (by simp) _).setCell (p := ⟨w.heap.size + 2, 1, none⟩) (by simp) _).setCell (p := ⟨w.heap.size + 2, 2, none⟩) (by simp) _⟩
  | true =>
    obtain ⟨hq1, hq2⟩ := (Bool.and_eq_true _ _).mp HOK.out
    obtain ⟨hq3, hq4⟩ := (Bool.and_eq_true _ _).mp hq2
    obtain ⟨hq5, hq6⟩ := (Bool.and_eq_true _ _).mp hq4
    obtain rfl := of_decide_eq_true hq5
    obtain rfl := of_decide_eq_true hq6
    obtain ⟨a, b, rfl, rfl, h1, h2, h3, hl⟩ := rightC_nat hq1
    obtain ⟨a', b', ha', hb', _, _, _, hk⟩ := rightC_nat hq3
    have ha2 : a = a' := by omega
    have hb2 : b = b' := by omega
    subst ha2
    subst hb2
    have hb32 : b ≤ 32 := by omega
    have hpw : IntKind.i64.wrap (a : Int) = (a : Int) := wrap_ki _ (by omega) (by omega)
    clear hq1 hq2 hq3 hq4 hq5 hq6 ha' hb' hpw
    go_enter Try.func39, Try.ntmps39
    go_wp2_with fail
    with_reducible refine (C1.out).mono ?_
    rintro e w2 ⟨⟨u, rfl, hu⟩, hb⟩
    rcases hu with ⟨_, rfl⟩ | ⟨hu, _⟩
    case inr => cases hu
    have hz := HZ.out
    have hb2 := HB.out.trans (hb.mono (by omega))
    have hx2 := HX.out.below hb (by omega)
    have hy2 := HY.out.below hb (by omega)
    have hr2 := HR.out.below hb (by omega)
    have hlt2 : w.heap.size + 2 < w2.heap.size := hr2.lt
    have F1 := filled_any a b 49 #[.pointer (some ⟨w.heap.size, 0, none⟩), .pointer (some ⟨w.heap.size + 1, 0, none⟩)] (fun i j => plusS (L.getD (i * b + j) 0) (K.getD (i * b + j) 0)) w2 h1 h2 h3 (fun W hW i j hi hj => by
      have hij : i * b + j < a * b := by
        have : (i + 1) * b ≤ a * b := Nat.mul_le_mul_right _ hi
        rw [Nat.add_mul, Nat.one_mul] at this
        omega
      exact both_any w.heap.size (w.heap.size + 1) b i j L K _ _ _ _ _ W hb32 (by omega) hj (hx2.below hW hx2.lt) (hy2.below hW hy2.lt) (HSV.out.below (hb2.trans (hW.mono hb2.size))) (HSU.out.below (hb2.trans (hW.mono hb2.size))) (by omega) (by omega) HLL.out HKK.out)
      (enters_of Try.func49 (by kernel_rfl) rfl)
    rw [fill_merge a b L K hl hk] at F1
    obtain ⟨T, hT⟩ : ∃ T, T = mergeC L K := ⟨_, rfl⟩
    rw [← hT] at F1
    have HT := Lib.hid hT
    have HF := Lib.hid F1
    have HR2 := Lib.hid hr2
    have HB2 := Lib.hid hb2
    have HLT := Lib.hid hlt2
    have x0 := hx2.cell 0
    have x1 := hx2.cell 1
    clear F1 hT hr2 hb2 hb hz hx2 hy2 hl hk h1 h2 h3 hlt2 hb32
    go_wp2_with fail
    with_reducible refine (HF.out).mono ?_
    rintro e w3 ⟨⟨v, rfl, hf⟩, hb⟩
    obtain ⟨va, vn, vc, rfl⟩ := hf.form
    have hr3 := HR2.out.below hb HR2.out.lt
    have hb3 := HB2.out.trans (hb.mono HB2.out.size)
    have c0 := hr3.cell 0
    have c1 := hr3.cell 1
    have c2 := hr3.cell 2
    have z0 := hr3.frozen 0
    have z1 := hr3.frozen 1
    have z2 := hr3.frozen 2
    have HR3 := Lib.hid hr3
    have HF3 := Lib.hid hf
    clear hr3 hb hf x0 x1
    unfold cV
    go_wp2_with fail
    refine bodyPost_ret (results_cms rfl _ _ (w.heap.size + 2) _ _ _ rfl ((((HR3.out.set 0 (.int .i64 (a : Int))).set 1 (.int .i64 (b : Int))).set 2 (.slice va vn vc)).eq (cs' := #[.int .i64 (a : Int), .int .i64 (b : Int), .slice va vn vc]) rfl)) rfl ?_
    refine ⟨⟨_, _, rfl, .inl ⟨rfl, rfl, _, rfl, ?_⟩⟩, ((hb3.setCell (p := ⟨w.heap.size + 2, 0, none⟩) (by simp) _).setCell (p := ⟨w.heap.size + 2, 1, none⟩) (by simp) _).setCell (p := ⟨w.heap.size + 2, 2, none⟩) (by simp) _⟩
    have hz := HLT.out
    rw [← HT.out]
    refine (HF3.out.keep (by simp) fun j h1 h2 => ?_).mono (by omega)
    rw [Below.heap_setCell _ _ _ j (by simp; omega), Below.heap_setCell _ _ _ j (by simp; omega), Below.heap_setCell _ _ _ j (by simp; omega)]
set_option maxHeartbeats 4000000 in
set_option maxRecDepth 100000 in
theorem cMerge_any (r c : Int) (L : List Nat) (v : Value) (r2 c2 : Int) (K : List Nat) (u : Value) (w : World) (hv : NumSl w v L) (hu : NumSl w u K) (_hn : L.length ≤ 200) (_hm : K.length ≤ 200) (hL : ∀ x ∈ L, x ≤ topN) (hK : ∀ x ∈ K, x ≤ topN) :
    Calls Try.prog 23 #[cV r c v, cV r2 c2 u] w fun e w' => CmX w.heap.size (mergeCm r c L r2 c2 K) e w' ∧ Below w.heap.size w w' := by
  have hP : mergeCm r c L r2 c2 K = if (rightC r c L && (rightC r2 c2 K && (decide (r = r2) && decide (c = c2)))) then ((r, c, mergeC L K), 0) else badC := rfl
  rw [hP]
  have hb0 : Below w.heap.size w (((w.alloc (Obj.cells #[.int .i64 r, .int .i64 c, v] 24)).alloc (Obj.cells #[.int .i64 r2, .int .i64 c2, u] 24)).alloc (Obj.cells #[.int .i64 0, .int .i64 0, .slice none 0 0] 24)) := (((Below.refl w.heap.size w).alloc (Nat.le_refl _) _).alloc (by simp) _).alloc (by simp; omega) _
  have hr0 : HasC (((w.alloc (Obj.cells #[.int .i64 r, .int .i64 c, v] 24)).alloc (Obj.cells #[.int .i64 r2, .int .i64 c2, u] 24)).alloc (Obj.cells #[.int .i64 0, .int .i64 0, .slice none 0 0] 24)) (w.heap.size + 2) 24 #[.int .i64 0, .int .i64 0, .slice none 0 0] := HasC.at_ _ _ _ (by simp)
  have A1 := merge_any r c L v r2 c2 K u _ (hv.below hb0) (hu.below hb0) hL hK
  obtain ⟨ok, hok⟩ : ∃ ok, (rightC r c L && (rightC r2 c2 K && (decide (r = r2) && decide (c = c2)))) = ok := ⟨_, rfl⟩
  obtain ⟨T, hT⟩ : ∃ T, mergeC L K = T := ⟨_, rfl⟩
  rw [hok, hT] at A1
  rw [hok, hT]
  obtain ⟨P, hPP⟩ : ∃ P : Cm, P = if ok then ((r, c, T), 0) else badC := ⟨_, rfl⟩
  rw [← hPP]
  have HP1 := Lib.hid (fun (h : ok = true) => (by rw [hPP, h]; rfl : P = ((r, c, T), 0)))
  have HP0 := Lib.hid (fun (h : ok = false) => (by rw [hPP, h]; rfl : P = badC))
  clear hPP
  have HA := Lib.hid A1
  have HR := Lib.hid hr0
  have HB := Lib.hid hb0
  have HZ : Hid (w.heap.size ≤ (((w.alloc (Obj.cells #[.int .i64 r, .int .i64 c, v] 24)).alloc (Obj.cells #[.int .i64 r2, .int .i64 c2, u] 24)).alloc (Obj.cells #[.int .i64 0, .int .i64 0, .slice none 0 0] 24)).heap.size) := hb0.size
  have HZ2 : (((w.alloc (Obj.cells #[.int .i64 r, .int .i64 c, v] 24)).alloc (Obj.cells #[.int .i64 r2, .int .i64 c2, u] 24)).alloc (Obj.cells #[.int .i64 0, .int .i64 0, .slice none 0 0] 24)).heap.size = w.heap.size + 3 := by simp
  obtain ⟨ao, cp, rfl, _⟩ := hv.shape
  obtain ⟨bo, dp, rfl, _⟩ := hu.shape
  clear A1 hP hok hT hb0 hr0 hL hK
  unfold cV at HA ⊢
  go_enter Try.func23, Try.ntmps23
  go_wp2_with fail
  with_reducible refine (HA.out).mono ?_
  rintro e w2 ⟨⟨xv, uv, rfl, hres⟩, hb⟩
  have hr2 := HR.out.below hb HR.out.lt
  have hb2 := HB.out.trans (hb.mono HB.out.size)
  have HR2 := Lib.hid hr2
  have HB2 := Lib.hid hb2
  clear hb hr2 hb2
  rcases hres with ⟨hok, rfl, v, rfl, hf⟩ | ⟨hok, rfl, s, rfl⟩
  · obtain ⟨va, vn, vc, rfl⟩ := hf.form
    have hf2 := fun w3 (hb : Below w2.heap.size w2 w3) => hf.below hb
    have HF := Lib.hid hf2
    have HOK := Lib.hid hok
    clear hf hf2 hok
    unfold cV
    go_wp2_with fail
    with_reducible refine (told_ok _ _ _ _ _ _).mono ?_
    rintro e w3 ⟨rfl, hb⟩
    have hr3 := HR2.out.below hb HR2.out.lt
    have hb3 := HB2.out.trans (hb.mono HB2.out.size)
    have HF3 := Lib.hid (HF.out w3 hb)
    have c0 := hr3.cell 0
    have c1 := hr3.cell 1
    have c2 := hr3.cell 2
    have z0 := hr3.frozen 0
    have z1 := hr3.frozen 1
    have z2 := hr3.frozen 2
    have HR3 := Lib.hid hr3
    clear hr3 hb
    unfold cV
    go_wp2_with fail
    refine bodyPost_ret (results_cms rfl _ _ (w.heap.size + 2) _ _ _ rfl ((((HR3.out.set 0 (.int .i64 (r))).set 1 (.int .i64 (c))).set 2 (.slice va vn vc)).eq (cs' := #[.int .i64 (r), .int .i64 (c), .slice va vn vc]) rfl)) rfl ?_
    rw [HP1.out HOK.out]
    refine ⟨⟨_, rfl, ?_⟩, ((hb3.setCell (p := ⟨(w.heap.size + 2), 0, none⟩) (by simp) _).setCell (p := ⟨(w.heap.size + 2), 1, none⟩) (by simp) _).setCell (p := ⟨(w.heap.size + 2), 2, none⟩) (by simp) _⟩
    refine (HF3.out.keep (by simp) fun j h1 h2 => ?_).mono HZ.out
    rw [Below.heap_setCell _ _ _ j (by simp; omega), Below.heap_setCell _ _ _ j (by simp; omega), Below.heap_setCell _ _ _ j (by simp; omega)]
  · have HOK := Lib.hid hok
    clear hok
    unfold cV
    go_wp2_with fail
    with_reducible refine (told_bad _ _ _ _ _ _ _).mono ?_
    rintro e w3 ⟨rfl, hb⟩
    have hr3 := HR2.out.below hb HR2.out.lt
    have hb3 := HB2.out.trans (hb.mono HB2.out.size)
    have c0 := hr3.cell 0
    have c1 := hr3.cell 1
    have c2 := hr3.cell 2
    have z0 := hr3.frozen 0
    have z1 := hr3.frozen 1
    have z2 := hr3.frozen 2
    have HR3 := Lib.hid hr3
    clear hr3 hb
    unfold cV
    go_wp2_with fail
    refine bodyPost_ret (results_cms rfl _ _ (w.heap.size + 2) _ _ _ rfl ((((HR3.out.set 0 (.int .i64 0)).set 1 (.int .i64 0)).set 2 (.slice none 0 0)).eq (cs' := #[.int .i64 0, .int .i64 0, .slice none 0 0]) rfl)) rfl ?_
    rw [HP0.out HOK.out]
    exact ⟨⟨_, rfl, NumF.nil _ _⟩, ((hb3.setCell (p := ⟨(w.heap.size + 2), 0, none⟩) (by simp) _).setCell (p := ⟨(w.heap.size + 2), 1, none⟩) (by simp) _).setCell (p := ⟨(w.heap.size + 2), 2, none⟩) (by simp) _⟩
end Go.Proofs.Ythhlofcmhnkcmaa
