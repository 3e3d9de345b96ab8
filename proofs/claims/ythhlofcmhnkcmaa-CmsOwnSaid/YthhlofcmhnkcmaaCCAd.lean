/- Package cms: begin, add; Add. -/
import Derived.Test.YthhlofcmhnkcmaaCCCp
namespace Go.Proofs.Ythhlofcmhnkcmaa
open Go.RowKit Go.Shelf

set_option maxHeartbeats 4000000 in
set_option maxRecDepth 100000 in
theorem begin_in (n : Nat) (a b m : Nat) (L : List Nat) (ao : Option Addr) (cp : Nat) (w : World) (hv : NumSl w (.slice ao m cp) L) (hm : m = L.length) (hm128 : m ≤ 128) :
    CallsIn Fence.wide n Try.prog 45 #[cV a b (.slice ao m cp)] w fun e w' => e = .returned (.pointer (some ⟨w.heap.size + 1, 0, none⟩)) ∧ WkC w' (w.heap.size + 1) a b (.slice (some ⟨w.heap.size + 2, 0, none⟩) m m) ∧ w'.ownsRow (w.heap.size + 2) 25 1 (.slice (some ⟨w.heap.size + 2, 0, none⟩) m m) m (numL L) ∧ Below w.heap.size w w' := by
  obtain ⟨i0, hi, hz0', hz1, hz2⟩ := partsE infoN
  have i1 := Lib.hid hi
  have i2 := Lib.hid hz0'
  have i3 := Lib.hid hz1
  have i4 := Lib.hid hz2
  clear hi hz0' hz1 hz2
  obtain ⟨W0, hW0⟩ : ∃ W0, W0 = (w.alloc (Obj.cells #[.int .i64 (a : Int), .int .i64 (b : Int), .slice ao m cp] 24)).alloc (Obj.cells #[.int .i64 (a : Int), .int .i64 (b : Int), .slice ao m cp] 59) := ⟨_, rfl⟩
  have hz0 : W0.heap.size = w.heap.size + 2 := by rw [hW0]; simp
  have hb0 : Below w.heap.size w W0 := by rw [hW0]; exact ((Below.refl w.heap.size w).alloc (Nat.le_refl _) _).alloc (by simp) _
  have hx0 : HasC W0 w.heap.size 24 #[.int .i64 (a : Int), .int .i64 (b : Int), .slice ao m cp] := by rw [hW0]; exact (HasC.new w _ _).alloc _
  have hk0 : WkC W0 (w.heap.size + 1) a b (.slice ao m cp) := by rw [hW0]; exact HasC.at_ _ _ _ (by simp)
  have HV := Lib.hid hv
  have HM := Lib.hid hm
  have HK := Lib.hid hk0
  have HB := Lib.hid hb0
  have HX := Lib.hid hx0
  have HZ := Lib.hid hz0
  have c2 := hx0.cell 2
  subst hW0
  clear hv hm hk0 hb0 hx0 hz0
  unfold cV
  refine callsIn_of_wp Try.func45 rfl trivial ?_ rfl
  simp only [Try.ntmps45, List.size_toArray, List.length_cons, List.length_nil, Nat.reduceAdd, Nat.reduceSub, Array.replicate_succ, Array.replicate_zero, List.push_toArray, List.append_toArray, List.nil_append, List.cons_append]
  gi_wp2_with (first
    | (gi_at_make; refine wpListIn_make_full _ rfl (.tmp 8) (.tmp 8) 22 rfl (w.heap.size + 2) 25 i0 (.int .u64 0) 1 Try.underlying22 i1.out i2.out i3.out .i64 .i64 _ _ m rfl rfl rfl rfl (by rw [i4.out]; omega) (by unfold maxLen; omega) (by rw [HZ.out]; exact Nat.le_refl _) ?_; intro w2 hown2 hgrow2; rw [HZ.out] at hown2 ⊢; have hb12 := HB.out.grown hgrow2 (by rw [HZ.out]; omega) (fun k hk => by cases hk); have hg2 := (Below.refl _ _).grown hgrow2 (Nat.le_refl _) (fun k hk => by cases hk); rw [HZ.out] at hg2; have hx2 := HX.out.below hg2 (by omega); have hk2 := HK.out.below hg2 (by omega); have d2 := hk2.cell 2; have y2 := hk2.frozen 2; have HO2 := Lib.hid hown2; have HK2 := Lib.hid hk2; have HX2 := Lib.hid hx2; have HB2 := Lib.hid hb12; have e2 := (hx2.far ⟨w.heap.size + 1, 2, none⟩ (.slice (some ⟨w.heap.size + 2, 0, none⟩) m m) (by simp)).cell 2; have k3 := (hk2.set 2 (.slice (some ⟨w.heap.size + 2, 0, none⟩) m m)).cell 2; clear c2 hown2 hgrow2 hb12 hg2 hx2 hk2)
    | (refine wpListIn_copyN _ rfl (.tmp 14) (.tmp 16) rfl (w.heap.size + 2) (w.heap.size + 2) m _ rfl (ownsRow_setCell_below HO2.out (a := ⟨w.heap.size + 1, 2, none⟩) (by simp) _) (.slice ao m cp) L rfl (HV.out.below (HB2.out.setCell (p := ⟨w.heap.size + 1, 2, none⟩) (by simp) _)) HM.out.symm ?_; intro w3 hown3 hgrow3; have HO3 := Lib.hid hown3; have HG3 := Lib.hid hgrow3; clear hown3 hgrow3))
  refine bodyPost_ret (results_tmp rfl _ _ _) rfl ?_
  have hz2 : w.heap.size + 2 < w2.heap.size := (HO2.out.lt _ rfl).2
  refine ⟨rfl, (HG3.out.block (w.heap.size + 1) (by simp; omega) (by simp)).trans ((HK2.out.set 2 _).eq rfl), HO3.out, (HB2.out.setCell (p := ⟨w.heap.size + 1, 2, none⟩) (by simp) _).grown HG3.out (by simp; omega) (fun k hk => by cases hk; omega)⟩
theorem NumAt.mono {n0 n1 : Nat} {ao : Option Addr} {L : List Nat} {w : World} (h : NumAt n0 ao L w) (hn : n0 ≤ n1) : NumAt n1 ao L w := fun j hj => by
  obtain ⟨g, o, h1, h2, h3⟩ := h j hj
  exact ⟨g, o, h1, by omega, h3⟩
set_option maxHeartbeats 4000000 in
set_option maxRecDepth 100000 in
theorem add_any (r c : Int) (L hs : List Nat) (v u : Value) (x : Nat) (w : World) (hv : NumSl w v L) (hu : NumSl w u hs) (hL : ∀ y ∈ L, y ≤ topN) (hsn : hs.length ≤ 1000) (hsx : ∀ h ∈ hs, h ≤ topN) (hx : x ≤ topN) :
    Calls Try.prog 33 #[cV r c v, nV x, u] w fun e w' => (∃ y u, e = .returned (.tuple #[y, u]) ∧ ResC w.heap.size (rightC r c L) r c (tellC c.toNat x L hs) y u w') ∧ Below w.heap.size w w' := by
  obtain ⟨W0, hW0⟩ : ∃ W0, W0 = (w.alloc (Obj.cells #[.int .i64 r, .int .i64 c, v] 24)).alloc (Obj.cells #[.int .i64 0, .int .i64 0, .slice none 0 0] 24) := ⟨_, rfl⟩
  have hz0 : W0.heap.size = w.heap.size + 2 := by rw [hW0]; simp
  have hb0 : Below w.heap.size w W0 := by rw [hW0]; exact ((Below.refl w.heap.size w).alloc (Nat.le_refl _) _).alloc (by simp) _
  have hx0 : HasC W0 w.heap.size 24 #[.int .i64 r, .int .i64 c, v] := by rw [hW0]; exact (HasC.new w _ _).alloc _
  have hr0 : HasC W0 (w.heap.size + 1) 24 #[.int .i64 0, .int .i64 0, .slice none 0 0] := by rw [hW0]; exact HasC.at_ _ _ _ (by simp)
  obtain ⟨ao, cp, rfl, _⟩ := hv.shape
  obtain ⟨bo, dp, rfl, hNA⟩ := hu.at_
  obtain ⟨m, hm⟩ : ∃ m, m = L.length := ⟨_, rfl⟩
  obtain ⟨p, hp⟩ : ∃ p, p = hs.length := ⟨_, rfl⟩
  have HSV := Lib.hid hv
  have HNA := Lib.hid hNA
  rw [← hm] at HSV hW0 hx0 ⊢
  rw [← hp]
  have C1 := Lib.hid (check1_any r c ao m cp L hm W0)
  have HB := Lib.hid (hb0.alloc hb0.size (Obj.cells #[.int .i64 r, .int .i64 c, .slice ao m cp] 24))
  have HX := Lib.hid (hx0.alloc (Obj.cells #[.int .i64 r, .int .i64 c, .slice ao m cp] 24))
  have HR := Lib.hid (hr0.alloc (Obj.cells #[.int .i64 r, .int .i64 c, .slice ao m cp] 24))
  have HZ := Lib.hid hz0
  rw [hz0] at C1
  have HM := Lib.hid hm
  have HPP := Lib.hid hp
  have HLL := Lib.hid hL
  have HSN := Lib.hid hsn
  have HSX := Lib.hid hsx
  subst hW0
  clear hb0 hx0 hr0 hz0 hv hu hm hp hL hNA hsn hsx
  unfold cV
  cases hq : rightC r c L with
  | false =>
    rw [hq] at C1
    clear hq
    go_enter Try.func33, Try.ntmps33
    go_wp2_with fail
    with_reducible refine (C1.out).mono ?_
    rintro e w2 ⟨⟨u, rfl, hu⟩, hb⟩
    rcases hu with ⟨hu, _⟩ | ⟨_, s, rfl⟩
    · cases hu
    have hz := HZ.out
    have hb2 := HB.out.trans (hb.mono (by omega))
    have hr2 := HR.out.below hb (by omega)
    have c0 := hr2.cell 0
    have c1 := hr2.cell 1
    have c2 := hr2.cell 2
    have z0 := hr2.frozen 0
    have z1 := hr2.frozen 1
    have z2 := hr2.frozen 2
    have HR2 := Lib.hid hr2
    clear hb hr2 hz
    go_wp2_with fail
    refine bodyPost_ret (results_cms rfl _ _ (w.heap.size + 1) _ _ _ rfl ((((HR2.out.set 0 (.int .i64 0)).set 1 (.int .i64 0)).set 2 (.slice none 0 0)).eq (cs' := #[.int .i64 0, .int .i64 0, .slice none 0 0]) rfl)) rfl ?_
    exact ⟨⟨_, _, rfl, .inr ⟨rfl, rfl, _, rfl⟩⟩, ((hb2.setCell (p := ⟨w.heap.size + 1, 0, none⟩) (by simp) _).setCell (p := ⟨w.heap.size + 1, 1, none⟩) (by simp) _).setCell (p := ⟨w.heap.size + 1, 2, none⟩) (by simp) _⟩
  | true =>
    rw [hq] at C1
    obtain ⟨a, b, rfl, rfl, h1, h2, h3, hl⟩ := rightC_nat hq
    rw [Int.toNat_natCast]
    obtain ⟨T, hT⟩ : ∃ T, tellC b x L hs = T := ⟨_, rfl⟩
    rw [hT]
    have HT := Lib.hid hT
    have hb0 : 0 < b := by omega
    have hb32 : b ≤ 32 := by omega
    have hab : a * b ≤ 4 * 32 := Nat.mul_le_mul h2 hb32
    have hm128 : m ≤ 128 := by have := HM.out; omega
    have hmab : m = a * b := by rw [HM.out, hl]
    have HMB := Lib.hid hmab
    clear hq hT hab h3 hmab
    go_enter Try.func33, Try.ntmps33
    go_wp2_with fail
    with_reducible refine (C1.out).mono ?_
    rintro e w2 ⟨⟨u, rfl, hu⟩, hb⟩
    rcases hu with ⟨_, rfl⟩ | ⟨hu, _⟩
    case inr => cases hu
    have hz := HZ.out
    have hb2 := HB.out.trans (hb.mono (by omega))
    have hx2 := HX.out.below hb (by omega)
    have hr2 := HR.out.below hb (by omega)
    have hlt2 : w.heap.size + 1 < w2.heap.size := hr2.lt
    have G1 := Lib.hid (callsIn_wide.1 (begin_in 5 a b m L ao cp w2 (HSV.out.below hb2) HM.out hm128))
    have c0 := hx2.cell 0
    have c1 := hx2.cell 1
    have c2 := hx2.cell 2
    have HR2 := Lib.hid hr2
    have HB2 := Lib.hid hb2
    have HLT := Lib.hid hlt2
    unfold cV at G1
    clear hx2 hr2 hb2 hb hz hlt2
    go_wp2_with fail
    with_reducible refine (G1.out).mono ?_
    rintro e w3 ⟨rfl, hk3, ho3, hb3⟩
    have hlt2 := HLT.out
    have hr3 := HR2.out.below hb3 (by omega)
    have hbw3 := HB2.out.trans (hb3.mono (by omega))
    have hz3 : w2.heap.size + 2 < w3.heap.size := (ho3.lt _ rfl).2
    have hT1 := callsIn_wide.1 (tell_in 7 (by decide) (w2.heap.size + 1) (w2.heap.size + 2) a b m m x L hs bo dp w3 h2 hb0 hb32 HMB.out hx hk3 ho3 hz3 (by omega) HM.out.symm HLL.out ((HNA.out.below hbw3).mono (by omega)) HSN.out HSX.out)
    rw [HT.out, ← HPP.out] at hT1
    have HTT := Lib.hid hT1
    have HR3 := Lib.hid hr3
    have HB3 := Lib.hid hbw3
    have HK3 := Lib.hid hk3
    clear hlt2 hr3 hbw3 hz3 hT1 hk3 ho3 hb3 c0 c1 c2
    go_wp2_with fail
    with_reducible refine (HTT.out).mono ?_
    rintro e w4 ⟨⟨u, rfl⟩, ho4, hb4⟩
    have hlt2 := HLT.out
    have hk4 := HK3.out.below hb4 (by omega)
    have hr4 := HR3.out.below hb4 (by omega)
    have hbw4 : Below w.heap.size w w4 := HB3.out.trans (hb4.mono (by omega))
    have hTl : T.length = m := by rw [← HT.out, tellC_len, HM.out]
    have hf4 : NumF (w2.heap.size + 2) w4 (.slice (some ⟨w2.heap.size + 2, 0, none⟩) m m) T := numF_of_owns (by rw [hTl]; exact ho4)
    have d0 := hk4.cell 0
    have d1 := hk4.cell 1
    have d2 := hk4.cell 2
    have c0 := hr4.cell 0
    have c1 := hr4.cell 1
    have c2 := hr4.cell 2
    have z0 := hr4.frozen 0
    have z1 := hr4.frozen 1
    have z2 := hr4.frozen 2
    have HR4 := Lib.hid hr4
    have HF4 := Lib.hid hf4
    clear hr4 hf4 hk4 ho4 hb4 hlt2 hTl
    go_wp2_with fail
    refine bodyPost_ret (results_cms rfl _ _ (w.heap.size + 1) _ _ _ rfl ((((HR4.out.set 0 (.int .i64 (a : Int))).set 1 (.int .i64 (b : Int))).set 2 (.slice (some ⟨w2.heap.size + 2, 0, none⟩) m m)).eq (cs' := #[.int .i64 (a : Int), .int .i64 (b : Int), .slice (some ⟨w2.heap.size + 2, 0, none⟩) m m]) rfl)) rfl ?_
    refine ⟨⟨_, _, rfl, .inl ⟨rfl, rfl, _, rfl, ?_⟩⟩, ((hbw4.setCell (p := ⟨w.heap.size + 1, 0, none⟩) (by simp) _).setCell (p := ⟨w.heap.size + 1, 1, none⟩) (by simp) _).setCell (p := ⟨w.heap.size + 1, 2, none⟩) (by simp) _⟩
    have hlt2 := HLT.out
    refine (HF4.out.keep (by simp) fun j h1 h2 => ?_).mono (by omega)
    rw [Below.heap_setCell _ _ _ j (by simp; omega), Below.heap_setCell _ _ _ j (by simp; omega), Below.heap_setCell _ _ _ j (by simp; omega)]
set_option maxHeartbeats 4000000 in
set_option maxRecDepth 100000 in
theorem cAdd_any (r c : Int) (L : List Nat) (v : Value) (h x : Nat) (w : World) (hv : NumSl w v L) (_hn : L.length ≤ 200) (hL : ∀ y ∈ L, y ≤ topN) (hh : h ≤ topN) (hx : x ≤ topN) :
    Calls Try.prog 14 #[cV r c v, nV h, nV x] w fun e w' => CmX w.heap.size (addCm r c L h x) e w' ∧ Below w.heap.size w w' := by
  have hP : addCm r c L h x = if rightC r c L then ((r, c, tellC c.toNat x L [h]), 0) else badC := rfl
  rw [hP]
  have hb0 : Below w.heap.size w (((w.alloc (Obj.cells #[.int .i64 r, .int .i64 c, v] 24)).alloc (Obj.cells #[.int .i64 0, .int .i64 0, .slice none 0 0] 24)).alloc (Obj.cells #[nV h] 25)) := (((Below.refl w.heap.size w).alloc (Nat.le_refl _) _).alloc (by simp) _).alloc (by simp; omega) _
  have hr0 : HasC (((w.alloc (Obj.cells #[.int .i64 r, .int .i64 c, v] 24)).alloc (Obj.cells #[.int .i64 0, .int .i64 0, .slice none 0 0] 24)).alloc (Obj.cells #[nV h] 25)) (w.heap.size + 1) 24 #[.int .i64 0, .int .i64 0, .slice none 0 0] := (HasC.at_ _ _ _ (by simp)).alloc _
  have hn0 : HasC (((w.alloc (Obj.cells #[.int .i64 r, .int .i64 c, v] 24)).alloc (Obj.cells #[.int .i64 0, .int .i64 0, .slice none 0 0] 24)).alloc (Obj.cells #[nV h] 25)) (w.heap.size + 2) 25 #[nV h] := HasC.at_ _ _ _ (by simp)
  have hs0 : NumSl (((w.alloc (Obj.cells #[.int .i64 r, .int .i64 c, v] 24)).alloc (Obj.cells #[.int .i64 0, .int .i64 0, .slice none 0 0] 24)).alloc (Obj.cells #[nV h] 25)) (.slice (some ⟨w.heap.size + 2, 0, none⟩) 1 1) [h] := .inr ⟨_, _, _, rfl, by simp, hn0.lt, fun j hj => by
    have hj0 : j = 0 := by simpa using hj
    subst hj0
    exact hn0.cell 0⟩
  have A1 := add_any r c L [h] v (.slice (some ⟨w.heap.size + 2, 0, none⟩) 1 1) x _ (hv.below hb0) hs0 hL (by simp) (fun y hy => by rw [List.mem_singleton.1 hy]; exact hh) hx
  obtain ⟨ok, hok⟩ : ∃ ok, rightC r c L = ok := ⟨_, rfl⟩
  obtain ⟨T, hT⟩ : ∃ T, tellC c.toNat x L [h] = T := ⟨_, rfl⟩
  rw [hok, hT] at A1
  rw [hok, hT]
  obtain ⟨P, hPP⟩ : ∃ P : Cm, P = if ok then ((r, c, T), 0) else badC := ⟨_, rfl⟩
  rw [← hPP]
  have HP1 := Lib.hid (fun (h : ok = true) => (by rw [hPP, h]; rfl : P = ((r, c, T), 0)))
  have HP0 := Lib.hid (fun (h : ok = false) => (by rw [hPP, h]; rfl : P = badC))
  clear hPP
  have HA := Lib.hid A1
  have HR := Lib.hid hr0
  have HB := Lib.hid hb0
  have HZ : Hid (w.heap.size ≤ (((w.alloc (Obj.cells #[.int .i64 r, .int .i64 c, v] 24)).alloc (Obj.cells #[.int .i64 0, .int .i64 0, .slice none 0 0] 24)).alloc (Obj.cells #[nV h] 25)).heap.size) := hb0.size
  have HZ2 : (((w.alloc (Obj.cells #[.int .i64 r, .int .i64 c, v] 24)).alloc (Obj.cells #[.int .i64 0, .int .i64 0, .slice none 0 0] 24)).alloc (Obj.cells #[nV h] 25)).heap.size = w.heap.size + 3 := by simp
  obtain ⟨ao, cp, rfl, _⟩ := hv.shape
  clear A1 hP hok hT hb0 hr0 hn0 hs0 hL
  unfold cV at HA ⊢
  go_enter Try.func14, Try.ntmps14
  go_wp2_with fail
  with_reducible refine (HA.out).mono ?_
  rintro e w2 ⟨⟨xv, uv, rfl, hres⟩, hb⟩
  have hr2 := HR.out.below hb HR.out.lt
  have hb2 := HB.out.trans (hb.mono HB.out.size)
  have HR2 := Lib.hid hr2
  have HB2 := Lib.hid hb2
  clear hb hr2 hb2
  rcases hres with ⟨hok, rfl, v, rfl, hf⟩ | ⟨hok, rfl, s, rfl⟩
  · obtain ⟨va, vn, vc, rfl⟩ := hf.form
    have hf2 := fun w3 (hb : Below w2.heap.size w2 w3) => hf.below hb
    have HF := Lib.hid hf2
    have HOK := Lib.hid hok
    clear hf hf2 hok
    unfold cV
    go_wp2_with fail
    with_reducible refine (told_ok _ _ _ _ _ _).mono ?_
    rintro e w3 ⟨rfl, hb⟩
    have hr3 := HR2.out.below hb HR2.out.lt
    have hb3 := HB2.out.trans (hb.mono HB2.out.size)
    have HF3 := Lib.hid (HF.out w3 hb)
    have c0 := hr3.cell 0
    have c1 := hr3.cell 1
    have c2 := hr3.cell 2
    have z0 := hr3.frozen 0
    have z1 := hr3.frozen 1
    have z2 := hr3.frozen 2
    have HR3 := Lib.hid hr3
    clear hr3 hb
    unfold cV
    go_wp2_with fail
    refine bodyPost_ret (results_cms rfl _ _ (w.heap.size + 1) _ _ _ rfl ((((HR3.out.set 0 (.int .i64 (r))).set 1 (.int .i64 (c))).set 2 (.slice va vn vc)).eq (cs' := #[.int .i64 (r), .int .i64 (c), .slice va vn vc]) rfl)) rfl ?_
    rw [HP1.out HOK.out]
    refine ⟨⟨_, rfl, ?_⟩, ((hb3.setCell (p := ⟨(w.heap.size + 1), 0, none⟩) (by simp) _).setCell (p := ⟨(w.heap.size + 1), 1, none⟩) (by simp) _).setCell (p := ⟨(w.heap.size + 1), 2, none⟩) (by simp) _⟩
    refine (HF3.out.keep (by simp) fun j h1 h2 => ?_).mono HZ.out
    rw [Below.heap_setCell _ _ _ j (by simp; omega), Below.heap_setCell _ _ _ j (by simp; omega), Below.heap_setCell _ _ _ j (by simp; omega)]
  · have HOK := Lib.hid hok
    clear hok
    unfold cV
    go_wp2_with fail
    with_reducible refine (told_bad _ _ _ _ _ _ _).mono ?_
    rintro e w3 ⟨rfl, hb⟩
    have hr3 := HR2.out.below hb HR2.out.lt
    have hb3 := HB2.out.trans (hb.mono HB2.out.size)
    have c0 := hr3.cell 0
    have c1 := hr3.cell 1
    have c2 := hr3.cell 2
    have z0 := hr3.frozen 0
    have z1 := hr3.frozen 1
    have z2 := hr3.frozen 2
    have HR3 := Lib.hid hr3
    clear hr3 hb
    unfold cV
    go_wp2_with fail
    refine bodyPost_ret (results_cms rfl _ _ (w.heap.size + 1) _ _ _ rfl ((((HR3.out.set 0 (.int .i64 0)).set 1 (.int .i64 0)).set 2 (.slice none 0 0)).eq (cs' := #[.int .i64 0, .int .i64 0, .slice none 0 0]) rfl)) rfl ?_
    rw [HP0.out HOK.out]
    exact ⟨⟨_, rfl, NumF.nil _ _⟩, ((hb3.setCell (p := ⟨(w.heap.size + 1), 0, none⟩) (by simp) _).setCell (p := ⟨(w.heap.size + 1), 1, none⟩) (by simp) _).setCell (p := ⟨(w.heap.size + 1), 2, none⟩) (by simp) _⟩
end Go.Proofs.Ythhlofcmhnkcmaa
