/- Package cms: empty; New. -/
import Derived.Test.YthhlofcmhnkcmaaCCFi
namespace Go.Proofs.Ythhlofcmhnkcmaa
open Go.RowKit Go.Shelf

/-- Counters in a list of their own, or none and an error. -/
def ResC (B : Nat) (ok : Bool) (r c : Int) (L : List Nat) (x u : Value) (W : World) : Prop := (ok = true ∧ u = .nilIface ∧ ∃ v, x = cV r c v ∧ NumF B W v L) ∨ (ok = false ∧ x = cV 0 0 (.slice none 0 0) ∧ ∃ s, u = .iface 69 (.string s))
theorem NumF.form {B : Nat} {w : World} {v : Value} {L : List Nat} (h : NumF B w v L) : ∃ a n c, v = .slice a n c := by
  obtain ⟨a, c, h⟩ := h.shape
  exact ⟨_, _, _, h⟩
set_option maxRecDepth 100000 in
theorem zero_any (i j : Int) (w : World) : Calls Try.prog 44 (#[.int .i64 i, .int .i64 j] ++ #[]) w fun e w' => e = .returned (nV 0) ∧ ∃ n, w' = w.drewN n := by
  show Calls Try.prog 44 #[.int .i64 i, .int .i64 j] w _
  go_enter Try.func44, Try.ntmps44
  go_wp2
  go_ret
  exact ⟨rfl, 0, rfl⟩
theorem fill_zero (b p : Nat) : fillF b (fun _ _ => 0) p = List.replicate p 0 := by
  refine List.ext_getElem (by simp [fillF]) fun i h1 h2 => ?_
  simp [fillF]
set_option maxHeartbeats 4000000 in
set_option maxRecDepth 100000 in
theorem empty_any (r c : Int) (w : World) :
    Calls Try.prog 31 #[.int .i64 r, .int .i64 c] w fun e w' => (∃ x u, e = .returned (.tuple #[x, u]) ∧ ResC w.heap.size (okC r c) r c (ofI r.toNat c.toNat []) x u w') ∧ Below w.heap.size w w' := by
  have S1 := Lib.hid (fun W => shape_any r c W)
  have hx0 := HasC.new w 24 #[.int .i64 0, .int .i64 0, .slice none 0 0]
  have hb0 := (Below.refl w.heap.size w).alloc (Nat.le_refl _) (Obj.cells #[.int .i64 0, .int .i64 0, .slice none 0 0] 24)
  cases hq : okC r c with
  | false =>
    rw [hq] at S1
    have HX := Lib.hid hx0
    have HB := Lib.hid hb0
    clear hq hx0 hb0
    go_enter Try.func31, Try.ntmps31
    go_wp2_with fail
    with_reducible refine (S1.out _).mono ?_
    rintro e w1 ⟨⟨u, rfl, hu⟩, rfl⟩
    rcases hu with ⟨hu, _⟩ | ⟨_, s, rfl⟩
    · cases hu
    go_wp2_with fail
    refine bodyPost_ret (results_cms rfl _ _ w.heap.size _ _ _ rfl HX.out) rfl ?_
    exact ⟨⟨_, _, rfl, .inr ⟨rfl, rfl, _, rfl⟩⟩, HB.out⟩
  | true =>
    rw [hq] at S1
    obtain ⟨a, b, rfl, rfl, h1, h2, h3⟩ := okC_nat hq
    obtain ⟨W1, hW1⟩ : ∃ W1, W1 = w.alloc (Obj.cells #[.int .i64 0, .int .i64 0, .slice none 0 0] 24) := ⟨_, rfl⟩
    rw [← hW1] at hx0 hb0
    have F1 := filled_any a b 44 #[] (fun _ _ => 0) W1 h1 h2 h3 (fun W _ i j _ _ => zero_any i j W) (enters_of Try.func44 (by kernel_rfl) rfl)
    rw [fill_zero, ← cnt_nil] at F1
    obtain ⟨L, hL⟩ : ∃ L, L = ofI a b [] := ⟨_, rfl⟩
    rw [Int.toNat_natCast, Int.toNat_natCast, ← hL]
    rw [← hL] at F1
    have HF := Lib.hid F1
    have HX := Lib.hid hx0
    have HB := Lib.hid hb0
    have HW := Lib.hid hW1
    clear hq hx0 hb0 F1 hL h1 h2 h3 hW1
    go_enter Try.func31, Try.ntmps31
    go_wp2_with fail
    with_reducible refine (S1.out _).mono ?_
    rintro e w1 ⟨⟨u, rfl, hu⟩, rfl⟩
    rcases hu with ⟨_, rfl⟩ | ⟨hu, _⟩
    case inr => cases hu
    rw [← HW.out]
    go_wp2_with fail
    with_reducible refine (HF.out).mono ?_
    rintro e w3 ⟨⟨v, rfl, hf⟩, hb⟩
    obtain ⟨va, vn, vc, rfl⟩ := hf.form
    have hr3 := HX.out.below hb HX.out.lt
    have hb3 := HB.out.trans (hb.mono HB.out.size)
    have c0 := hr3.cell 0
    have c1 := hr3.cell 1
    have c2 := hr3.cell 2
    have z0 := hr3.frozen 0
    have z1 := hr3.frozen 1
    have z2 := hr3.frozen 2
    have HR3 := Lib.hid hr3
    have HF3 := Lib.hid hf
    have HZ := Lib.hid (HX.out.lt)
    clear hr3 hb hf
    unfold cV
    go_wp2_with fail
    refine bodyPost_ret (results_cms rfl _ _ w.heap.size _ _ _ rfl ((((HR3.out.set 0 (.int .i64 (a : Int))).set 1 (.int .i64 (b : Int))).set 2 (.slice va vn vc)).eq (cs' := #[.int .i64 (a : Int), .int .i64 (b : Int), .slice va vn vc]) rfl)) rfl ?_
    refine ⟨⟨_, _, rfl, .inl ⟨rfl, rfl, _, rfl, ?_⟩⟩, ((hb3.setCell (p := ⟨w.heap.size, 0, none⟩) (by simp) _).setCell (p := ⟨w.heap.size, 1, none⟩) (by simp) _).setCell (p := ⟨w.heap.size, 2, none⟩) (by simp) _⟩
    have hz := HZ.out
    refine (HF3.out.keep (by simp) fun j h1 h2 => ?_).mono (by omega)
    rw [Below.heap_setCell _ _ _ j (by simp; omega), Below.heap_setCell _ _ _ j (by simp; omega), Below.heap_setCell _ _ _ j (by simp; omega)]
set_option maxHeartbeats 4000000 in
set_option maxRecDepth 100000 in
theorem cNew_any (r c : Int) (w : World) :
    Calls Try.prog 12 #[.int .i64 r, .int .i64 c] w fun e w' => CmX w.heap.size (newCm r c) e w' ∧ Below w.heap.size w w' := by
  have hP : newCm r c = if okC r c then ((r, c, ofI r.toNat c.toNat []), 0) else badC := rfl
  rw [hP]
  obtain ⟨ok, hok⟩ : ∃ ok, okC r c = ok := ⟨_, rfl⟩
  obtain ⟨T, hT⟩ : ∃ T, ofI r.toNat c.toNat [] = T := ⟨_, rfl⟩
  have A1 := empty_any r c (w.alloc (Obj.cells #[.int .i64 0, .int .i64 0, .slice none 0 0] 24))
  rw [hok, hT] at A1
  rw [hok, hT]
  obtain ⟨P, hPP⟩ : ∃ P : Cm, P = if ok then ((r, c, T), 0) else badC := ⟨_, rfl⟩
  rw [← hPP]
  have HP1 := Lib.hid (fun (h : ok = true) => (by rw [hPP, h]; rfl : P = ((r, c, T), 0)))
  have HP0 := Lib.hid (fun (h : ok = false) => (by rw [hPP, h]; rfl : P = badC))
  clear hPP
  have HA := Lib.hid A1
  have HR := Lib.hid (HasC.new w 24 #[.int .i64 0, .int .i64 0, .slice none 0 0])
  have HB := Lib.hid ((Below.refl w.heap.size w).alloc (Nat.le_refl _) (Obj.cells #[.int .i64 0, .int .i64 0, .slice none 0 0] 24))
  have HZ : Hid (w.heap.size ≤ (w.alloc (Obj.cells #[.int .i64 0, .int .i64 0, .slice none 0 0] 24)).heap.size) := HB.out.size
  have HZ2 : (w.alloc (Obj.cells #[.int .i64 0, .int .i64 0, .slice none 0 0] 24)).heap.size = w.heap.size + 1 := by simp
  clear A1 hP hok hT
  go_enter Try.func12, Try.ntmps12
  go_wp2_with fail
  with_reducible refine (HA.out).mono ?_
  rintro e w2 ⟨⟨xv, uv, rfl, hres⟩, hb⟩
  have hr2 := HR.out.below hb HR.out.lt
  have hb2 := HB.out.trans (hb.mono HB.out.size)
  have HR2 := Lib.hid hr2
  have HB2 := Lib.hid hb2
  clear hb hr2 hb2
  rcases hres with ⟨hok, rfl, v, rfl, hf⟩ | ⟨hok, rfl, s, rfl⟩
  · obtain ⟨va, vn, vc, rfl⟩ := hf.form
    have hf2 := fun w3 (hb : Below w2.heap.size w2 w3) => hf.below hb
    have HF := Lib.hid hf2
    have HOK := Lib.hid hok
    clear hf hf2 hok
    unfold cV
    go_wp2_with fail
    with_reducible refine (told_ok _ _ _ _ _ _).mono ?_
    rintro e w3 ⟨rfl, hb⟩
    have hr3 := HR2.out.below hb HR2.out.lt
    have hb3 := HB2.out.trans (hb.mono HB2.out.size)
    have HF3 := Lib.hid (HF.out w3 hb)
    have c0 := hr3.cell 0
    have c1 := hr3.cell 1
    have c2 := hr3.cell 2
    have z0 := hr3.frozen 0
    have z1 := hr3.frozen 1
    have z2 := hr3.frozen 2
    have HR3 := Lib.hid hr3
    clear hr3 hb
    unfold cV
    go_wp2_with fail
    refine bodyPost_ret (results_cms rfl _ _ w.heap.size _ _ _ rfl ((((HR3.out.set 0 (.int .i64 (r))).set 1 (.int .i64 (c))).set 2 (.slice va vn vc)).eq (cs' := #[.int .i64 (r), .int .i64 (c), .slice va vn vc]) rfl)) rfl ?_
    rw [HP1.out HOK.out]
    refine ⟨⟨_, rfl, ?_⟩, ((hb3.setCell (p := ⟨w.heap.size, 0, none⟩) (by simp) _).setCell (p := ⟨w.heap.size, 1, none⟩) (by simp) _).setCell (p := ⟨w.heap.size, 2, none⟩) (by simp) _⟩
    refine (HF3.out.keep (by simp) fun j h1 h2 => ?_).mono HZ.out
    rw [Below.heap_setCell _ _ _ j (by simp; omega), Below.heap_setCell _ _ _ j (by simp; omega), Below.heap_setCell _ _ _ j (by simp; omega)]
  · have HOK := Lib.hid hok
    clear hok
    unfold cV
    go_wp2_with fail
    with_reducible refine (told_bad _ _ _ _ _ _ _).mono ?_
    rintro e w3 ⟨rfl, hb⟩
    have hr3 := HR2.out.below hb HR2.out.lt
    have hb3 := HB2.out.trans (hb.mono HB2.out.size)
    have c0 := hr3.cell 0
    have c1 := hr3.cell 1
    have c2 := hr3.cell 2
    have z0 := hr3.frozen 0
    have z1 := hr3.frozen 1
    have z2 := hr3.frozen 2
    have HR3 := Lib.hid hr3
    clear hr3 hb
    unfold cV
    go_wp2_with fail
    refine bodyPost_ret (results_cms rfl _ _ w.heap.size _ _ _ rfl ((((HR3.out.set 0 (.int .i64 0)).set 1 (.int .i64 0)).set 2 (.slice none 0 0)).eq (cs' := #[.int .i64 0, .int .i64 0, .slice none 0 0]) rfl)) rfl ?_
    rw [HP0.out HOK.out]
    exact ⟨⟨_, rfl, NumF.nil _ _⟩, ((hb3.setCell (p := ⟨w.heap.size, 0, none⟩) (by simp) _).setCell (p := ⟨w.heap.size, 1, none⟩) (by simp) _).setCell (p := ⟨w.heap.size, 2, none⟩) (by simp) _⟩
end Go.Proofs.Ythhlofcmhnkcmaa
