/- Package cms: check of one, of two; Right. -/
import Derived.Test.YthhlofcmhnkcmaaCCCh
namespace Go.Proofs.Ythhlofcmhnkcmaa
open Go.RowKit Go.Shelf

theorem check_any (ao : Option Addr) (c : Nat) (L : List Cx) (w : World) (hL : CmAt w.heap.size ao L w) (hn : L.length ≤ 10) :
    Calls Try.prog 35 #[.slice ao L.length c] w fun e w' => (∃ u, e = .returned u ∧ ErrV (checkL L) u) ∧ Below w.heap.size w w' :=
  callsIn_wide.1 (check_in 5 (by decide) ao c L w hL hn)
theorem check_one (r c : Int) (a : Option Addr) (n p : Nat) (L : List Nat) (hn : n = L.length) : checkL [⟨r, c, a, n, p⟩] = rightC r c L := by
  unfold checkL okX headR headC rightC
  rw [hn]
  simp
theorem check_two (r c : Int) (a : Option Addr) (n p : Nat) (L : List Nat) (hn : n = L.length) (r2 c2 : Int) (b : Option Addr) (m q : Nat) (K : List Nat) (hm : m = K.length) :
    checkL [⟨r, c, a, n, p⟩, ⟨r2, c2, b, m, q⟩] = (rightC r c L && (rightC r2 c2 K && (decide (r = r2) && decide (c = c2)))) := by
  unfold checkL okX headR headC rightC
  rw [hn, hm]
  by_cases h1 : r = r2
  · by_cases h2 : c = c2
    · subst h1; subst h2; simp
    · simp [h2, Ne.symm h2]
  · simp [h1, Ne.symm h1]
/-- One's counters, or two's, in a list of their own. -/
theorem cms_one (w : World) (x : Cx) (T : TypeId) : CmAt (w.heap.size + 1) (some ⟨w.heap.size, 0, none⟩) [x] (w.alloc (.cells #[.int .i64 x.r, .int .i64 x.c, x.v] T)) := by
  intro j hj
  have h := HasC.new w T #[.int .i64 x.r, .int .i64 x.c, x.v]
  obtain rfl : j = 0 := by simpa using hj
  exact ⟨_, _, rfl, by omega, h.cell 0, h.cell 1, h.cell 2⟩
theorem cms_two (w : World) (x y : Cx) (T : TypeId) : CmAt (w.heap.size + 1) (some ⟨w.heap.size, 0, none⟩) [x, y] (w.alloc (.cells #[.int .i64 x.r, .int .i64 x.c, x.v, .int .i64 y.r, .int .i64 y.c, y.v] T)) := by
  intro j hj
  have h := HasC.new w T #[.int .i64 x.r, .int .i64 x.c, x.v, .int .i64 y.r, .int .i64 y.c, y.v]
  have hj2 : j < 2 := by simpa using hj
  have : j = 0 ∨ j = 1 := by omega
  rcases this with rfl | rfl
  · exact ⟨_, _, rfl, by omega, h.cell 0, h.cell 1, h.cell 2⟩
  · exact ⟨_, _, rfl, by omega, h.cell 3, h.cell 4, h.cell 5⟩
theorem check1_any (r c : Int) (a : Option Addr) (n p : Nat) (L : List Nat) (hn : n = L.length) (W : World) :
    Calls Try.prog 35 #[.slice (some ⟨W.heap.size, 0, none⟩) 1 1] (W.alloc (.cells #[.int .i64 r, .int .i64 c, .slice a n p] 24)) fun e w' => (∃ u, e = .returned u ∧ ErrV (rightC r c L) u) ∧ Below (W.heap.size + 1) (W.alloc (.cells #[.int .i64 r, .int .i64 c, .slice a n p] 24)) w' := by
  have h := check_any (some ⟨W.heap.size, 0, none⟩) 1 [⟨r, c, a, n, p⟩] (W.alloc (.cells #[.int .i64 r, .int .i64 c, .slice a n p] 24)) (by rw [World.size_alloc]; exact cms_one W ⟨r, c, a, n, p⟩ _) (by simp)
  rw [check_one r c a n p L hn] at h
  refine h.mono ?_
  rintro e w' ⟨h1, h2⟩
  exact ⟨h1, by rw [World.size_alloc] at h2; exact h2⟩
theorem check2_any (r c : Int) (a : Option Addr) (n p : Nat) (L : List Nat) (hn : n = L.length) (r2 c2 : Int) (b : Option Addr) (m q : Nat) (K : List Nat) (hm : m = K.length) (W : World) :
    Calls Try.prog 35 #[.slice (some ⟨W.heap.size, 0, none⟩) 2 2] (W.alloc (.cells #[.int .i64 r, .int .i64 c, .slice a n p, .int .i64 r2, .int .i64 c2, .slice b m q] 24)) fun e w' => (∃ u, e = .returned u ∧ ErrV (rightC r c L && (rightC r2 c2 K && (decide (r = r2) && decide (c = c2)))) u) ∧ Below (W.heap.size + 1) (W.alloc (.cells #[.int .i64 r, .int .i64 c, .slice a n p, .int .i64 r2, .int .i64 c2, .slice b m q] 24)) w' := by
  have h := check_any (some ⟨W.heap.size, 0, none⟩) 2 [⟨r, c, a, n, p⟩, ⟨r2, c2, b, m, q⟩] (W.alloc (.cells #[.int .i64 r, .int .i64 c, .slice a n p, .int .i64 r2, .int .i64 c2, .slice b m q] 24)) (by rw [World.size_alloc]; exact cms_two W ⟨r, c, a, n, p⟩ ⟨r2, c2, b, m, q⟩ _) (by simp)
  rw [check_two r c a n p L hn r2 c2 b m q K hm] at h
  refine h.mono ?_
  rintro e w' ⟨h1, h2⟩
  exact ⟨h1, by rw [World.size_alloc] at h2; exact h2⟩
set_option maxHeartbeats 1000000 in
set_option maxRecDepth 100000 in
theorem cRight_any (r c : Int) (L : List Nat) (v : Value) (w : World) (h : NumSl w v L) (_hn : L.length ≤ 200) :
    Calls Try.prog 16 #[cV r c v] w fun e w' => e = .returned (.bool (rightC r c L)) ∧ Below w.heap.size w w' := by
  obtain ⟨a, p, rfl, _⟩ := h.shape
  obtain ⟨n, hnn⟩ : ∃ n, n = L.length := ⟨_, rfl⟩
  rw [← hnn]
  have C1 := Lib.hid (check1_any r c a n p L hnn (w.alloc (.cells #[.int .i64 r, .int .i64 c, .slice a n p] 24)))
  have HB := Lib.hid (((Below.refl _ w).alloc (Nat.le_refl _) (.cells #[.int .i64 r, .int .i64 c, .slice a n p] 24)).alloc (by simp) (.cells #[.int .i64 r, .int .i64 c, .slice a n p] 24))
  rw [World.size_alloc] at C1
  obtain ⟨q, hq⟩ : ∃ q, rightC r c L = q := ⟨_, rfl⟩
  rw [hq] at C1 ⊢
  clear hq hnn h
  unfold cV
  go_enter Try.func16, Try.ntmps16
  go_wp2_with fail
  with_reducible refine (C1.out).mono ?_
  rintro e w2 ⟨⟨u, rfl, hu⟩, hb⟩
  have hb2 := HB.out.trans (hb.mono (by omega))
  rcases hu with ⟨rfl, rfl⟩ | ⟨rfl, s, rfl⟩
  · go_wp2_with fail
    with_reducible refine (errno_ok _).mono ?_
    rintro e w3 ⟨rfl, rfl⟩
    go_wp2_with fail
    go_ret
    exact ⟨rfl, hb2⟩
  · go_wp2_with fail
    with_reducible refine (errno_bad _ _).mono ?_
    rintro e w3 ⟨rfl, rfl⟩
    go_wp2_with fail
    go_ret
    exact ⟨rfl, hb2⟩
end Go.Proofs.Ythhlofcmhnkcmaa
