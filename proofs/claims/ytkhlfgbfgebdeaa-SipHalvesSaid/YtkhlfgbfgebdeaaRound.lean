/- Contracts of package sip's rounds: as many rounds in a block of four numbers; a round; a number taken in; the end. -/
import Derived.Test.YtkhlfgbfgebdeaaBase
namespace Go.Proofs.Ytkhlfgbfgebdeaa
open Go.RowKit
attribute [local go_sem] wrap_add wrap_sub xor_n64 or_n64

/-- A block that holds four numbers, and nothing else. -/
def Has4 (w : World) (b : Nat) (T : TypeId) (v : Q4) : Prop := w.heap[b]? = some (.cells (cells4 v) T (0, 0))

theorem Has4.lt {w : World} {b : Nat} {T : TypeId} {v : Q4} (h : Has4 w b T v) : b < w.heap.size := (Array.getElem?_eq_some_iff.1 h).1
theorem Has4.cell {w : World} {b : Nat} {T : TypeId} {v : Q4} (h : Has4 w b T v) (i : Nat) : w.cell? ⟨b, i, none⟩ = (cells4 v)[i]? := cell_of_row w b i _ T (0, 0) h
theorem Has4.frozen {w : World} {b : Nat} {T : TypeId} {v : Q4} (h : Has4 w b T v) (i : Nat) : w.frozen? ⟨b, i, none⟩ = false := by
  simp [World.frozen?, show w.heap[b]? = _ from h]
theorem Has4.set {w : World} {b : Nat} {T : TypeId} {v : Q4} (h : Has4 w b T v) (i : Nat) (u : Value) (v' : Q4) (e : (cells4 v).setIfInBounds i u = cells4 v') : Has4 (w.setCell ⟨b, i, none⟩ u) b T v' := by
  unfold Has4
  rw [← e]
  simp [World.setCell, Array.getElem?_modify, show w.heap[b]? = _ from h]
theorem Has4.drewN {w : World} {b : Nat} {T : TypeId} {v : Q4} (h : Has4 w b T v) (n : Nat) : Has4 (w.drewN n) b T v := h
theorem Has4.drew {w : World} {b : Nat} {T : TypeId} {v : Q4} (h : Has4 w b T v) : Has4 w.drew b T v := h
theorem Has4.alloc {w : World} {b : Nat} {T : TypeId} {v : Q4} (h : Has4 w b T v) (o : Obj) : Has4 (w.alloc o) b T v := (Below.heap_alloc w o b h.lt).trans h
theorem Has4.only {w w' : World} {b c : Nat} {T : TypeId} {v : Q4} (h : Has4 w b T v) (ho : w.grownBy w' (some c)) (hne : b ≠ c) : Has4 w' b T v := (ho.block b h.lt (fun e => hne (by cases e; rfl))).trans h
theorem Has4.new (w : World) (T : TypeId) (v : Q4) : Has4 (w.alloc (.cells (cells4 v) T)) w.heap.size T v := heap_alloc_new w _

/-- One block alone may have been written; there are no new ones. -/
structure Only (b : Nat) (w w' : World) : Prop where
  by_ : w.grownBy w' (some b)
  size : w'.heap.size = w.heap.size
theorem Only.refl (b : Nat) (w : World) : Only b w w := ⟨.refl _ _, rfl⟩
theorem Only.trans {b : Nat} {x y z : World} (h : Only b x y) (k : Only b y z) : Only b x z :=
  ⟨⟨k.by_.os.trans h.by_.os, k.by_.tape.trans h.by_.tape, k.by_.output.trans h.by_.output, Nat.le_trans h.by_.size k.by_.size,
    fun i hi hn => (k.by_.block i (Nat.lt_of_lt_of_le hi h.by_.size) hn).trans (h.by_.block i hi hn)⟩, k.size.trans h.size⟩
theorem Only.drewN {b : Nat} {x y : World} (h : Only b x y) (n : Nat) : Only b x (y.drewN n) := h.trans ⟨⟨rfl, rfl, rfl, Nat.le_refl _, fun _ _ _ => rfl⟩, rfl⟩
theorem Only.drew {b : Nat} {x y : World} (h : Only b x y) : Only b x y.drew := h.trans ⟨⟨rfl, rfl, rfl, Nat.le_refl _, fun _ _ _ => rfl⟩, rfl⟩
theorem Only.set {b : Nat} {x y : World} (h : Only b x y) (i : Nat) (u : Value) : Only b x (y.setCell ⟨b, i, none⟩ u) :=
  h.trans ⟨⟨rfl, rfl, rfl, by simp [World.setCell], fun k _ hn => Below.heap_setCell _ _ _ _ (fun e => hn (by rw [e]))⟩, by simp [World.setCell]⟩
theorem Only.below {b B : Nat} {w x y : World} (h : Only b x y) (hw : Below B w x) (hB : B ≤ x.heap.size) (hb : B ≤ b) : Below B w y :=
  hw.grown h.by_ hB (fun k e => by cases e; exact hb)

theorem rounds_any (b : Nat) (T : TypeId) (v : Q4) (n : Nat) (hn : n ≤ 100) (w : World) (h : Has4 w b T v) :
    Calls Try.prog 26 #[.pointer (some ⟨b, 0, none⟩), .int .i64 n] w fun e w' => e = .returned (.tuple #[]) ∧ Has4 w' b T (rnds n v) ∧ Only b w w' := by
  have h0 : w.cell? ⟨b, 0, none⟩ = some (.int .u64 (n64 v.a)) := h.cell 0
  have h1 : w.cell? ⟨b, 1, none⟩ = some (.int .u64 (n64 v.b)) := h.cell 1
  have h2 : w.cell? ⟨b, 2, none⟩ = some (.int .u64 (n64 v.c)) := h.cell 2
  have h3 : w.cell? ⟨b, 3, none⟩ = some (.int .u64 (n64 v.d)) := h.cell 3
  have z0 := h.frozen 0
  have z1 := h.frozen 1
  have z2 := h.frozen 2
  have z3 := h.frozen 3
  have H := h
  clear h
  go_enter Try.func26, Try.ntmps26
  go_wp2_with fail
  go_quiet (fail)
  go_wp2_with fail
  go_loop [4, 5, 6, 7, 25] (fun s0 s1 s2 s3 i => ∃ k : Nat, k ≤ n ∧ i = .int .i64 k ∧ s0 = .int .u64 (n64 (rnds k v).a) ∧ s1 = .int .u64 (n64 (rnds k v).b) ∧ s2 = .int .u64 (n64 (rnds k v).c) ∧ s3 = .int .u64 (n64 (rnds k v).d)) (fun _ _ _ _ i => n - (intOf i).toNat)
  case atStart => exact ⟨0, Nat.zero_le _, rfl, rfl, rfl, rfl, rfl⟩
  case round =>
    obtain ⟨k, hk, rfl, rfl, rfl, rfl, rfl⟩ := hrel
    obtain ⟨q, hq⟩ : ∃ q, q = rnds k v := ⟨_, rfl⟩
    have HQ : Hid (q = rnds k v) := hq
    rw [← hq]
    clear hq
    by_cases hlt : k < n
    · go_wp2_with fail
      refine (rotl13 _ _).mono ?_
      rintro e w1 ⟨rfl, rfl⟩
      go_wp2_with fail
      refine (rotl32 _ _).mono ?_
      rintro e w1 ⟨rfl, rfl⟩
      go_wp2_with fail
      refine (rotl16 _ _).mono ?_
      rintro e w1 ⟨rfl, rfl⟩
      go_wp2_with fail
      refine (rotl21 _ _).mono ?_
      rintro e w1 ⟨rfl, rfl⟩
      go_wp2_with fail
      refine (rotl17 _ _).mono ?_
      rintro e w1 ⟨rfl, rfl⟩
      go_wp2_with fail
      refine (rotl32 _ _).mono ?_
      rintro e w1 ⟨rfl, rfl⟩
      go_wp2_with fail
      go_round
      case rel => 
        have e : rnds (k + 1) v = rnd q := by rw [HQ.out]; rfl
        exact ⟨k + 1, by omega, by go_num, by rw [e]; rfl, by rw [e]; rfl, by rw [e]; rfl, by rw [e]; rfl⟩
      case measure => simp [intOf]; omega
    · go_wp2
      go_end0
      obtain rfl : k = n := by omega
      have e : q = rnds k v := HQ.out
      subst e
      have W0 := H.drewN nq
      have W1 := W0.set 0 (.int .u64 (n64 (rnds k v).a)) ⟨(rnds k v).a, v.b, v.c, v.d⟩ rfl
      have W2 := W1.set 1 (.int .u64 (n64 (rnds k v).b)) ⟨(rnds k v).a, (rnds k v).b, v.c, v.d⟩ rfl
      have W3 := W2.set 2 (.int .u64 (n64 (rnds k v).c)) ⟨(rnds k v).a, (rnds k v).b, (rnds k v).c, v.d⟩ rfl
      exact ⟨rfl, W3.set 3 (.int .u64 (n64 (rnds k v).d)) (rnds k v) rfl, (((((Only.refl b w).drewN nq).set 0 _).set 1 _).set 2 _).set 3 _⟩

theorem rounds1 (b : Nat) (T : TypeId) (v : Q4) (w : World) (h : Has4 w b T v) :
    Calls Try.prog 26 #[.pointer (some ⟨b, 0, none⟩), .int .i64 1] w fun e w' => e = .returned (.tuple #[]) ∧ Has4 w' b T (rnd v) ∧ Only b w w' := rounds_any b T v 1 (by decide) w h
theorem rounds2 (b : Nat) (T : TypeId) (v : Q4) (w : World) (h : Has4 w b T v) :
    Calls Try.prog 26 #[.pointer (some ⟨b, 0, none⟩), .int .i64 2] w fun e w' => e = .returned (.tuple #[]) ∧ Has4 w' b T (rnds 2 v) ∧ Only b w w' := rounds_any b T v 2 (by decide) w h
theorem rounds4 (b : Nat) (T : TypeId) (v : Q4) (w : World) (h : Has4 w b T v) :
    Calls Try.prog 26 #[.pointer (some ⟨b, 0, none⟩), .int .i64 4] w fun e w' => e = .returned (.tuple #[]) ∧ Has4 w' b T (rnds 4 v) ∧ Only b w w' := rounds_any b T v 4 (by decide) w h

theorem round_any (v : Q4) (w : World) : Calls Try.prog 16 #[.agg (cells4 v)] w fun e w' => e = .returned (.agg (cells4 (rnd v))) ∧ Below w.heap.size w w' := by
  unfold cells4
  go_enter Try.func16, Try.ntmps16
  go_wp2_with fail
  refine (nums4 _ _ _ v (by simp; omega) (by simp) (by simp) (by simp) (by simp)).mono ?_
  rintro e w1 ⟨rfl, rfl⟩
  go_wp2_with fail
  obtain ⟨W, hW⟩ : ∃ W, W = (((((w.alloc (.cells #[.int .u64 (n64 v.a), .int .u64 (n64 v.b), .int .u64 (n64 v.c), .int .u64 (n64 v.d)] 30)).alloc (.cells #[.int .u64 0, .int .u64 0, .int .u64 0, .int .u64 0] 30)).alloc (.cells #[.int .u64 (n64 v.a), .int .u64 (n64 v.b), .int .u64 (n64 v.c), .int .u64 (n64 v.d)] 38)).alloc (.cells #[.int .u64 (n64 v.a), .int .u64 (n64 v.b), .int .u64 (n64 v.c), .int .u64 (n64 v.d)] 38)).alloc (.cells #[.int .u64 (n64 v.a), .int .u64 (n64 v.b), .int .u64 (n64 v.c), .int .u64 (n64 v.d)] 38)) := ⟨_, rfl⟩
  have hH : Has4 W (w.heap.size + 1 + 1 + 1 + 1) 38 v := by
    subst hW
    have := Has4.new ((((w.alloc (.cells #[.int .u64 (n64 v.a), .int .u64 (n64 v.b), .int .u64 (n64 v.c), .int .u64 (n64 v.d)] 30)).alloc (.cells #[.int .u64 0, .int .u64 0, .int .u64 0, .int .u64 0] 30)).alloc (.cells #[.int .u64 (n64 v.a), .int .u64 (n64 v.b), .int .u64 (n64 v.c), .int .u64 (n64 v.d)] 38)).alloc (.cells #[.int .u64 (n64 v.a), .int .u64 (n64 v.b), .int .u64 (n64 v.c), .int .u64 (n64 v.d)] 38)) 38 v
    simpa [cells4] using this
  have hR : Has4 W (w.heap.size + 1) 30 ⟨0#64, 0#64, 0#64, 0#64⟩ := by
    subst hW
    have h0 := Has4.new (w.alloc (.cells #[.int .u64 (n64 v.a), .int .u64 (n64 v.b), .int .u64 (n64 v.c), .int .u64 (n64 v.d)] 30)) 30 ⟨0#64, 0#64, 0#64, 0#64⟩
    rw [World.size_alloc] at h0
    exact ((h0.alloc _).alloc _).alloc _
  have hB : Below w.heap.size w W := by
    subst hW
    exact (((((Below.refl _ w).alloc (by simp) _).alloc (by simp) _).alloc (by simp <;> omega) _).alloc (by simp <;> omega) _).alloc (by simp <;> omega) _
  have hz : W.heap.size = w.heap.size + 5 := by subst hW; simp
  rw [← hW]
  clear hW
  refine (rounds1 _ 38 v _ hH).mono ?_
  rintro e w1 ⟨rfl, h4, ho⟩
  have c0 : w1.cell? ⟨w.heap.size + 1 + 1 + 1 + 1, 0, none⟩ = some (.int .u64 (n64 (rnd v).a)) := h4.cell 0
  have c1 : w1.cell? ⟨w.heap.size + 1 + 1 + 1 + 1, 1, none⟩ = some (.int .u64 (n64 (rnd v).b)) := h4.cell 1
  have c2 : w1.cell? ⟨w.heap.size + 1 + 1 + 1 + 1, 2, none⟩ = some (.int .u64 (n64 (rnd v).c)) := h4.cell 2
  have c3 : w1.cell? ⟨w.heap.size + 1 + 1 + 1 + 1, 3, none⟩ = some (.int .u64 (n64 (rnd v).d)) := h4.cell 3
  have hR1 := hR.only ho.by_ (by omega)
  have d0 : w1.cell? ⟨w.heap.size + 1, 0, none⟩ = some (.int .u64 (n64 0#64)) := hR1.cell 0
  have d1 : w1.cell? ⟨w.heap.size + 1, 1, none⟩ = some (.int .u64 (n64 0#64)) := hR1.cell 1
  have d2 : w1.cell? ⟨w.heap.size + 1, 2, none⟩ = some (.int .u64 (n64 0#64)) := hR1.cell 2
  have d3 : w1.cell? ⟨w.heap.size + 1, 3, none⟩ = some (.int .u64 (n64 0#64)) := hR1.cell 3
  have z0 := hR1.frozen 0
  have z1 := hR1.frozen 1
  have z2 := hR1.frozen 2
  have z3 := hR1.frozen 3
  have hB1 := ho.below hB hB.size (by omega)
  clear hH hR hB h4 ho
  go_wp2_with fail
  exact bodyPost_ret (v := .agg #[.int .u64 (n64 (rnd v).a), .int .u64 (n64 (rnd v).b), .int .u64 (n64 (rnd v).c), .int .u64 (n64 (rnd v).d)]) (by simp [results, Try.results16, go_sem, d0, d1, d2, d3]) rfl
    ⟨rfl, (((hB1.setCell (p := ⟨w.heap.size + 1, 0, none⟩) (by simp) _).setCell (p := ⟨w.heap.size + 1, 1, none⟩) (by simp) _).setCell (p := ⟨w.heap.size + 1, 2, none⟩) (by simp) _).setCell (p := ⟨w.heap.size + 1, 3, none⟩) (by simp) _⟩
theorem take_any (b : Nat) (T : TypeId) (v : Q4) (m : BitVec 64) (w : World) (h : Has4 w b T v) :
    Calls Try.prog 23 #[.pointer (some ⟨b, 0, none⟩), .int .u64 (n64 m)] w fun e w' => e = .returned (.tuple #[]) ∧ Has4 w' b T (tk v m) ∧ Only b w w' := by
  have h3 : w.cell? ⟨b, 3, none⟩ = some (.int .u64 (n64 v.d)) := h.cell 3
  have z3 := h.frozen 3
  go_enter Try.func23, Try.ntmps23
  go_wp2_with fail
  go_region
  go_wp2_with fail
  refine (rounds2 b T ⟨v.a, v.b, v.c, v.d ^^^ m⟩ _ (h.set 3 (.int .u64 (n64 (v.d ^^^ m))) ⟨v.a, v.b, v.c, v.d ^^^ m⟩ rfl).drew).mono ?_
  rintro e w1 ⟨rfl, h4, ho⟩
  have c0 : w1.cell? ⟨b, 0, none⟩ = some (.int .u64 (n64 (rnds 2 ⟨v.a, v.b, v.c, v.d ^^^ m⟩).a)) := h4.cell 0
  have y0 := h4.frozen 0
  have HO : Only b w w1 := (((Only.refl b w).set 3 _).drew).trans ho
  clear h h3 z3 ho
  go_wp2_with fail
  go_region
  go_wp2_with fail
  go_end0
  exact ⟨rfl, (h4.set 0 _ (tk v m) rfl).drew, (HO.set 0 _).drew⟩
theorem end_any (b : Nat) (T : TypeId) (v : Q4) (w : World) (h : Has4 w b T v) :
    Calls Try.prog 24 #[.pointer (some ⟨b, 0, none⟩)] w fun e w' => e = .returned (.int .u64 (n64 (fin v))) ∧ Only b w w' := by
  have h3 : w.cell? ⟨b, 2, none⟩ = some (.int .u64 (n64 v.c)) := h.cell 2
  have z3 := h.frozen 2
  have hx : bits .xor .u64 (n64 v.c) 255 = n64 (v.c ^^^ 255#64) := xor_n64 v.c 255#64
  go_enter Try.func24, Try.ntmps24
  go_wp2_with fail
  go_region
  go_wp2_with fail
  refine (rounds4 b T ⟨v.a, v.b, v.c ^^^ 255#64, v.d⟩ _ (h.set 2 (.int .u64 (n64 (v.c ^^^ 255#64))) ⟨v.a, v.b, v.c ^^^ 255#64, v.d⟩ rfl).drew).mono ?_
  rintro e w1 ⟨rfl, h4, ho⟩
  have c0 : w1.cell? ⟨b, 0, none⟩ = some (.int .u64 (n64 (rnds 4 ⟨v.a, v.b, v.c ^^^ 255#64, v.d⟩).a)) := h4.cell 0
  have c1 : w1.cell? ⟨b, 1, none⟩ = some (.int .u64 (n64 (rnds 4 ⟨v.a, v.b, v.c ^^^ 255#64, v.d⟩).b)) := h4.cell 1
  have c2 : w1.cell? ⟨b, 2, none⟩ = some (.int .u64 (n64 (rnds 4 ⟨v.a, v.b, v.c ^^^ 255#64, v.d⟩).c)) := h4.cell 2
  have c3 : w1.cell? ⟨b, 3, none⟩ = some (.int .u64 (n64 (rnds 4 ⟨v.a, v.b, v.c ^^^ 255#64, v.d⟩).d)) := h4.cell 3
  have HO : Only b w w1 := (((Only.refl b w).set 2 _).drew).trans ho
  clear h h3 z3 ho hx
  go_wp2_with fail
  go_quiet (fail)
  go_wp2_with fail
  go_ret
  exact ⟨rfl, HO.drewN _⟩
end Go.Proofs.Ytkhlfgbfgebdeaa
