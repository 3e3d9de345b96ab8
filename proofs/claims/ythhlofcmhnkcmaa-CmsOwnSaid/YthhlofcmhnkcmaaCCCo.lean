/- Package cms: the counters that a number tells, row by row: the iterator. -/
import Derived.Test.YthhlofcmhnkcmaaCCLo
import Derived.Test.YthhlofcmhnkcmaaQuietW
namespace Go.Proofs.Ythhlofcmhnkcmaa
open Go.RowKit Go.Shelf
attribute [local go_sem] Oper.semAt_some

/-- The place of a row's counter, and the counters with their places. -/
def plC (b h k : Nat) : Nat := k * b + colC b k h
def encA (x : Nat × Nat) : Array Value := #[.int .i64 (x.1 : Int), nV x.2]
def cntsL (a b h : Nat) (L : List Nat) : List (Nat × Nat) := (List.range a).map fun k => (plC b h k, L.getD (plC b h k) 0)
theorem cnts_len (a b h : Nat) (L : List Nat) : (cntsL a b h L).length = a := by simp [cntsL]
theorem cnts_at (a b h : Nat) (L : List Nat) (k : Nat) (hk : k < (cntsL a b h L).length) : (cntsL a b h L)[k] = (plC b h k, L.getD (plC b h k) 0) := by simp [cntsL]
theorem pl_lt {a b h k : Nat} (hb : 0 < b) (hk : k < a) : plC b h k < a * b := by
  have h1 := col_lt hb k h
  have : (k + 1) * b ≤ a * b := Nat.mul_le_mul_right _ hk
  rw [Nat.add_mul, Nat.one_mul] at this
  unfold plC
  omega
/-- What the iterator reads when so many have come. -/
def CntG (B1 B2 gW g o m cp a b h : Nat) (L : List Nat) (k : Nat) (W : World) : Prop :=
  W.cell? ⟨B1, 0, none⟩ = some (.pointer (some ⟨gW, 0, none⟩)) ∧ W.cell? ⟨B2, 0, none⟩ = some (nV h) ∧ W.cell? ⟨gW, 0, none⟩ = some (.int .i64 (a : Int)) ∧ W.cell? ⟨gW, 1, none⟩ = some (.int .i64 (b : Int)) ∧
    W.cell? ⟨gW, 2, none⟩ = some (.slice (some ⟨g, o, none⟩) m cp) ∧ (k < a → W.cell? ⟨g, o + plC b h k, none⟩ = some (nV (L.getD (plC b h k) 0)))
def DrC (V : World) (w' : World) : Prop := ∃ n, w' = V.drewN n

set_option maxHeartbeats 1000000 in
set_option maxRecDepth 100000 in
theorem counters_it (B1 B2 gW g o m cp a b h : Nat) (L : List Nat) (hm : m = a * b) (h2 : a ≤ 4) (h3 : 0 < b) (hb32 : b ≤ 32) (hh : h ≤ topN) :
    IterK 54 #[.pointer (some ⟨B1, 0, none⟩), .pointer (some ⟨B2, 0, none⟩)] encA (cntsL a b h L) (CntG B1 B2 gW g o m cp a b h L) := by
  intro n hn l J Jx hJB hJb hY W h0
  show CallsIn Fence.wide n Try.prog 54 #[.func (.yield l) #[] #[], .pointer (some ⟨B1, 0, none⟩), .pointer (some ⟨B2, 0, none⟩)] W _
  rw [cnts_len]
  have hab : a * b ≤ 4 * 32 := Nat.mul_le_mul h2 hb32
  have hm128 : m ≤ 128 := by omega
  obtain ⟨hb1, _, hb3, _⟩ := hJb 0 W h0
  have HM := Lib.hid hm
  have HJ := Lib.hid hJb
  have HJB := Lib.hid hJB
  have HY := Lib.hid hY
  clear hJb hJB hY hm hab
  refine callsIn_of_wp Try.func54 rfl trivial ?_ rfl
  simp only [Try.ntmps54, List.size_toArray, List.length_cons, List.length_nil, Nat.reduceAdd, Nat.reduceSub, Array.replicate_succ, Array.replicate_zero, List.push_toArray, List.append_toArray, List.nil_append, List.cons_append]
  gi_wp2
  gi_loopw [11] (fun i wr => ∃ k : Nat, k ≤ a ∧ i = .int .i64 (k : Int) ∧ J k wr) (fun i wr => a - (intOf i).toNat)
  case atStart => exact ⟨0, Nat.zero_le _, rfl, h0⟩
  case round =>
    obtain ⟨k, hk, rfl, hJ⟩ := hrel
    obtain ⟨c1, c2, c3, c4, c5, c6⟩ := HJ.out k wr hJ
    clear hb1 hb3
    by_cases hlt : k < a
    · have hka : (k : Int) < (a : Int) := by omega
      have hkl : k < (cntsL a b h L).length := by rw [cnts_len]; exact hlt
      have HYk := HY.out k hkl
      rw [cnts_at] at HYk
      have c7 := c6 hlt
      have hpl := pl_lt (h := h) h3 hlt
      rw [← HM.out] at hpl
      have hcl := col_lt h3 k h
      have hpd : plC b h k = k * b + colC b k h := rfl
      have hkb : k * b ≤ 3 * 32 := Nat.mul_le_mul (by omega) hb32
      have K1 := Lib.hid (fun W => column_any b k h W (by omega) hb32 (by omega) hh)
      obtain ⟨t, ht⟩ : ∃ t, t = plC b h k := ⟨_, rfl⟩
      obtain ⟨d, hd⟩ : ∃ d, d = colC b k h := ⟨_, rfl⟩
      obtain ⟨q, hq⟩ : ∃ q, q = k * b := ⟨_, rfl⟩
      obtain ⟨x, hx⟩ : ∃ x, x = L.getD t 0 := ⟨_, rfl⟩
      rw [← ht, ← hx] at HYk c7
      rw [← hd] at K1 hcl
      rw [← ht, ← hd, ← hq] at hpd
      rw [← ht] at hpl
      rw [← hq] at hkb
      have hqw : IntKind.i64.wrap ((k : Int) * (b : Int)) = (q : Int) := by
        have e : ((k : Int) * (b : Int)) = (q : Int) := by rw [hq]; push_cast; rfl
        rw [e]; exact wrap_ki _ (by omega) (by omega)
      have htw : IntKind.i64.wrap ((q : Int) + (d : Int)) = (t : Int) := by rw [wrap_ki _ (by omega) (by omega)]; omega
      have htm : (t : Int) < (m : Int) := by omega
      dsimp only [encA] at HYk
      have E1 : ∀ i : InC (DrC wr), i.w.cell? ⟨B1, 0, none⟩ = some (.pointer (some ⟨gW, 0, none⟩)) := fun ⟨_, _, h⟩ => by subst h; exact c1
      have E2 : ∀ i : InC (DrC wr), i.w.cell? ⟨B2, 0, none⟩ = some (nV h) := fun ⟨_, _, h⟩ => by subst h; exact c2
      have E4 : ∀ i : InC (DrC wr), i.w.cell? ⟨gW, 1, none⟩ = some (.int .i64 (b : Int)) := fun ⟨_, _, h⟩ => by subst h; exact c4
      have HJk := Lib.hid hJ
      have HYK := Lib.hid HYk
      clear HYk hJ hx ht hd hq hpd hkb hcl hpl c6
      gi_wp2
      refine region_tailW 16 (DrC wr) (by kernel_rfl) (by kernel_rfl) ⟨1, rfl⟩ ?_
      intro hne
      simp only [List.take_succ_cons, List.take_zero]
      repeat (go_big_quiet_step (((with_reducible refine (K1.out _).mono ?_); rintro e w' ⟨rfl, rfl⟩; exact ⟨rfl, ⟨_, InC.h _⟩, rfl⟩)))
      refine wpQuiet_nil ?_
      intro i
      simp only [List.drop_succ_cons, List.drop_zero]
      obtain ⟨V, dn, hV⟩ := i
      subst hV
      have hJ2 := HJB.out k wr (wr.drewN dn) HJk.out (bel_drewN (Below.refl _ wr) dn)
      obtain ⟨fn, tmps, assign, body, hyv, hRn⟩ := HYK.out _ hJ2
      have HRR := Lib.hid hRn
      clear hRn E1 E2 E4 hne hJ2 hqw htw
      dsimp only
      gi_wp2
      refine HRR.out.mono ?_
      rintro e W3 (⟨rfl, hJ3⟩ | ⟨rfl, hJx3⟩)
      · gi_wp2
        go_roundw
        case rel => exact ⟨k + 1, by omega, by go_num, hJ3⟩
        case measure => simp [intOf]; omega
      · gi_wp2
        refine bodyPost_ret (results_none rfl _ _ _) rfl ?_
        exact ⟨⟨_, rfl⟩, .inr hJx3⟩
    · obtain rfl : k = a := by omega
      have hnk : ¬ (k : Int) < (k : Int) := by omega
      gi_wp2
      go_end0
      exact ⟨⟨_, rfl⟩, .inl hJ⟩
set_option maxRecDepth 100000 in
theorem counters_any (gW h : Nat) (w : World) :
    Calls Try.prog 48 #[.pointer (some ⟨gW, 0, none⟩), nV h] w fun e w' => e = .returned (.func (.func 54) #[] #[.pointer (some ⟨w.heap.size, 0, none⟩), .pointer (some ⟨w.heap.size + 1, 0, none⟩)]) ∧ w' = (w.alloc (.cells #[.pointer (some ⟨gW, 0, none⟩)] 66)).alloc (.cells #[nV h] 25) := by
  go_enter Try.func48, Try.ntmps48
  go_wp2_with fail
  go_ret
  exact ⟨rfl, rfl⟩
end Go.Proofs.Ythhlofcmhnkcmaa
