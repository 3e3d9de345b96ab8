/- Package hll: pairs of ranks: the iterator. -/
import Derived.Test.YtnljepnmajcmgaaHCIt
import Derived.Test.YtnljepnmajcmgaaQuietW
namespace Go.Proofs.Ytnljepnmajcmgaa
open Go.RowKit Go.Shelf
attribute [local go_sem] Oper.semAt_some

/-- The ranks of two, side by side, a step at a time. -/
def encP (x : Nat × Nat) : Array Value := #[.int .u8 (x.1 : Int), .int .u8 (x.2 : Int)]
def pairL (st m : Nat) (R S : List Nat) : List (Nat × Nat) := (List.range m).map fun i => (R.getD (st * i) 0, S.getD (st * i) 0)
theorem pair_len (st m : Nat) (R S : List Nat) : (pairL st m R S).length = m := by simp [pairL]
theorem pair_at (st m : Nat) (R S : List Nat) (k : Nat) (hk : k < (pairL st m R S).length) : (pairL st m R S)[k] = (R.getD (st * k) 0, S.getD (st * k) 0) := by simp [pairL]
def DrN (V : World) (w' : World) : Prop := ∃ n, w' = V.drewN n

set_option maxHeartbeats 1000000 in
set_option maxRecDepth 100000 in
theorem each_pairs (B1 B2 B3 st m : Nat) (R S : List Nat) (hR : byteL R) (hS : byteL S) (hst : 1 ≤ st) (hst2 : st ≤ 2) (hnR : R.length ≤ 300) (hm : ∀ i, i < m ↔ st * i < min R.length S.length) :
    IterOk 51 #[.pointer (some ⟨B1, 0, none⟩), .pointer (some ⟨B2, 0, none⟩), .pointer (some ⟨B3, 0, none⟩)] encP (pairL st m R S)
      (fun W => W.cell? ⟨B1, 0, none⟩ = some (.string (regS R)) ∧ W.cell? ⟨B2, 0, none⟩ = some (.string (regS S)) ∧ W.cell? ⟨B3, 0, none⟩ = some (.int .i64 (st : Int))) := by
  intro n hn l J Jx hJB hJb hY W h0
  show CallsIn Fence.wide n Try.prog 51 #[.func (.yield l) #[] #[], .pointer (some ⟨B1, 0, none⟩), .pointer (some ⟨B2, 0, none⟩), .pointer (some ⟨B3, 0, none⟩)] W _
  rw [pair_len]
  obtain ⟨r, hr⟩ : ∃ r, r = regS R := ⟨_, rfl⟩
  obtain ⟨s, hs⟩ : ∃ s, s = regS S := ⟨_, rfl⟩
  obtain ⟨p, hp⟩ : ∃ p, p = R.length := ⟨_, rfl⟩
  obtain ⟨q, hq⟩ : ∃ q, q = S.length := ⟨_, rfl⟩
  have hrs : r.size = p := by rw [hr, regS_size, hp]
  have hss : s.size = q := by rw [hs, regS_size, hq]
  have hgr : Hid (∀ j (_ : j < p) (h2 : j < r.size), (r[j]'h2).toNat = R.getD j 0) := fun j hj h2 => by
    subst hr
    have hj' : j < R.length := by omega
    rw [List.getD_eq_getElem?_getD, List.getElem?_eq_getElem hj', Option.getD_some, regS_get R hR j hj' h2]
  have hgs : Hid (∀ j (_ : j < q) (h2 : j < s.size), (s[j]'h2).toNat = S.getD j 0) := fun j hj h2 => by
    subst hs
    have hj' : j < S.length := by omega
    rw [List.getD_eq_getElem?_getD, List.getElem?_eq_getElem hj', Option.getD_some, regS_get S hS j hj' h2]
  rw [← hr, ← hs] at hJb
  rw [← hp] at hnR hm
  rw [← hq] at hm
  obtain ⟨ml, hml⟩ : ∃ ml, ml = min p q := ⟨_, rfl⟩
  rw [← hml] at hm
  have hmin : (if (q : Int) < (p : Int) then (q : Int) else (p : Int)) = (ml : Int) := by rw [hml]; split <;> omega
  have hmin2 : (if q < p then (q : Int) else (p : Int)) = (ml : Int) := by rw [hml]; split <;> omega
  have hmp : ml ≤ p := by omega
  have hmq : ml ≤ q := by omega
  have HM := Lib.hid hm
  have HJ := Lib.hid hJb
  have HJB := Lib.hid hJB
  have HY := Lib.hid hY
  clear hr hs hp hq hml hm hJb hJB hY hR hS
  refine callsIn_of_wp Try.func51 rfl trivial ?_ rfl
  simp only [Try.ntmps51, List.size_toArray, List.length_cons, List.length_nil, Nat.reduceAdd, Nat.reduceSub, Array.replicate_succ, Array.replicate_zero, List.push_toArray, List.append_toArray, List.nil_append, List.cons_append]
  gi_wp2
  gi_loopw [5] (fun i wr => ∃ k : Nat, k ≤ m ∧ i = .int .i64 ((st * k : Nat) : Int) ∧ J k wr) (fun i wr => 1000 - (intOf i).toNat)
  case atStart => exact ⟨0, Nat.zero_le _, rfl, h0⟩
  case round =>
    obtain ⟨k, hk, rfl, hJ⟩ := hrel
    obtain ⟨hc1, hc2, hc3⟩ := HJ.out k wr hJ
    obtain ⟨j, hj⟩ : ∃ j, j = st * k := ⟨_, rfl⟩
    rw [← hj]
    by_cases hlt : k < m
    · have hjm : j < ml := by rw [hj]; exact (HM.out k).1 hlt
      have hjp : j < p := by omega
      have hjq : j < q := by omega
      have hjm' : (j : Int) < (ml : Int) := by omega
      have hkl : k < (pairL st m R S).length := by rw [pair_len]; exact hlt
      have HYk := HY.out k hkl
      rw [pair_at, ← hj] at HYk
      have hx : ∀ h2 : j < r.size, (r[j]'h2).toNat = R.getD j 0 := fun h2 => hgr.out j hjp h2
      have hy : ∀ h2 : j < s.size, (s[j]'h2).toNat = S.getD j 0 := fun h2 => hgs.out j hjq h2
      dsimp only [encP] at HYk
      obtain ⟨x, hx'⟩ : ∃ x, x = R.getD j 0 := ⟨_, rfl⟩
      obtain ⟨y, hy'⟩ : ∃ y, y = S.getD j 0 := ⟨_, rfl⟩
      rw [← hx'] at HYk hx
      rw [← hy'] at HYk hy
      have E1 : ∀ i : InC (DrN wr), i.w.cell? ⟨B1, 0, none⟩ = some (.string r) := fun ⟨_, _, h⟩ => by subst h; exact hc1
      have E2 : ∀ i : InC (DrN wr), i.w.cell? ⟨B2, 0, none⟩ = some (.string s) := fun ⟨_, _, h⟩ => by subst h; exact hc2
      have HJk := Lib.hid hJ
      have HYK := Lib.hid HYk
      have hjr : (j : Int) < (r.size : Int) := by omega
      have hjs : (j : Int) < (s.size : Int) := by omega
      have HJJ := Lib.hid hj
      clear hx' hy' HYk hJ hgr hgs hmin hmin2 hj
      gi_wp2
      refine region_tailW 7 (DrN wr) (by kernel_rfl) (by kernel_rfl) ⟨1, rfl⟩ ?_
      intro hne
      simp only [List.take_succ_cons, List.take_zero]
      repeat (go_big_quiet_step (fail))
      refine wpQuiet_nil ?_
      intro i
      simp only [List.drop_succ_cons, List.drop_zero]
      obtain ⟨V, dn, hV⟩ := i
      subst hV
      have hJ2 := HJB.out k wr (wr.drewN dn) HJk.out (bel_drewN (Below.refl _ wr) dn)
      obtain ⟨fn, tmps, assign, body, hyv, hRn⟩ := HYK.out _ hJ2
      have HRR := Lib.hid hRn
      clear hRn E1 E2 hne hc1 hc2 hc3 hJ2
      dsimp only
      gi_wp2
      refine HRR.out.mono ?_
      rintro e W3 (⟨rfl, hJ3⟩ | ⟨rfl, hJx3⟩)
      · obtain ⟨_, _, hc3⟩ := HJ.out _ _ hJ3
        gi_wp2
        go_roundw
        case rel => exact ⟨k + 1, by omega, by rw [Nat.mul_succ, Int.natCast_add, ← HJJ.out], hJ3⟩
        case measure => simp [intOf]; omega
      · gi_wp2
        refine bodyPost_ret (results_none rfl _ _ _) rfl ?_
        exact ⟨⟨_, rfl⟩, .inr hJx3⟩
    · have hjm : ¬ j < ml := fun h => hlt ((HM.out k).2 (hj ▸ h))
      obtain rfl : k = m := by omega
      have hjm' : ¬ (j : Int) < (ml : Int) := by omega
      gi_wp2
      go_end0
      exact ⟨⟨_, rfl⟩, .inl hJ⟩
end Go.Proofs.Ytnljepnmajcmgaa
