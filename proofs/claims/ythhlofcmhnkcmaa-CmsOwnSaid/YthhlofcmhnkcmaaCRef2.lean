/- The page's own answers for layer 8: New, Col, Same. -/
import Derived.Test.YthhlofcmhnkcmaaCBase
import Derived.Test.YthhlofcmhnkcmaaNumF
namespace Go.Proofs.Ythhlofcmhnkcmaa
open Go.RowKit

/-- What is told: counters with a list of their own, and the error's number. -/
def CmX (B : Nat) (P : Cm) (e : Ending) (W : World) : Prop := ∃ v, e = .returned (.tuple #[cV P.1.1 P.1.2.1 v, .int .i64 (P.2 : Int)]) ∧ NumF B W v P.1.2.2
theorem okC_mul {a b : Nat} (h2 : a ≤ 4) (h3 : b = 4 ∨ b = 8 ∨ b = 16 ∨ b = 32) : ∃ p : Nat, p = a * b ∧ p ≤ 128 ∧ wrap64 ((a : Int) * (b : Int)) = (p : Int) := by
  have hab : a * b ≤ 128 := Nat.mul_le_mul h2 (show b ≤ 32 by omega)
  refine ⟨a * b, rfl, hab, ?_⟩
  have e : ((a : Int) * (b : Int)) = ((a * b : Nat) : Int) := by push_cast; rfl
  rw [e]
  exact wrap_i64c _ (by omega) (by omega)
set_option maxHeartbeats 2000000 in
set_option maxRecDepth 100000 in
theorem pNew8_any (r c : Int) (w : World) : Calls Try.prog 13 #[.int .i64 r, .int .i64 c] w fun e w' => CmX w.heap.size (newCm r c) e w' ∧ Below w.heap.size w w' := by
  obtain ⟨i0, hi, hz0, hz1, hz2⟩ := partsE infoN
  have i1 := Lib.hid hi
  have i2 := Lib.hid hz0
  have i3 := Lib.hid hz1
  have i4 := Lib.hid hz2
  clear hi hz0 hz1 hz2
  have I1 := Lib.hid (fun W => pIs_any r c W)
  have HX := Lib.hid (HasC.new w 24 #[.int .i64 0, .int .i64 0, .slice none 0 0])
  have HB := Lib.hid ((Below.refl w.heap.size w).alloc (Nat.le_refl _) (Obj.cells #[.int .i64 0, .int .i64 0, .slice none 0 0] 24))
  cases hq : okC r c with
  | false =>
    rw [hq] at I1
    have hv : newCm r c = badC := by unfold newCm; rw [hq]; rfl
    have HV := Lib.hid hv
    clear hq hv
    go_enter Try.func13, Try.ntmps13
    go_wp2_with fail
    with_reducible refine (I1.out _).mono ?_
    rintro e w1 ⟨rfl, rfl⟩
    go_wp2_with fail
    refine bodyPost_ret (results_cms rfl _ _ w.heap.size _ _ _ rfl HX.out) rfl ?_
    rw [HV.out]
    exact ⟨⟨_, rfl, NumF.nil _ _⟩, HB.out⟩
  | true =>
    rw [hq] at I1
    obtain ⟨a, b, rfl, rfl, h1, h2, h3⟩ := okC_nat hq
    obtain ⟨p, hp, hp128, hpw⟩ := okC_mul h2 h3
    have hv : newCm (a : Int) (b : Int) = (((a : Int), (b : Int), List.replicate p 0), 0) := by rw [newCm_ok h1 h2 h3, cnt_nil, hp]
    have HV := Lib.hid hv
    clear hq hv hp h1 h2 h3
    go_enter Try.func13, Try.ntmps13
    go_wp2_with fail
    with_reducible refine (I1.out _).mono ?_
    rintro e w1 ⟨rfl, rfl⟩
    go_wp2_with (at_make; go_loud (refine wpList_make_full _ rfl (.tmp 15) (.tmp 15) 22 rfl (w.heap.size + 1) 25 i0 (.int .u64 0) 1 Try.underlying22 i1.out i2.out i3.out .i64 .i64 _ _ p rfl rfl hpw hpw (by rw [i4.out]; omega) (by unfold maxLen; omega) (by simp) ?_; intro w2 hown2 hgrow2; have hb12 := HB.out.grown hgrow2 (by simp) (fun k hk => by cases hk); have hx2 := HX.out.below ((Below.refl _ _).grown hgrow2 (Nat.le_refl _) (fun k hk => by cases hk)) (by simp); rw [numL_made] at hown2; have c0 := hx2.cell 0; have c1 := hx2.cell 1; have c2 := hx2.cell 2; have z0 := hx2.frozen 0; have z1 := hx2.frozen 1; have z2 := hx2.frozen 2; have HO2 := Lib.hid hown2; clear hown2 hgrow2))
    refine bodyPost_ret (results_cms rfl _ _ w.heap.size _ _ _ rfl ((((hx2.set 0 (.int .i64 (a : Int))).set 1 (.int .i64 (b : Int))).set 2 (.slice (some ⟨w.heap.size + 1, 0, none⟩) p p)).eq (cs' := #[.int .i64 (a : Int), .int .i64 (b : Int), .slice (some ⟨w.heap.size + 1, 0, none⟩) p p]) rfl)) rfl ?_
    rw [HV.out]
    have hown := HO2.out
    rw [World.size_alloc] at hown
    refine ⟨⟨_, rfl, ?_⟩, ((hb12.setCell (p := ⟨w.heap.size, 0, none⟩) (Nat.le_refl _) _).setCell (p := ⟨w.heap.size, 1, none⟩) (Nat.le_refl _) _).setCell (p := ⟨w.heap.size, 2, none⟩) (Nat.le_refl _) _⟩
    have hf : NumF (w.heap.size + 1) w2 (.slice (some ⟨w.heap.size + 1, 0, none⟩) p p) (List.replicate p 0) := numF_of_owns (by rw [List.length_replicate]; exact hown)
    refine (hf.keep (by simp) fun k h1 h2 => ?_).mono (by omega)
    rw [Below.heap_setCell _ _ _ k (by simp; omega), Below.heap_setCell _ _ _ k (by simp; omega), Below.heap_setCell _ _ _ k (by simp; omega)]
set_option maxHeartbeats 2000000 in
set_option maxRecDepth 100000 in
theorem pCol_any (r c : Int) (L : List Nat) (v : Value) (row : Int) (h : Nat) (w : World) (hv : NumSl w v L) (hh : h ≤ topN) :
    Calls Try.prog 20 #[cV r c v, .int .i64 row, nV h] w fun e w' => e = .returned (.int .i64 (colCm r c L row h : Int)) ∧ Below w.heap.size w w' := by
  have hb0 := (Below.refl w.heap.size w).alloc (Nat.le_refl _) (Obj.cells #[.int .i64 r, .int .i64 c, v] 24)
  have R1 := Lib.hid (pRight8_any r c L v _ (hv.below hb0))
  have HX := Lib.hid ((HasC.new w 24 #[.int .i64 r, .int .i64 c, v]).alloc (Obj.cells #[.int .i64 r, .int .i64 c, v] 24))
  have HB := Lib.hid (hb0.alloc (by simp) (Obj.cells #[.int .i64 r, .int .i64 c, v] 24))
  obtain ⟨ao, cp, rfl, _⟩ := hv.shape
  obtain ⟨m, hm⟩ : ∃ m, m = L.length := ⟨_, rfl⟩
  rw [← hm] at R1 HX HB ⊢
  clear hb0 hv hm
  have c0 := HX.out.cell 0
  have c1 := HX.out.cell 1
  unfold cV
  cases hq : rightC r c L with
  | false =>
    rw [hq] at R1
    have hv : colCm r c L row h = 0 := by unfold colCm; rw [hq]; rfl
    have HV := Lib.hid hv
    clear hq hv
    go_enter Try.func20, Try.ntmps20
    go_wp2_with fail
    with_reducible refine (R1.out).mono ?_
    rintro e w1 ⟨rfl, rfl⟩
    go_wp2_with fail
    go_ret
    exact ⟨by rw [HV.out]; rfl, HB.out⟩
  | true =>
    rw [hq] at R1
    obtain ⟨a, b, rfl, rfl, h1, h2, h3, _⟩ := rightC_nat hq
    by_cases hr0 : 0 ≤ row
    case neg =>
      have hv : colCm (a : Int) (b : Int) L row h = 0 := by unfold colCm; rw [decide_eq_false hr0, Bool.false_and, Bool.and_false]; rfl
      have HV := Lib.hid hv
      have hr1 : row < 0 := by omega
      clear hq hv hr0
      go_enter Try.func20, Try.ntmps20
      go_wp2_with fail
      with_reducible refine (R1.out).mono ?_
      rintro e w1 ⟨rfl, rfl⟩
      go_wp2_with fail
      go_ret
      exact ⟨by rw [HV.out]; rfl, HB.out⟩
    case pos =>
      by_cases hr2 : row < (a : Int)
      case neg =>
        have hv : colCm (a : Int) (b : Int) L row h = 0 := by unfold colCm; rw [decide_eq_false hr2, Bool.and_false, Bool.and_false]; rfl
        have HV := Lib.hid hv
        have hr1 : ¬ row < 0 := by omega
        have hr3 : (a : Int) ≤ row := by omega
        clear hq hv
        go_enter Try.func20, Try.ntmps20
        go_wp2_with fail
        with_reducible refine (R1.out).mono ?_
        rintro e w1 ⟨rfl, rfl⟩
        go_wp2_with fail
        go_ret
        exact ⟨by rw [HV.out]; rfl, HB.out⟩
      case pos =>
        obtain ⟨k, rfl⟩ : ∃ k : Nat, row = (k : Int) := ⟨row.toNat, by omega⟩
        have hv : colCm (a : Int) (b : Int) L (k : Int) h = colC b k h := by unfold colCm; rw [hq, decide_eq_true hr0, decide_eq_true hr2]; rfl
        have hr1 : ¬ (k : Int) < 0 := by omega
        have hr3 : ¬ (a : Int) ≤ (k : Int) := by omega
        have ht : topN = 18446744073709551615 := rfl
        have hk4 : k < 4 := by omega
        obtain ⟨hi, hhi⟩ : ∃ hi, hi = h / 4294967296 := ⟨_, rfl⟩
        obtain ⟨lo, hlo⟩ : ∃ lo, lo = h % 4294967296 := ⟨_, rfl⟩
        have hhl : hi < 4294967296 := by omega
        have hll : lo < 4294967296 := by omega
        have q1 : ((h : Int) / 4294967296) = (hi : Int) := by omega
        have q2 : ((h : Int) % 4294967296) = (lo : Int) := by omega
        have hkl : k * lo ≤ 3 * 4294967295 := Nat.mul_le_mul (by omega) (by omega)
        obtain ⟨z, hz⟩ : ∃ z, z = k * lo := ⟨_, rfl⟩
        rw [← hz] at hkl
        have q3 : IntKind.u64.wrap ((k : Int) * (lo : Int)) = (z : Int) := by
          have e : ((k : Int) * (lo : Int)) = (z : Int) := by rw [hz]; push_cast; rfl
          rw [e, wrap_u64c]; omega
        have q4 : IntKind.u64.wrap ((hi : Int) + (z : Int)) = ((hi + z : Nat) : Int) := by rw [wrap_u64c]; omega
        have q5 : IntKind.u64.wrap (b : Int) = (b : Int) := by rw [wrap_u64c]; omega
        have hb0 : ¬ (b : Int) = 0 := by omega
        obtain ⟨d, hd⟩ : ∃ d, d = (hi + z) % b := ⟨_, rfl⟩
        have q6 : (((hi + z : Nat) : Int) % (b : Int)) = (d : Int) := by rw [hd]; push_cast; rfl
        have hdb : d < 32 := by have := Nat.mod_lt (hi + z) (show b > 0 by omega); omega
        have hv2 : colCm (a : Int) (b : Int) L (k : Int) h = d := by rw [hv, hd, hz, hhi, hlo]; rfl
        have HV := Lib.hid hv2
        have q6' : (((hi : Int) + (z : Int)).tmod (b : Int)) = (d : Int) := by
          rw [Int.tmod_eq_emod_of_nonneg (by omega), ← q6]; push_cast; rfl
        have q7 : IntKind.i64.wrap (d : Int) = (d : Int) := by
          have e : IntKind.i64.wrap (d : Int) = if 9223372036854775808 ≤ (d : Int) % 18446744073709551616 then (d : Int) % 18446744073709551616 - 18446744073709551616 else (d : Int) % 18446744073709551616 := by simp [IntKind.wrap, IntKind.signed, IntKind.bits]
          rw [e]; split <;> omega
        have q1' : (h : Int).tdiv 4294967296 = (hi : Int) := by rw [Int.tdiv_eq_ediv_of_nonneg (by omega)]; exact q1
        have q2' : (h : Int).tmod 4294967296 = (lo : Int) := by rw [Int.tmod_eq_emod_of_nonneg (by omega)]; exact q2
        clear hq hv hv2 hd hz hhi hlo hh ht hr0 h1 h2 h3 q6
        go_enter Try.func20, Try.ntmps20
        go_wp2_with fail
        with_reducible refine (R1.out).mono ?_
        rintro e w1 ⟨rfl, rfl⟩
        go_wp2_with fail
        go_ret
        exact ⟨by rw [HV.out]; rfl, HB.out⟩
set_option maxHeartbeats 2000000 in
set_option maxRecDepth 100000 in
theorem pSame8_any (r c : Int) (L : List Nat) (v : Value) (r2 c2 : Int) (K : List Nat) (u : Value) (w : World) (hv : NumSl w v L) (hu : NumSl w u K) (hn : L.length ≤ 1000) (hm : K.length ≤ 1000) :
    Calls Try.prog 18 #[cV r c v, cV r2 c2 u] w fun e w' => e = .returned (.bool (sameCm r c L r2 c2 K)) ∧ Below w.heap.size w w' := by
  have hb0 := ((Below.refl w.heap.size w).alloc (Nat.le_refl _) (Obj.cells #[.int .i64 r, .int .i64 c, v] 24)).alloc (by simp) (Obj.cells #[.int .i64 r2, .int .i64 c2, u] 24)
  have hx0 := (HasC.new w 24 #[.int .i64 r, .int .i64 c, v]).alloc (Obj.cells #[.int .i64 r2, .int .i64 c2, u] 24)
  have hy0 : HasC ((w.alloc (Obj.cells #[.int .i64 r, .int .i64 c, v] 24)).alloc (Obj.cells #[.int .i64 r2, .int .i64 c2, u] 24)) (w.heap.size + 1) 24 #[.int .i64 r2, .int .i64 c2, u] := HasC.at_ _ _ _ (by simp)
  have N1 := Lib.hid (eNums_any L K v u _ (hv.below hb0) (hu.below hb0) hn hm)
  have HB := Lib.hid hb0
  have k2 := hx0.cell 2
  have l2 := hy0.cell 2
  obtain ⟨ao, cp, rfl, _⟩ := hv.shape
  obtain ⟨bo, dp, rfl, _⟩ := hu.shape
  obtain ⟨q, hq⟩ : ∃ q, decide (L = K) = q := ⟨_, rfl⟩
  have hS : sameCm r c L r2 c2 K = (decide (r = r2) && (decide (c = c2) && q)) := by unfold sameCm; rw [hq]
  rw [hS]
  rw [hq] at N1
  obtain ⟨m, hmm⟩ : ∃ m, m = L.length := ⟨_, rfl⟩
  obtain ⟨p, hpp⟩ : ∃ p, p = K.length := ⟨_, rfl⟩
  rw [← hmm, ← hpp] at N1 HB k2 l2 ⊢
  clear hb0 hx0 hy0 hv hu hq hS hmm hpp hn hm
  unfold cV
  by_cases h1 : r = r2
  · subst h1
    by_cases h2 : c = c2
    · subst h2
      rw [decide_eq_true rfl, decide_eq_true rfl, Bool.true_and, Bool.true_and]
      go_enter Try.func18, Try.ntmps18
      go_wp2_with fail
      with_reducible refine (N1.out).mono ?_
      rintro e w1 ⟨rfl, hb⟩
      have hb1 := HB.out.trans (hb.mono HB.out.size)
      go_wp2_with fail
      go_ret
      exact ⟨by simp, hb1⟩
    · have hc : (c == c2) = false := by simp [h2]
      rw [decide_eq_false h2, Bool.false_and, Bool.and_false]
      clear h2
      go_enter Try.func18, Try.ntmps18
      go_wp2_with fail
      go_ret
      exact ⟨by simp, HB.out⟩
  · have hc : (r == r2) = false := by simp [h1]
    rw [decide_eq_false h1, Bool.false_and]
    clear h1
    go_enter Try.func18, Try.ntmps18
    go_wp2_with fail
    go_ret
    exact ⟨by simp, HB.out⟩
end Go.Proofs.Ythhlofcmhnkcmaa
