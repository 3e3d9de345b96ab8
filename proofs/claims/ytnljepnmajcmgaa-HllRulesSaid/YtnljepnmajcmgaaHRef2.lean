/- The page's own answers for layer 7: New, Place. -/
import Derived.Test.YtnljepnmajcmgaaHRef
import Derived.OwnWalk
namespace Go.Proofs.Ytnljepnmajcmgaa
open Go.RowKit

theorem infoU8 : (Try.prog.info? 5).map (fun i => (i.zero, i.size, i.bytes)) = some (some (.int .u8 0), 1, 1) := by kernel_rfl
theorem bytC_made {w : World} {base g m : Nat} (h : w.ownsRow base 5 1 (.slice (some ⟨g, 0, none⟩) m m) m (madeCells (Value.int .u8 0).cells (m * 1)).toList) : BytC w g (List.replicate m 0) := by
  rcases h.2 with ⟨hv, _⟩ | ⟨g', cap, cur, he, _, hg, _, _, hc3, htk⟩
  · cases hv
  · simp only [Value.slice.injEq, Option.some.injEq, Addr.mk.injEq] at he
    obtain ⟨⟨rfl, _, _⟩, _, rfl⟩ := he
    refine ⟨(Array.getElem?_eq_some_iff.1 hg).1, fun j hj => ?_⟩
    have hj' : j < m := by simpa using hj
    refine ⟨?_, by simp [World.frozen?, hg]⟩
    rw [cell_of_row w g j cur 5 (0, 0) hg]
    have h1 : (madeCells (Value.int .u8 0).cells (m * 1)).toList[j]? = some (.int .u8 0) := by
      show (madeCells #[Value.int .u8 0] (m * 1)).toList[j]? = _
      rw [toList_madeCells_one, Nat.mul_one]
      simp [hj']
    rw [← htk, List.getElem?_take, if_pos (by omega)] at h1
    simpa using h1
set_option maxHeartbeats 2000000 in
set_option maxRecDepth 100000 in
theorem pNew_any (b : Int) (w : World) :
    Calls Try.prog 20 #[.int .i64 b] w fun e w' => e = .returned (hT (newH b)) ∧ Below w.heap.size w w' := by
  obtain ⟨i0, hi, hz0, hz1, hz2⟩ := partsE infoU8
  have i1 := Lib.hid hi
  have i2 := Lib.hid hz0
  have i3 := Lib.hid hz1
  have i4 := Lib.hid hz2
  clear hi hz0 hz1 hz2
  have B1 := Lib.hid (fun W => pBits_any b W)
  have hx0 := HasC.new w 23 #[.int .i64 0, .string { data := #[] }]
  have hb0 := (Below.refl w.heap.size w).alloc (Nat.le_refl _) (Obj.cells #[.int .i64 0, .string { data := #[] }] 23)
  have HX := Lib.hid hx0
  have HB := Lib.hid hb0
  clear hx0 hb0
  cases hq : okB b with
  | false =>
    rw [hq] at B1
    have hv : newH b = badR := by unfold newH; rw [hq]; rfl
    have HV := Lib.hid hv
    clear hq hv
    go_enter Try.func20, Try.ntmps20
    go_wp2_with fail
    with_reducible refine (B1.out _).mono ?_
    rintro e w1 ⟨rfl, rfl⟩
    go_wp2_with fail
    refine bodyPost_ret (results_hll rfl _ _ w.heap.size _ _ rfl HX.out) rfl ?_
    rw [HV.out]
    exact ⟨rfl, HB.out⟩
  | true =>
    rw [hq] at B1
    obtain ⟨n, rfl, h3, h8⟩ := okB_nat hq
    obtain ⟨p, hp, hpw, hp8, hp256⟩ := pow_wrap h3 h8
    have hv : newH (n : Int) = (((n : Int), List.replicate p 0), 0) := by unfold newH; rw [hq, if_pos rfl, Int.toNat_natCast, of_nil, hp]
    have HV := Lib.hid hv
    clear hq hv hp
    go_enter Try.func20, Try.ntmps20
    go_wp2_with fail
    with_reducible refine (B1.out _).mono ?_
    rintro e w1 ⟨rfl, rfl⟩
    go_wp2_with (at_make; go_loud (refine wpList_make_full _ rfl (.tmp 10) (.tmp 10) 52 rfl w.heap.size 5 i0 (.int .u8 0) 1 Try.underlying52 i1.out i2.out i3.out .i64 .i64 _ _ p rfl rfl hpw hpw (by rw [i4.out]; omega) (by unfold maxLen; omega) (by simp) ?_; intro w2 hown2 hgrow2; have hb12 := HB.out.grown hgrow2 (by simp) (fun k hk => by cases hk); have hx2 := HX.out.below ((Below.refl _ _).grown hgrow2 (Nat.le_refl _) (fun k hk => by cases hk)) (by simp); have hbc := bytC_made hown2; have hcv := bytC_back hbc (fun r hr => by rw [(List.mem_replicate.1 hr).2]; decide) p p (by simp); rw [World.size_alloc] at hcv; have c0 := hx2.cell 0; have c1 := hx2.cell 1; have z0 := hx2.frozen 0; have z1 := hx2.frozen 1; clear hown2 hgrow2))
    have hx3 := ((hx2.set 0 (.int .i64 (n : Int))).set 1 (.string (regS (List.replicate p 0)))).eq (cs' := #[.int .i64 (n : Int), .string (regS (List.replicate p 0))]) rfl
    refine bodyPost_ret (results_hll rfl _ _ w.heap.size _ _ rfl hx3) rfl ?_
    rw [HV.out]
    exact ⟨rfl, (hb12.setCell (p := ⟨w.heap.size, 0, none⟩) (Nat.le_refl _) _).setCell (p := ⟨w.heap.size, 1, none⟩) (Nat.le_refl _) _⟩
theorem bit_mod {x K j : Nat} (h : j < K) : x % 2 ^ K / 2 ^ j % 2 = x / 2 ^ j % 2 := by
  have e : 2 ^ K = 2 ^ j * 2 ^ (K - j) := by rw [← Nat.pow_add]; congr 1; omega
  rw [e, Nat.mod_mul_right_div_self]
  have : 2 ∣ 2 ^ (K - j) := ⟨2 ^ (K - j - 1), by rw [← Nat.pow_succ']; congr 1; omega⟩
  exact Nat.mod_mod_of_dvd _ this
/-- A digit that is 0, or 1, at the top. -/
theorem top_zero {m j : Nat} (h : m < 2 ^ (j + 1)) (hb : m / 2 ^ j % 2 = 0) : m < 2 ^ j := by
  have hp := Nat.two_pow_pos j
  have h2 : m / 2 ^ j < 2 := by
    rw [Nat.div_lt_iff_lt_mul hp]
    rw [Nat.pow_succ] at h
    omega
  have h3 : m / 2 ^ j = 0 := by
    obtain ⟨t, ht⟩ : ∃ t, m / 2 ^ j = t := ⟨_, rfl⟩
    rw [ht] at hb h2 ⊢
    omega
  exact (Nat.div_eq_zero_iff_lt hp).1 h3
theorem top_one {m j : Nat} (hb : m / 2 ^ j % 2 = 1) : 2 ^ j ≤ m := by
  have hp := Nat.two_pow_pos j
  rcases Nat.lt_or_ge m (2 ^ j) with h | h
  · rw [Nat.div_eq_of_lt h] at hb; cases hb
  · exact h
theorem half_up (x j : Nat) : 2 * (x / 2 ^ (j + 1)) + x / 2 ^ j % 2 = x / 2 ^ j := by
  rw [Nat.pow_succ, ← Nat.div_div_eq_div_mul]
  obtain ⟨t, ht⟩ : ∃ t, x / 2 ^ j = t := ⟨_, rfl⟩
  rw [ht]
  omega
theorem digit_of (x j : Nat) : wrap64 (((x : Int) / 2 ^ j).tmod 2) = ((x / 2 ^ j % 2 : Nat) : Int) := by
  have h1 : ((x : Int) / 2 ^ j) = ((x / 2 ^ j : Nat) : Int) := by push_cast; rfl
  rw [h1, show (2 : Int) = ((2 : Nat) : Int) from rfl, ← Int.ofNat_tmod]
  exact wrap64_small (by omega) (by have := Nat.mod_lt (x / 2 ^ j) (show 0 < 2 by decide); omega)
theorem place_small {x n j : Nat} (hx : x < 18446744073709551616) (h8 : n ≤ 8) : x / 2 ^ (max j (64 - n)) < 256 := by
  have h1 : x / 2 ^ (max j (64 - n)) ≤ x / 2 ^ (64 - n) := Nat.div_le_div_left (Nat.pow_le_pow_right (by decide) (by omega)) (Nat.two_pow_pos _)
  have h2 := at_lt (b := n) (n := x) (by omega) hx
  unfold atP at h2
  have h3 : 2 ^ n ≤ 2 ^ 8 := Nat.pow_le_pow_right (by decide) h8
  omega
set_option maxHeartbeats 2000000 in
set_option maxRecDepth 100000 in
theorem pPlace_any (b : Int) (x : Nat) (w : World) (hx : x < 18446744073709551616) :
    Calls Try.prog 18 #[.int .i64 b, nV x] w fun e w' => e = .returned (.tuple #[.int .i64 ((placeH b x).1 : Int), .int .i64 ((placeH b x).2 : Int)]) ∧ Below w.heap.size w w' := by
  have B1 := Lib.hid (fun W => pBits_any b W)
  cases hq : okB b with
  | false =>
    rw [hq] at B1
    have hv : placeH b x = (0, 0) := by unfold placeH; rw [hq]; rfl
    rw [hv]
    clear hq hv
    go_enter Try.func18, Try.ntmps18
    go_wp2_with fail
    with_reducible refine (B1.out _).mono ?_
    rintro e w1 ⟨rfl, rfl⟩
    go_wp2_with fail
    go_ret2
    exact ⟨rfl, Below.refl _ _⟩
  | true =>
    rw [hq] at B1
    obtain ⟨n, rfl, h3, h8⟩ := okB_nat hq
    have hv : placeH (n : Int) x = (atP n x, rankP n x) := by unfold placeH; rw [hq, if_pos rfl, Int.toNat_natCast]
    rw [hv]
    have HX := Lib.hid hx
    clear hq hv hx
    go_enter Try.func18, Try.ntmps18
    go_wp2_with fail
    with_reducible refine (B1.out _).mono ?_
    rintro e w1 ⟨rfl, rfl⟩
    go_wp2_with fail
    go_loopw [6, 7, 8] (fun a r i wr => ∃ j q : Nat, j ≤ 64 ∧ i = .int .i64 ((j : Int) - 1) ∧ a = .int .i64 (q : Int) ∧ Hid (q = x / 2 ^ (max j (64 - n))) ∧ r = .int .i64 ((1 + (64 - n - j) : Nat) : Int) ∧ Hid (x % 2 ^ (64 - n) < 2 ^ j) ∧ wr = w) (fun _ _ i _ => (intOf i + 1).toNat)
    case atStart => exact ⟨64, 0, by decide, rfl, rfl, by show 0 = _; rw [show max 64 (64 - n) = 64 by omega, Nat.div_eq_of_lt HX.out], by congr 1; omega, Nat.lt_of_lt_of_le (Nat.mod_lt _ (Nat.two_pow_pos _)) (Nat.pow_le_pow_right (by decide) (by omega)), rfl⟩
    case round =>
      obtain ⟨j, q, hj, rfl, rfl, hqv, rfl, hm, rfl⟩ := hrel
      cases j with
      | zero =>
        have e0 : (((0 : Nat) : Int) - 1) = -1 := rfl
        have hm0 : x % 2 ^ (64 - n) = 0 := by have := hm.out; omega
        have ha : atP n x = q := by
          have := hqv.out
          rw [show max 0 (64 - n) = 64 - n by omega] at this
          exact this.symm
        have hr : rankP n x = 1 + (64 - n - 0) := by
          unfold rankP
          rw [hm0]
          show 65 - n - 0 = _
          omega
        rw [e0]
        have HA := Lib.hid ha
        have HR := Lib.hid hr
        clear hm0 ha hr
        go_wp2_with fail
        go_ret2
        exact ⟨by rw [HA.out, HR.out]; rfl, Below.refl _ _⟩
      | succ j =>
        have ej : (((j + 1 : Nat) : Int) - 1) = (j : Int) := by omega
        rw [ej]
        have hd := digit_of x j
        obtain ⟨d, hdv⟩ : ∃ d, x / 2 ^ j % 2 = d := ⟨_, rfl⟩
        have hd2 : d < 2 := by rw [← hdv]; exact Nat.mod_lt _ (by decide)
        have hqb : q < 256 := by rw [hqv.out]; exact place_small HX.out h8
        rw [hdv] at hd
        have HD := Lib.hid hdv
        clear hdv
        by_cases hjn : 64 - n ≤ j
        · have hjn' : (64 - (n : Int)) ≤ (j : Int) := by omega
          have hq2 : Hid (2 * q + d = x / 2 ^ (max j (64 - n))) := by
            show _ = _
            have h1 := hqv.out
            rw [show max (j + 1) (64 - n) = j + 1 by omega] at h1
            rw [show max j (64 - n) = j by omega, h1, ← HD.out, half_up]
          have hm2 : Hid (x % 2 ^ (64 - n) < 2 ^ j) := Nat.lt_of_lt_of_le (Nat.mod_lt _ (Nat.two_pow_pos _)) (Nat.pow_le_pow_right (by decide) hjn)
          have hrk : (1 + (64 - n - (j + 1))) = (1 + (64 - n - j)) := by omega
          rw [hrk]
          clear hrk
          go_wp2_with fail
          go_roundw
          case rel => exact ⟨j, 2 * q + d, by omega, by go_num, by go_num, hq2, rfl, hm2, by trivial⟩
          case measure => simp [intOf]; try omega
        · have hjn' : ¬ (64 - (n : Int)) ≤ (j : Int) := by omega
          have hbit : x % 2 ^ (64 - n) / 2 ^ j % 2 = d := by rw [bit_mod (by omega), HD.out]
          by_cases hd1 : d = 1
          · have hlow := top_one (by rw [hbit]; exact hd1)
            have ha : atP n x = q := by
              have := hqv.out
              rw [show max (j + 1) (64 - n) = 64 - n by omega] at this
              exact this.symm
            have hr : rankP n x = 1 + (64 - n - (j + 1)) := by
              unfold rankP
              rw [blen_top hlow hm.out]
              omega
            have HA := Lib.hid ha
            have HR := Lib.hid hr
            subst hd1
            clear hbit hlow ha hr
            go_wp2_with fail
            go_ret2
            exact ⟨by rw [HA.out, HR.out]; rfl, Below.refl _ _⟩
          · have hd0 : d = 0 := by omega
            have hm2 : Hid (x % 2 ^ (64 - n) < 2 ^ j) := top_zero hm.out (by rw [hbit]; exact hd0)
            have hq2 : Hid (q = x / 2 ^ (max j (64 - n))) := by
              show _ = _
              have h1 := hqv.out
              rw [show max (j + 1) (64 - n) = 64 - n by omega] at h1
              rw [show max j (64 - n) = 64 - n by omega]
              exact h1
            subst hd0
            clear hbit hd1
            obtain ⟨t, ht⟩ : ∃ t, t = 1 + (64 - n - (j + 1)) := ⟨_, rfl⟩
            rw [← ht]
            have HT := Lib.hid ht
            have ht64 : t ≤ 64 := by omega
            clear ht
            go_wp2_with fail
            go_roundw
            case rel => exact ⟨j, q, by omega, by go_num, rfl, hq2, by have := HT.out; congr 1; omega, hm2, by trivial⟩
            case measure => simp [intOf]; try omega
end Go.Proofs.Ytnljepnmajcmgaa
