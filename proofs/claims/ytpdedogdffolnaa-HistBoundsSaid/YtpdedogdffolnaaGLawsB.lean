/- The statements' walks, stage 9: HistBounds. -/
import Derived.Test.YtpdedogdffolnaaGOf
namespace Go.Proofs.Ytpdedogdffolnaa
open Go.RowKit

theorem kBucket_bad {f : Int} (hb : fineB f = false) (hf : smallI f) (x : Nat) (hx : x ≤ topN) (W : World) :
    Calls Try.prog 17 #[.int .i64 f, gV x] W fun e w' => e = .returned (.int .i64 0) ∧ Below W.heap.size W w' := by
  have := gBucket_any f x W hf hx
  have h0 : bucketI f x = 0 := by unfold bucketI; rw [hb]; rfl
  rw [h0] at this
  exact this
set_option maxHeartbeats 16000000 in
set_option maxRecDepth 100000 in
theorem lawBounds9_any (f : Int) (v x : Nat) (w : World) (hf : smallI f) (hv : v ≤ topN) (hx : x ≤ topN) :
    Calls Try.prog 5 #[.int .i64 f, gV v, gV x] w fun e w' => e = .returned (.bool true) ∧ Below w.heap.size w w' := by
  by_cases hlo : f < 0
  · have K1 := Lib.hid (fun W => kBucket_bad (f := f) (by unfold fineB; rw [decide_eq_false (by omega)]; rfl) hf v hv W)
    clear hv hx hf
    go_enter Try.func5, Try.ntmps5
    go_wp2_with fail
    with_reducible refine (shown9_any _).mono ?_
    rintro e w1 ⟨rfl, hk⟩
    go_wp2_with fail
    with_reducible refine (K1.out _).mono ?_
    rintro e w2 ⟨rfl, hb⟩
    replace hk := hk.trans (hb.mono hk.size)
    go_wp2_with fail
    go_ret
    exact ⟨rfl, hk⟩
  by_cases hhi : 3 < f
  · have K1 := Lib.hid (fun W => kBucket_bad (f := f) (by unfold fineB; rw [decide_eq_false (show ¬ f ≤ 3 by omega), Bool.and_false]) hf v hv W)
    clear hv hx hf
    go_enter Try.func5, Try.ntmps5
    go_wp2_with fail
    with_reducible refine (shown9_any _).mono ?_
    rintro e w1 ⟨rfl, hk⟩
    go_wp2_with fail
    with_reducible refine (K1.out _).mono ?_
    rintro e w2 ⟨rfl, hb⟩
    replace hk := hk.trans (hb.mono hk.size)
    go_wp2_with fail
    go_ret
    exact ⟨rfl, hk⟩
  obtain ⟨n, rfl⟩ : ∃ n : Nat, f = (n : Int) := ⟨f.toNat, by omega⟩
  have hn : n ≤ 3 := by omega
  have h64 : topN = 2 ^ 64 - 1 := rfl
  obtain ⟨hok, hlv, hvh⟩ := bkt_in (f := n) (v := v) (by omega)
  have hht := hi_lt hok
  have hBl := bkt_lo hok
  have hBh := bkt_hi hok
  have hgt : ∀ y, y < loP n (bktP n v) → bktP n y < bktP n v := fun y hy => bkt_lt hok hy
  obtain ⟨mn, hmn1, hmn2⟩ : ∃ mn : Nat, (if (x : Int) < (v : Int) then (x : Int) else (v : Int)) = (mn : Int) ∧ mn ≤ v ∧ mn ≤ x := ⟨min v x, by split <;> omega, by omega, by omega⟩
  obtain ⟨mx, hmx1, hmx2⟩ : ∃ mx : Nat, (if (v : Int) < (x : Int) then (x : Int) else (v : Int)) = (mx : Int) ∧ v ≤ mx ∧ mx ≤ topN := ⟨max v x, by split <;> omega, by omega, by omega⟩
  have hmm : bktP n mn ≤ bktP n mx := bkt_mono (by omega)
  have hm1 : min (v : Int) (x : Int) = (mn : Int) := by rw [← hmn1]; split <;> omega
  have hm2 : max (v : Int) (x : Int) = (mx : Int) := by rw [← hmx1]; split <;> omega
  have hm3 : (if x < v then (x : Int) else (v : Int)) = (mn : Int) := by rw [← hmn1]; split <;> split <;> omega
  have hm4 : (if v < x then (x : Int) else (v : Int)) = (mx : Int) := by rw [← hmx1]; split <;> split <;> omega
  have KV := Lib.hid (fun W => kBucket9 hn v hv W)
  have KN := Lib.hid (fun W => kBucket9 hn mn (by omega) W)
  have KX := Lib.hid (fun W => kBucket9 hn mx (by omega) W)
  have KL := Lib.hid (fun W => kBucket9 hn (loP n (bktP n v)) (by omega) W)
  have KH := Lib.hid (fun W => kBucket9 hn (hiP n (bktP n v)) (by omega) W)
  have KP := Lib.hid (fun y (hy : y ≤ topN) W => kBucket9 hn y hy W)
  have hB64 := bkt_le (f := n) (v := v) (by omega)
  have h8 : 2 ^ n ≤ 2 ^ 3 := Nat.pow_le_pow_right (by decide) hn
  have BN := Lib.hid (fun W => by have := gBounds_any (n : Int) (bktP n v : Int) W hf ⟨by omega, by omega⟩; rw [bounds_bkt hn v hv] at this; exact this)
  rw [hBl] at KL
  rw [hBh] at KH
  obtain ⟨B, hB⟩ : ∃ B, bktP n v = B := ⟨_, rfl⟩
  rw [hB] at KV KL KH BN hlv hvh hht hgt hok
  obtain ⟨lo, hlo'⟩ : ∃ lo, loP n B = lo := ⟨_, rfl⟩
  obtain ⟨hi, hhi'⟩ : ∃ hi, hiP n B = hi := ⟨_, rfl⟩
  rw [hlo'] at KL BN hlv hgt
  rw [hhi'] at KH BN hvh hht
  obtain ⟨bn, hbn⟩ : ∃ b, bktP n mn = b := ⟨_, rfl⟩
  obtain ⟨bx, hbx⟩ : ∃ b, bktP n mx = b := ⟨_, rfl⟩
  rw [hbn] at KN hmm
  rw [hbx] at KX hmm
  have g1 : (lo : Int) ≤ (v : Int) := by omega
  have g2 : (v : Int) ≤ (hi : Int) := by omega
  have g3 : (bn : Int) ≤ (bx : Int) := by omega
  have j1 : lo ≤ v := hlv
  have j2 : v ≤ hi := hvh
  have j3 : bn ≤ bx := hmm
  unfold bndV at BN
  unfold gV at *
  have HGT := Lib.hid hgt
  clear hf hx h64 hok hht hBl hBh hmn2 hmx2 hB64 h8 hB hlo' hhi' hbn hbx hgt hhi hlo
  have fin : ∀ lo' : Nat, lo' = lo → True := fun _ _ => trivial
  clear fin
  rcases Nat.eq_zero_or_pos lo with h0 | h0
  · have e0 : ((lo : Int) == 0) = true := by simp [h0]
    clear KP HGT h0 hlv hvh hmm
    go_enter Try.func5, Try.ntmps5
    go_wp2_with fail
    with_reducible refine (shown9_any _).mono ?_
    rintro e w1 ⟨rfl, hk⟩
    have r1 : ¬ (n : Int) < 0 := by omega
    have r2 : ¬ (3 : Int) < (n : Int) := by omega
    go_wp2_with fail
    with_reducible refine (KV.out _).mono ?_
    rintro e w2 ⟨rfl, hb⟩
    replace hk := hk.trans (hb.mono hk.size)
    clear hb
    go_wp2_with fail
    with_reducible refine (BN.out _).mono ?_
    rintro e w3 ⟨rfl, hb⟩
    replace hk := hk.trans (hb.mono hk.size)
    clear hb
    go_wp2_with fail
    with_reducible refine (KN.out _).mono ?_
    rintro e w4 ⟨rfl, hb⟩
    replace hk := hk.trans (hb.mono hk.size)
    clear hb
    go_wp2_with fail
    with_reducible refine (KX.out _).mono ?_
    rintro e w5 ⟨rfl, hb⟩
    replace hk := hk.trans (hb.mono hk.size)
    clear hb
    go_wp2_with fail
    with_reducible refine (KL.out _).mono ?_
    rintro e w6 ⟨rfl, hb⟩
    replace hk := hk.trans (hb.mono hk.size)
    clear hb
    go_wp2_with fail
    with_reducible refine (KV.out _).mono ?_
    rintro e w7 ⟨rfl, hb⟩
    replace hk := hk.trans (hb.mono hk.size)
    clear hb
    go_wp2_with fail
    with_reducible refine (KH.out _).mono ?_
    rintro e w8 ⟨rfl, hb⟩
    replace hk := hk.trans (hb.mono hk.size)
    clear hb
    go_wp2_with fail
    with_reducible refine (KV.out _).mono ?_
    rintro e w9 ⟨rfl, hb⟩
    replace hk := hk.trans (hb.mono hk.size)
    clear hb
    go_wp2_with fail
    go_ret
    exact ⟨rfl, hk⟩
  · obtain ⟨l1, hl1⟩ : ∃ l1, lo = l1 + 1 := ⟨lo - 1, by omega⟩
    have e0 : ((lo : Int) == 0) = false := by simp; omega
    have ew : IntKind.u64.wrap ((lo : Int) - 1) = (l1 : Int) := by rw [wrapU9]; have : v ≤ 18446744073709551615 := hv; omega
    have KQ := Lib.hid (KP.out l1 (by omega))
    have g4 := HGT.out l1 (by omega)
    obtain ⟨bp, hbp⟩ : ∃ b, bktP n l1 = b := ⟨_, rfl⟩
    rw [hbp] at KQ g4
    have g5 : (bp : Int) < (B : Int) := by omega
    clear KP HGT h0 hlv hvh hmm hbp hl1
    go_enter Try.func5, Try.ntmps5
    go_wp2_with fail
    with_reducible refine (shown9_any _).mono ?_
    rintro e w1 ⟨rfl, hk⟩
    have r1 : ¬ (n : Int) < 0 := by omega
    have r2 : ¬ (3 : Int) < (n : Int) := by omega
    go_wp2_with fail
    with_reducible refine (KV.out _).mono ?_
    rintro e w2 ⟨rfl, hb⟩
    replace hk := hk.trans (hb.mono hk.size)
    clear hb
    go_wp2_with fail
    with_reducible refine (BN.out _).mono ?_
    rintro e w3 ⟨rfl, hb⟩
    replace hk := hk.trans (hb.mono hk.size)
    clear hb
    go_wp2_with fail
    with_reducible refine (KN.out _).mono ?_
    rintro e w4 ⟨rfl, hb⟩
    replace hk := hk.trans (hb.mono hk.size)
    clear hb
    go_wp2_with fail
    with_reducible refine (KX.out _).mono ?_
    rintro e w5 ⟨rfl, hb⟩
    replace hk := hk.trans (hb.mono hk.size)
    clear hb
    go_wp2_with fail
    with_reducible refine (KL.out _).mono ?_
    rintro e w6 ⟨rfl, hb⟩
    replace hk := hk.trans (hb.mono hk.size)
    clear hb
    go_wp2_with fail
    with_reducible refine (KV.out _).mono ?_
    rintro e w7 ⟨rfl, hb⟩
    replace hk := hk.trans (hb.mono hk.size)
    clear hb
    go_wp2_with fail
    with_reducible refine (KH.out _).mono ?_
    rintro e w8 ⟨rfl, hb⟩
    replace hk := hk.trans (hb.mono hk.size)
    clear hb
    go_wp2_with fail
    with_reducible refine (KV.out _).mono ?_
    rintro e w9 ⟨rfl, hb⟩
    replace hk := hk.trans (hb.mono hk.size)
    clear hb
    go_wp2_with fail
    with_reducible refine (KQ.out _).mono ?_
    rintro e w10 ⟨rfl, hb⟩
    replace hk := hk.trans (hb.mono hk.size)
    clear hb
    go_wp2_with fail
    with_reducible refine (KV.out _).mono ?_
    rintro e w11 ⟨rfl, hb⟩
    replace hk := hk.trans (hb.mono hk.size)
    clear hb
    go_wp2_with fail
    go_ret
    exact ⟨rfl, hk⟩
end Go.Proofs.Ytpdedogdffolnaa
