/- The statements' walks, stage 9: HistFull. -/
import Derived.Test.YtpdedogdffolnaaGItm
namespace Go.Proofs.Ytpdedogdffolnaa
open Go.RowKit

theorem put_twice (B : Int) (n m : Nat) : (putBn (putBn [] B n) B m).length ≤ 1 := by
  unfold putBn
  by_cases h1 : n = 0 <;> by_cases h2 : m = 0 <;> simp [h1, h2, putG]
theorem of_twice (k v n m : Nat) : (ofG k (([] ++ [(v, n)]) ++ [(v, m)])).length ≤ 1 := by
  rw [of_snocG, of_snocG]
  exact put_twice _ n m
theorem cnt_twice (k v n m : Nat) (p : Int → Bool) (hp : p (bktP k v : Int) = true) : cntG k p (([] ++ [(v, n)]) ++ [(v, m)]) = n + m := by
  simp [cntG, hp]
set_option maxHeartbeats 16000000 in
set_option maxRecDepth 100000 in
theorem lawFull9_any (f : Int) (v n m : Nat) (w : World) (hv : v ≤ topN) (hn : n ≤ topN) (hm : m ≤ topN) :
    Calls Try.prog 9 #[.int .i64 f, gV v, gV n, gV m] w fun e w' => e = .returned (.bool true) ∧ Below w.heap.size w w' := by
  by_cases hlo : f < 0
  · clear hv hn hm
    go_enter Try.func9, Try.ntmps9
    go_wp2_with fail
    with_reducible refine (shown9_any _).mono ?_
    rintro e w1 ⟨rfl, hk⟩
    go_wp2_with fail
    go_ret
    exact ⟨rfl, hk⟩
  by_cases hhi : 3 < f
  · clear hv hn hm
    go_enter Try.func9, Try.ntmps9
    go_wp2_with fail
    with_reducible refine (shown9_any _).mono ?_
    rintro e w1 ⟨rfl, hk⟩
    go_wp2_with fail
    go_ret
    exact ⟨rfl, hk⟩
  obtain ⟨k, rfl⟩ : ∃ k : Nat, f = (k : Int) := ⟨f.toNat, by omega⟩
  have hk3 : k ≤ 3 := by omega
  have I1 : ItOk ([] ++ [(v, n)]) := ItOk.snoc ItOk.nil (by decide) hv hn
  have I2 : ItOk (([] ++ [(v, n)]) ++ [(v, m)]) := ItOk.snoc I1 (by simp) hv hm
  have I3 : ItOk ((([] ++ [(v, n)]) ++ [(v, m)]) ++ (([] ++ [(v, n)]) ++ [(v, m)])) := ItOk.app I2 I2 (by simp)
  have A1 := Lib.hid (fun W => kAdd9 hk3 ItOk.nil v n hv hn (.slice none 0 0) W (BinSl.nil W))
  have A2 := Lib.hid (fun u W hs => kAdd9 hk3 I1 v m hv hm u W hs)
  have M1 := Lib.hid (fun u t W hs ht => kMerge9 hk3 I2 I2 u t W hs ht)
  have T1 := Lib.hid (fun u W hs => kTotal9 hk3 I2 u W hs)
  have R1 := Lib.hid (fun u W hs => kRank9 hk3 I2 v hv u W hs)
  have T2 := Lib.hid (fun u W hs => kTotal9 hk3 I3 u W hs)
  have P1 := Lib.hid (fun W => pPlus9_bel n m W hm)
  have P2 := Lib.hid (fun W => pPlus9_bel (plusS n m) (plusS n m) W (plus_le n m))
  have e1 := cnt_twice k v n m (fun _ => true) rfl
  have e2 := cnt_twice k v n m (fun a => decide (a ≤ (bktP k v : Int))) (decide_eq_true (Int.le_refl _))
  have e3 : min (cntG k (fun _ => true) ((([] ++ [(v, n)]) ++ [(v, m)]) ++ (([] ++ [(v, n)]) ++ [(v, m)]))) topN = plusS (plusS n m) (plusS n m) := by
    rw [cntG_app, e1]
    unfold plusS
    omega
  rw [e1] at T1
  rw [e2] at R1
  rw [e3] at T2
  rw [show min (n + m) topN = plusS n m from rfl] at T1 R1
  have hlen := of_twice k v n m
  obtain ⟨S, hS⟩ : ∃ S, plusS n m = S := ⟨_, rfl⟩
  rw [hS] at P1 P2 T1 R1 T2
  obtain ⟨S2, hS2⟩ : ∃ S2, plusS S S = S2 := ⟨_, rfl⟩
  rw [hS2] at P2 T2
  obtain ⟨L2, hL2⟩ : ∃ L, ofG k (([] ++ [(v, n)]) ++ [(v, m)]) = L := ⟨_, rfl⟩
  rw [hL2] at A2 M1 T1 R1 hlen
  obtain ⟨L1, hL1⟩ : ∃ L, ofG k ([] ++ [(v, n)]) = L := ⟨_, rfl⟩
  rw [hL1] at A1 A2
  obtain ⟨L3, hL3⟩ : ∃ L, ofG k ((([] ++ [(v, n)]) ++ [(v, m)]) ++ (([] ++ [(v, n)]) ++ [(v, m)])) = L := ⟨_, rfl⟩
  rw [hL3] at M1 T2
  have HLEN := Lib.hid hlen
  unfold hgV at A1 A2 M1 T1 R1 T2
  clear hv hn hm I1 I2 I3 e1 e2 e3 hS hS2 hL1 hL2 hL3 hlen
  go_enter Try.func9, Try.ntmps9
  go_wp2_with fail
  with_reducible refine (shown9_any _).mono ?_
  rintro e w1 ⟨rfl, hk⟩
  go_wp2_with fail
  with_reducible refine (A1.out _).mono ?_
  rintro e w2 ⟨⟨v2, rfl, z2⟩, hb⟩
  obtain ⟨a2, n2, c2, rfl⟩ := z2.form
  replace hk := hk.trans (hb.mono hk.size)
  obtain ⟨w3, hw3, hb3, hz3, tx⟩ := atG_new w2 k (.slice a2 n2 c2)
  replace hk := hk.trans (hb3.mono hk.size)
  have sx := z2.below hb3
  clear hb hb3 z2 
  have kx0 := tx.c0
  have kx1 := tx.c1
  go_wp2_with fail
  with_reducible refine (A2.out _ _ sx).mono ?_
  rintro e w4 ⟨⟨v4, rfl, z4⟩, hb⟩
  obtain ⟨a4, n4, c4, rfl⟩ := z4.form
  replace hk := hk.trans (hb.mono hk.size)
  obtain ⟨w5, hw5, hb5, hz5, ty⟩ := atG_new w4 k (.slice a4 n4 c4)
  replace hk := hk.trans (hb5.mono hk.size)
  replace sx := (sx.below hb).below hb5
  replace tx := (tx.on hb).on hb5
  have sy := z4.below hb5
  clear hb hb5 z4 kx0 kx1
  clear sx tx
  have ky0 := ty.c0
  have ky1 := ty.c1
  go_wp2_with fail
  with_reducible refine (M1.out _ _ _ sy sy).mono ?_
  rintro e w6 ⟨⟨v6, rfl, z6⟩, hb⟩
  obtain ⟨a6, n6, c6, rfl⟩ := z6.form
  replace hk := hk.trans (hb.mono hk.size)
  obtain ⟨w7, hw7, hb7, hz7, tz⟩ := atG_new w6 k (.slice a6 n6 c6)
  replace hk := hk.trans (hb7.mono hk.size)
  replace sy := (sy.below hb).below hb7
  replace ty := (ty.on hb).on hb7
  have sz := z6.below hb7
  clear hb hb7 z6 ky0 ky1
  go_wp2_with fail
  with_reducible refine (P1.out _).mono ?_
  rintro e w8 ⟨rfl, hb⟩
  replace hk := hk.trans (hb.mono hk.size)
  replace sy := sy.below hb
  replace ty := ty.on hb
  replace sz := sz.below hb
  replace tz := tz.on hb
  clear hb 
  have ky0 := ty.c0
  have ky1 := ty.c1
  go_wp2_with fail
  with_reducible refine (T1.out _ _ sy).mono ?_
  rintro e w9 ⟨rfl, hb⟩
  replace hk := hk.trans (hb.mono hk.size)
  replace sy := sy.below hb
  replace ty := ty.on hb
  replace sz := sz.below hb
  replace tz := tz.on hb
  clear hb ky0 ky1
  have ky0 := ty.c0
  have ky1 := ty.c1
  go_wp2_with fail
  with_reducible refine (R1.out _ _ sy).mono ?_
  rintro e w10 ⟨rfl, hb⟩
  replace hk := hk.trans (hb.mono hk.size)
  replace sy := sy.below hb
  replace ty := ty.on hb
  replace sz := sz.below hb
  replace tz := tz.on hb
  clear hb ky0 ky1
  have kz0 := tz.c0
  have kz1 := tz.c1
  go_wp2_with fail
  with_reducible refine (T2.out _ _ sz).mono ?_
  rintro e w11 ⟨rfl, hb⟩
  replace hk := hk.trans (hb.mono hk.size)
  replace sy := sy.below hb
  replace ty := ty.on hb
  replace sz := sz.below hb
  replace tz := tz.on hb
  clear hb kz0 kz1
  go_wp2_with fail
  with_reducible refine (P2.out _).mono ?_
  rintro e w12 ⟨rfl, hb⟩
  replace hk := hk.trans (hb.mono hk.size)
  replace sy := sy.below hb
  replace ty := ty.on hb
  replace sz := sz.below hb
  replace tz := tz.on hb
  clear hb 
  have hle : (n4 : Int) ≤ 1 := by have h1 := sy.len; have h2 := HLEN.out; omega
  have ky1 := ty.c1
  go_wp2_with fail
  go_ret
  exact ⟨rfl, hk⟩
end Go.Proofs.Ytpdedogdffolnaa
