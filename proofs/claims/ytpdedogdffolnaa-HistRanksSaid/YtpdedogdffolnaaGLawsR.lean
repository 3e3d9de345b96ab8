/- The statements' walks, stage 9: HistRanks. -/
import Derived.Test.YtpdedogdffolnaaGSelM
import Derived.Deep.RegionHeldLaw
namespace Go.Proofs.Ytpdedogdffolnaa
open Go.RowKit

theorem cnt_next (p : Nat → Bool) (K : List Nat) (k : Nat) (hk : k < K.length) : (K.take (k + 1)).countP p = (K.take k).countP p + if p K[k] then 1 else 0 := by
  rw [List.take_succ_eq_append_getElem hk, List.countP_append]
  simp [List.countP_cons]
theorem wrapU_small (x : Nat) (h : x ≤ topN) : IntKind.u64.wrap (x : Int) = (x : Int) := by
  have : topN = 18446744073709551615 := rfl
  rw [wrapU9]
  omega
set_option maxHeartbeats 16000000 in
set_option maxRecDepth 100000 in
theorem lawRanks9_any (f : Int) (L : List Nat) (v : Value) (x : Nat) (pl : Int) (w : World) (hv : NumSl w v L) (hn : L.length ≤ maxLen) (hL : ∀ y ∈ L, y ≤ topN) (hx : x ≤ topN) (hpl : smallI pl) :
    Calls Try.prog 8 #[.int .i64 f, v, gV x, .int .i64 pl] w fun e w' => e = .returned (.bool true) ∧ Below w.heap.size w w' := by
  by_cases hlo : f < 0
  · clear hv hn hL hx hpl
    go_enter Try.func8, Try.ntmps8
    go_wp2_with fail
    with_reducible refine (shown9_any _).mono ?_
    rintro e w1 ⟨rfl, hk⟩
    go_wp2_with fail
    go_ret
    exact ⟨rfl, hk⟩
  by_cases hhi : 3 < f
  · clear hv hn hL hx hpl
    go_enter Try.func8, Try.ntmps8
    go_wp2_with fail
    with_reducible refine (shown9_any _).mono ?_
    rintro e w1 ⟨rfl, hk⟩
    go_wp2_with fail
    go_ret
    exact ⟨rfl, hk⟩
  obtain ⟨fk, rfl⟩ : ∃ k : Nat, f = (k : Int) := ⟨f.toNat, by omega⟩
  have hk3 : fk ≤ 3 := by omega
  have h64 : topN = 2 ^ 64 - 1 := rfl
  unfold maxLen at hn
  obtain ⟨n, hnn⟩ : ∃ n, n = L.length := ⟨_, rfl⟩
  obtain ⟨m, q1, q2, q3, q4⟩ := min_ofG 100 100 rfl n
  have q5 : min (n : Int) 100 = (m : Int) := by have := q4.out; omega
  obtain ⟨ao, cp, rfl, hcell⟩ := hv.shape
  obtain ⟨K, hK0⟩ : ∃ K, K = L.take m := ⟨_, rfl⟩
  have hKl : K.length = m := by rw [hK0, List.length_take]; omega
  have hK : ∀ y ∈ K, y ≤ topN := fun y hy => hL y (List.mem_of_mem_take (hK0 ▸ hy))
  have HCL : Hid (∀ j (hj : j < K.length), ∃ g o, ao = some ⟨g, o, none⟩ ∧ g < w.heap.size ∧ ∀ W : World, Below w.heap.size w W → W.cell? ⟨g, o + j, none⟩ = some (nV K[j])) := by
    intro j hj
    obtain ⟨g, o, h1, h2⟩ := hcell j (by omega)
    refine ⟨g, o, h1, World.block_lt_of_cell? _ _ (h2 w (Below.refl _ _)), fun W hb => ?_⟩
    rw [h2 W hb]
    subst hK0
    rw [List.getElem_take]
  rw [← hnn]
  have hl100 : K.length ≤ 100 := by omega
  obtain ⟨hok, hlv, hvh⟩ := bkt_in (f := fk) (v := x) (by omega)
  have hht := hi_lt hok
  have hB64 := bkt_le (f := fk) (v := x) (by omega)
  have h8 : 2 ^ fk ≤ 2 ^ 3 := Nat.pow_le_pow_right (by decide) hk3
  have KV := Lib.hid (fun W => kBucket9 hk3 x hx W)
  have BN := Lib.hid (fun W => by have := gBounds_any (fk : Int) (bktP fk x : Int) W ⟨by omega, by omega⟩ ⟨by omega, by omega⟩; rw [bounds_bkt hk3 x hx] at this; exact this)
  have hIk : ∀ k, ItOk (onesG (K.take k)) := fun k => ones_ok (by rw [List.length_take]; omega) (fun y hy => hK y (List.mem_of_mem_take hy))
  have A1 := Lib.hid (fun k (hk : k < K.length) u W hs => by
    have := kAdd9 hk3 (hIk k) K[k] 1 (hK _ (List.getElem_mem hk)) (show 1 ≤ topN by decide) u W hs
    rw [← ones_snoc K k hk] at this
    exact this)
  have hI := ones_ok hl100 hK
  have R1 := Lib.hid (fun u W hs => by have := kRank9 hk3 hI x hx u W hs; rw [rank_ones hl100 hK hx] at this; exact this)
  have T1 := Lib.hid (fun u W hs => by have := kTotal9 hk3 hI u W hs; rw [total_ones fk hl100, hKl] at this; exact this)
  have RG := Lib.hid (fun y (hy : y ≤ topN) u W hs => kRank9 hk3 hI y hy u W hs)
  have Z1 := Lib.hid (fun p (hp : p ≤ topN) u W hs => gSel_any (fk : Int) (ofG fk (onesG K)) u p W (gok_of hk3 hI) hs hp)
  have SO := Lib.hid (fun p => sel_ones hk3 hl100 hK p)
  obtain ⟨B, hB⟩ : ∃ B, bktP fk x = B := ⟨_, rfl⟩
  rw [hB] at KV BN hvh hht
  obtain ⟨lo0, hlo'⟩ : ∃ lo, loP fk B = lo := ⟨_, rfl⟩
  obtain ⟨top, htop⟩ : ∃ hi, hiP fk B = hi := ⟨_, rfl⟩
  rw [hlo', htop] at BN
  rw [htop] at hvh hht
  simp only [hB, htop] at R1
  have hle : K.countP (fun y => decide (y ≤ x)) ≤ K.countP (fun y => decide (y ≤ top)) := List.countP_mono_left fun y _ hy => decide_eq_true (by have := of_decide_eq_true hy; omega)
  have CB := Lib.hid (fun (p : Nat → Bool) k => show (K.take k).countP p ≤ 100 from Nat.le_trans (List.countP_le_length ..) (by rw [List.length_take]; omega))
  have CN := Lib.hid (fun (p : Nat → Bool) k (hk : k < K.length) => cnt_next p K k hk)
  have HKL := Lib.hid hKl
  have hwm := wrapU_small m (by omega)
  unfold bndV at BN
  unfold SelX bndV at Z1
  unfold hgV at A1 R1 T1 RG Z1
  have HLE := Lib.hid hle
  have HX := Lib.hid hx
  clear hcell hv hL hx hn hnn hK0 hK hl100 hok hlv hht hB64 h8 hIk hI hB hlo' htop hKl hle hvh
  go_enter Try.func8, Try.ntmps8
  go_wp2_with fail
  with_reducible refine (shown9_any _).mono ?_
  rintro e w1 ⟨rfl, hk⟩
  go_wp2_with fail
  obtain ⟨w2, hw2, hb2, hz2, tx⟩ := atG_new w1 fk (.slice none 0 0)
  rw [hw2]
  have HSZ : Hid (w.heap.size ≤ w1.heap.size) := hk.size
  replace hk := hk.trans (hb2.mono hk.size)
  clear hb2
  with_reducible refine (KV.out _).mono ?_
  rintro e w3 ⟨rfl, hb⟩
  replace hk := hk.trans (hb.mono hk.size)
  replace tx := tx.on hb
  clear hb
  go_wp2_with fail
  with_reducible refine (BN.out _).mono ?_
  rintro e w4 ⟨rfl, hb⟩
  replace hk := hk.trans (hb.mono hk.size)
  replace tx := tx.on hb
  clear hb
  go_wp2_with fail
  go_loopw [11, 12, 16] (fun lw hg i wr => ∃ (k : Nat) (a' : Option Addr) (n' c' : Nat), k ≤ m ∧ lw = gV ((K.take k).countP (fun y => decide (y ≤ x))) ∧ hg = gV ((K.take k).countP (fun y => decide (y ≤ top))) ∧ i = .int .i64 (k : Int) ∧ AtG wr w1.heap.size fk (.slice a' n' c') ∧ BinSl wr (.slice a' n' c') (ofG fk (onesG (K.take k))) ∧ Below w.heap.size w wr) (fun _ _ i _ => m - (intOf i).toNat)
  case atStart => exact ⟨0, none, 0, 0, Nat.zero_le _, rfl, rfl, rfl, tx, BinSl.nil _, hk⟩
  case round =>
    obtain ⟨k, a', n', c', hkm, rfl, rfl, rfl, at4, z4, hk4⟩ := hrel
    clear tx hk hw2 hz2
    have k0 := at4.c0
    have k1 := at4.c1
    by_cases hlt : k < m
    · have hklt : (k : Int) < (n : Int) := by omega
      have hk100 : (k : Int) < 100 := by omega
      have hkl : k < K.length := by have := HKL.out; omega
      obtain ⟨g, o, rfl, hgw, hgc⟩ := HCL.out k hkl
      have y0 := hgc wr hk4
      have C1 := A1.out k hkl (.slice a' n' c')
      have NL := Lib.hid (CN.out (fun y => decide (y ≤ x)) k hkl)
      have NH := Lib.hid (CN.out (fun y => decide (y ≤ top)) k hkl)
      have hl1 := CB.out (fun y => decide (y ≤ x)) k
      have hl2 := CB.out (fun y => decide (y ≤ top)) k
      obtain ⟨lk, hlk⟩ : ∃ q, (K.take k).countP (fun y => decide (y ≤ x)) = q := ⟨_, rfl⟩
      obtain ⟨hh, hhk⟩ : ∃ q, (K.take k).countP (fun y => decide (y ≤ top)) = q := ⟨_, rfl⟩
      rw [hlk] at hl1 NL ⊢
      rw [hhk] at hl2 NH ⊢
      have ew1 : IntKind.u64.wrap ((lk : Int) + 1) = ((lk + 1 : Nat) : Int) := by rw [wrapU9]; omega
      have ew2 : IntKind.u64.wrap ((hh : Int) + 1) = ((hh + 1 : Nat) : Int) := by rw [wrapU9]; omega
      obtain ⟨y, hy⟩ : ∃ y, K[k] = y := ⟨_, rfl⟩
      rw [hy] at y0 C1 NL NH
      have HGC : Hid (∀ W : World, Below w.heap.size w W → W.cell? ⟨g, o + k, none⟩ = some (nV y)) := by intro W hb; have := hgc W hb; rw [hy] at this; exact this
      try dsimp only at NL NH
      have HC1 := Lib.hid C1
      have HT4 := Lib.hid at4
      have HZ4 := Lib.hid z4
      have HK4 := Lib.hid hk4
      have hxl := HasC.lt at4
      have hgl := World.block_lt_of_cell? _ _ y0
      have K0 := Lib.hid k0
      have K1 := Lib.hid k1
      have Y0 := Lib.hid y0
      clear C1 at4 z4 hk4 hgc hy hlk hhk hl1 hl2 hkl
      have KEEP : Hid (∀ W, Below wr.heap.size wr W → W.cell? ⟨w1.heap.size, 0, none⟩ = some (.int .i64 (fk : Int)) ∧ W.cell? ⟨w1.heap.size, 1, none⟩ = some (.slice a' n' c') ∧ W.cell? ⟨g, o + k, none⟩ = some (nV y)) :=
        fun W hb => ⟨(hb.cell (p := ⟨w1.heap.size, 0, none⟩) hxl).trans K0.out, (hb.cell (p := ⟨w1.heap.size, 1, none⟩) hxl).trans K1.out, (hb.cell (p := ⟨g, o + k, none⟩) hgl).trans Y0.out⟩
      go_wp2_with fail
      go_region_held_law (fun w' => w'.cell? ⟨w1.heap.size, 0, none⟩ = some (.int .i64 (fk : Int)) ∧ w'.cell? ⟨w1.heap.size, 1, none⟩ = some (.slice a' n' c') ∧ w'.cell? ⟨g, o + k, none⟩ = some (nV y))
        (first
          | go_keep
          | exact KEEP.out _ HK8.out
          | exact KEEP.out _ (HK8.out.alloc HK8.out.size _)
          | exact KEEP.out _ ((HK8.out.setCell (p := ⟨wr.heap.size, 0, none⟩) (Nat.le_refl _) _).setCell (p := ⟨wr.heap.size, 1, none⟩) (Nat.le_refl _) _))
        (first
          | (go_at_call 15; refine (HC1.out _ (HZ4.out.below ((Below.refl _ _).drew))).mono ?_; rintro e w8 ⟨⟨v8, rfl, z8⟩, hb8⟩; obtain ⟨a8, n8, c8, rfl⟩ := z8.form; have HK8 : Hid (Below wr.heap.size wr w8) := ((Below.refl wr.heap.size wr).drew).trans hb8; have HZ8 := Lib.hid z8; clear z8 hb8)
          | (go_at_call 15; refine (HC1.out _ (HZ4.out.below (((Below.refl _ _).drew).alloc (Nat.le_refl _) _))).mono ?_; rintro e w8 ⟨⟨v8, rfl, z8⟩, hb8⟩; obtain ⟨a8, n8, c8, rfl⟩ := z8.form; have HL8 : Hid (AtG w8 wr.heap.size 0 (.slice none 0 0)) := AtG.on (HasC.new wr.drew 25 #[.int .i64 0, .slice none 0 0]) hb8; have g2 := HL8.out.c0; have g3 := HL8.out.c1; have g4 := HasC.frozen HL8.out 0; have g5 := HasC.frozen HL8.out 1; have HK8 : Hid (Below wr.heap.size wr w8) := (((Below.refl wr.heap.size wr).drew).alloc (Nat.le_refl _) _).trans (hb8.mono (by simp)); have HZ8 := Lib.hid z8; clear z8 hb8))
      all_goals clear k0 k1 y0
      all_goals first
          | (have F1 : Below wr.heap.size wr (w8.alloc (Obj.cells #[.int .i64 (fk : Int), .slice a8 n8 c8] 25)) := HK8.out.alloc HK8.out.size _
             have F2 : AtG (w8.alloc (Obj.cells #[.int .i64 (fk : Int), .slice a8 n8 c8] 25)) w8.heap.size fk (.slice a8 n8 c8) := HasC.new _ _ _
             have F3 : BinSl (w8.alloc (Obj.cells #[.int .i64 (fk : Int), .slice a8 n8 c8] 25)) (.slice a8 n8 c8) (ofG fk (onesG (K.take (k + 1)))) := HZ8.out.below ((Below.refl _ _).alloc (Nat.le_refl _) _)
             generalize w8.alloc (Obj.cells #[.int .i64 (fk : Int), .slice a8 n8 c8] 25) = WF at F1 F2 F3 ⊢
             have hX9 := AtG.on HT4.out F1
             have x0 := hX9.c0
             have x1 := hX9.c1
             have fz0 := HasC.frozen hX9 0
             have fz1 := HasC.frozen hX9 1
             have F4 := F2.c0
             have F5 := F2.c1
             have hN9 := F3.far hX9 ⟨_, _, _, rfl⟩
             have hk9 := HK4.out.trans (F1.mono HK4.out.size)
             have hb8 := (hk9.setCell (p := ⟨w1.heap.size, 0, none⟩) HSZ.out (.int .i64 (fk : Int))).setCell (p := ⟨w1.heap.size, 1, none⟩) HSZ.out (.slice a8 n8 c8)
             have hs9 := hX9.put (g := (fk : Int)) (u := .slice a8 n8 c8)
             have hz9 := ((hN9.set ⟨w1.heap.size, 0, none⟩ rfl (.int .i64 (fk : Int))).set ⟨w1.heap.size, 1, none⟩ rfl (.slice a8 n8 c8)).sl
             obtain ⟨wg, hwg⟩ : ∃ W', (WF.setCell ⟨w1.heap.size, 0, none⟩ (.int .i64 (fk : Int))).setCell ⟨w1.heap.size, 1, none⟩ (.slice a8 n8 c8) = W' := ⟨_, rfl⟩
             rw [hwg] at hb8 hs9 hz9
             have yv := HGC.out wg hb8
             have hB8 := Lib.hid hb8
             have hS9 := Lib.hid hs9
             have hZ9 := Lib.hid hz9
             clear F1 F2 F3 hX9 hk9 hN9 hb8 hs9 hz9
             by_cases c1 : y ≤ x <;> by_cases c2 : y ≤ top
             all_goals
               have d1 : (y : Int) ≤ (x : Int) ↔ y ≤ x := Int.ofNat_le
               have d2 : (y : Int) ≤ (top : Int) ↔ y ≤ top := Int.ofNat_le
             · have e1 := NL.out
               have e2 := NH.out
               rw [if_pos (decide_eq_true c1)] at e1
               rw [if_pos (decide_eq_true c2)] at e2
               have E1 := Lib.hid e1
               have E2 := Lib.hid e2
               have c3 : (y : Int) ≤ (x : Int) := d1.2 c1
               have c4 : (y : Int) ≤ (top : Int) := d2.2 c2
               clear e1 e2 d1 d2
               go_wp2_with fail
               go_roundw
               case rel => exact ⟨k + 1, a8, n8, c8, by omega, by rw [E1.out]; rfl, by rw [E2.out]; rfl, by go_num, hS9.out, hZ9.out, hB8.out⟩
               case measure => simp [intOf]; try omega
             · have e1 := NL.out
               have e2 := NH.out
               rw [if_pos (decide_eq_true c1)] at e1
               rw [if_neg (by simp; omega), Nat.add_zero] at e2
               have E1 := Lib.hid e1
               have E2 := Lib.hid e2
               have c3 : (y : Int) ≤ (x : Int) := d1.2 c1
               have c4 : ¬ (y : Int) ≤ (top : Int) := fun h => c2 (d2.1 h)
               clear e1 e2 d1 d2
               go_wp2_with fail
               go_roundw
               case rel => exact ⟨k + 1, a8, n8, c8, by omega, by rw [E1.out]; rfl, by rw [E2.out]; rfl, by go_num, hS9.out, hZ9.out, hB8.out⟩
               case measure => simp [intOf]; try omega
             · have e1 := NL.out
               have e2 := NH.out
               rw [if_neg (by simp; omega), Nat.add_zero] at e1
               rw [if_pos (decide_eq_true c2)] at e2
               have E1 := Lib.hid e1
               have E2 := Lib.hid e2
               have c3 : ¬ (y : Int) ≤ (x : Int) := fun h => c1 (d1.1 h)
               have c4 : (y : Int) ≤ (top : Int) := d2.2 c2
               clear e1 e2 d1 d2
               go_wp2_with fail
               go_roundw
               case rel => exact ⟨k + 1, a8, n8, c8, by omega, by rw [E1.out]; rfl, by rw [E2.out]; rfl, by go_num, hS9.out, hZ9.out, hB8.out⟩
               case measure => simp [intOf]; try omega
             · have e1 := NL.out
               have e2 := NH.out
               rw [if_neg (by simp; omega), Nat.add_zero] at e1
               rw [if_neg (by simp; omega), Nat.add_zero] at e2
               have E1 := Lib.hid e1
               have E2 := Lib.hid e2
               have c3 : ¬ (y : Int) ≤ (x : Int) := fun h => c1 (d1.1 h)
               have c4 : ¬ (y : Int) ≤ (top : Int) := fun h => c2 (d2.1 h)
               clear e1 e2 d1 d2
               go_wp2_with fail
               go_roundw
               case rel => exact ⟨k + 1, a8, n8, c8, by omega, by rw [E1.out]; rfl, by rw [E2.out]; rfl, by go_num, hS9.out, hZ9.out, hB8.out⟩
               case measure => simp [intOf]; try omega)
          | (have F1 : Below wr.heap.size wr ((w8.setCell ⟨wr.heap.size, 0, none⟩ (.int .i64 (fk : Int))).setCell ⟨wr.heap.size, 1, none⟩ (.slice a8 n8 c8)) := (HK8.out.setCell (p := ⟨wr.heap.size, 0, none⟩) (Nat.le_refl _) _).setCell (p := ⟨wr.heap.size, 1, none⟩) (Nat.le_refl _) _
             have F2 : AtG ((w8.setCell ⟨wr.heap.size, 0, none⟩ (.int .i64 (fk : Int))).setCell ⟨wr.heap.size, 1, none⟩ (.slice a8 n8 c8)) wr.heap.size fk (.slice a8 n8 c8) := HL8.out.put
             have F3 : BinSl ((w8.setCell ⟨wr.heap.size, 0, none⟩ (.int .i64 (fk : Int))).setCell ⟨wr.heap.size, 1, none⟩ (.slice a8 n8 c8)) (.slice a8 n8 c8) (ofG fk (onesG (K.take (k + 1)))) := (((HZ8.out.far HL8.out ⟨_, _, _, rfl⟩).set ⟨wr.heap.size, 0, none⟩ rfl _).set ⟨wr.heap.size, 1, none⟩ rfl _).sl
             generalize (w8.setCell ⟨wr.heap.size, 0, none⟩ (.int .i64 (fk : Int))).setCell ⟨wr.heap.size, 1, none⟩ (.slice a8 n8 c8) = WF at F1 F2 F3 ⊢
             have hX9 := AtG.on HT4.out F1
             have x0 := hX9.c0
             have x1 := hX9.c1
             have fz0 := HasC.frozen hX9 0
             have fz1 := HasC.frozen hX9 1
             have F4 := F2.c0
             have F5 := F2.c1
             have hN9 := F3.far hX9 ⟨_, _, _, rfl⟩
             have hk9 := HK4.out.trans (F1.mono HK4.out.size)
             have hb8 := (hk9.setCell (p := ⟨w1.heap.size, 0, none⟩) HSZ.out (.int .i64 (fk : Int))).setCell (p := ⟨w1.heap.size, 1, none⟩) HSZ.out (.slice a8 n8 c8)
             have hs9 := hX9.put (g := (fk : Int)) (u := .slice a8 n8 c8)
             have hz9 := ((hN9.set ⟨w1.heap.size, 0, none⟩ rfl (.int .i64 (fk : Int))).set ⟨w1.heap.size, 1, none⟩ rfl (.slice a8 n8 c8)).sl
             obtain ⟨wg, hwg⟩ : ∃ W', (WF.setCell ⟨w1.heap.size, 0, none⟩ (.int .i64 (fk : Int))).setCell ⟨w1.heap.size, 1, none⟩ (.slice a8 n8 c8) = W' := ⟨_, rfl⟩
             rw [hwg] at hb8 hs9 hz9
             have yv := HGC.out wg hb8
             have hB8 := Lib.hid hb8
             have hS9 := Lib.hid hs9
             have hZ9 := Lib.hid hz9
             clear F1 F2 F3 hX9 hk9 hN9 hb8 hs9 hz9
             by_cases c1 : y ≤ x <;> by_cases c2 : y ≤ top
             all_goals
               have d1 : (y : Int) ≤ (x : Int) ↔ y ≤ x := Int.ofNat_le
               have d2 : (y : Int) ≤ (top : Int) ↔ y ≤ top := Int.ofNat_le
             · have e1 := NL.out
               have e2 := NH.out
               rw [if_pos (decide_eq_true c1)] at e1
               rw [if_pos (decide_eq_true c2)] at e2
               have E1 := Lib.hid e1
               have E2 := Lib.hid e2
               have c3 : (y : Int) ≤ (x : Int) := d1.2 c1
               have c4 : (y : Int) ≤ (top : Int) := d2.2 c2
               clear e1 e2 d1 d2
               go_wp2_with fail
               go_roundw
               case rel => exact ⟨k + 1, a8, n8, c8, by omega, by rw [E1.out]; rfl, by rw [E2.out]; rfl, by go_num, hS9.out, hZ9.out, hB8.out⟩
               case measure => simp [intOf]; try omega
             · have e1 := NL.out
               have e2 := NH.out
               rw [if_pos (decide_eq_true c1)] at e1
               rw [if_neg (by simp; omega), Nat.add_zero] at e2
               have E1 := Lib.hid e1
               have E2 := Lib.hid e2
               have c3 : (y : Int) ≤ (x : Int) := d1.2 c1
               have c4 : ¬ (y : Int) ≤ (top : Int) := fun h => c2 (d2.1 h)
               clear e1 e2 d1 d2
               go_wp2_with fail
               go_roundw
               case rel => exact ⟨k + 1, a8, n8, c8, by omega, by rw [E1.out]; rfl, by rw [E2.out]; rfl, by go_num, hS9.out, hZ9.out, hB8.out⟩
               case measure => simp [intOf]; try omega
             · have e1 := NL.out
               have e2 := NH.out
               rw [if_neg (by simp; omega), Nat.add_zero] at e1
               rw [if_pos (decide_eq_true c2)] at e2
               have E1 := Lib.hid e1
               have E2 := Lib.hid e2
               have c3 : ¬ (y : Int) ≤ (x : Int) := fun h => c1 (d1.1 h)
               have c4 : (y : Int) ≤ (top : Int) := d2.2 c2
               clear e1 e2 d1 d2
               go_wp2_with fail
               go_roundw
               case rel => exact ⟨k + 1, a8, n8, c8, by omega, by rw [E1.out]; rfl, by rw [E2.out]; rfl, by go_num, hS9.out, hZ9.out, hB8.out⟩
               case measure => simp [intOf]; try omega
             · have e1 := NL.out
               have e2 := NH.out
               rw [if_neg (by simp; omega), Nat.add_zero] at e1
               rw [if_neg (by simp; omega), Nat.add_zero] at e2
               have E1 := Lib.hid e1
               have E2 := Lib.hid e2
               have c3 : ¬ (y : Int) ≤ (x : Int) := fun h => c1 (d1.1 h)
               have c4 : ¬ (y : Int) ≤ (top : Int) := fun h => c2 (d2.1 h)
               clear e1 e2 d1 d2
               go_wp2_with fail
               go_roundw
               case rel => exact ⟨k + 1, a8, n8, c8, by omega, by rw [E1.out]; rfl, by rw [E2.out]; rfl, by go_num, hS9.out, hZ9.out, hB8.out⟩
               case measure => simp [intOf]; try omega)
    · obtain rfl : k = m := by omega
      have htl : K.take k = K := List.take_of_length_le (by rw [HKL.out]; exact Nat.le_refl _)
      rw [htl] at z4 ⊢
      have g0 := HLE.out
      obtain ⟨lk, hlk⟩ : ∃ q, K.countP (fun y => decide (y ≤ x)) = q := ⟨_, rfl⟩
      obtain ⟨hh, hhk⟩ : ∃ q, K.countP (fun y => decide (y ≤ top)) = q := ⟨_, rfl⟩
      rw [hlk] at g0 ⊢
      rw [hhk] at g0 R1 ⊢
      have g1 : ¬ (hh : Int) < (lk : Int) := by omega
      have g2 : ¬ hh < lk := by omega
      clear hlk hhk htl A1 CB CN KV BN HCL
      have hpm : ∃ pn : Nat, (if 0 < pl then pl else 0) = (pn : Int) := ⟨(if 0 < pl then pl else 0).toNat, by split <;> omega⟩
      obtain ⟨pn, hp1⟩ := hpm
      have hp2 : max 0 pl = (pn : Int) := by rw [← hp1]; split <;> omega
      have hpn : pn ≤ topN := by have h1 := hpl.2; have h2 : topN = 18446744073709551615 := rfl; split at hp1 <;> omega
      have hwp := wrapU_small pn hpn
      have hp3 : (if 0 < pn then (pn : Int) else 0) = (pn : Int) := by split <;> omega
      have hm1 : (if 100 < (n : Int) then 100 else (n : Int)) = (k : Int) := q1
      rcases (by omega : n ≤ k ∨ (k < n ∧ k = 100)) with hex | ⟨hex, hex2⟩
      · have x1 : ¬ (k : Int) < (n : Int) := by omega
        by_cases hneg : pl < 0
        · have p0 : pn = 0 := by split at hp1 <;> omega
          by_cases hm0 : k = 0
          · have Z0 := Lib.hid (Z1.out 0 (Nat.zero_le _))
            simp only [gV, show ((0 : Nat) : Int) = 0 from rfl] at Z0
            go_wp2_with fail
            with_reducible refine (R1.out _ _ z4).mono ?_
            rintro e u1 ⟨rfl, hb⟩
            replace hk4 := hk4.trans (hb.mono hk4.size)
            replace at4 := at4.on hb
            replace z4 := z4.below hb
            clear hb k0 k1
            have k0 := at4.c0
            have k1 := at4.c1
            go_wp2_with fail
            with_reducible refine (T1.out _ _ z4).mono ?_
            rintro e u2 ⟨rfl, hb⟩
            replace hk4 := hk4.trans (hb.mono hk4.size)
            replace at4 := at4.on hb
            replace z4 := z4.below hb
            clear hb k0 k1
            have k0 := at4.c0
            have k1 := at4.c1
            go_wp2_with fail
            with_reducible refine (Z0.out _ _ z4).mono ?_
            rintro e u3 ⟨⟨⟨qa, qb, qo⟩, rfl, hq2, hq3, hqa, hqb⟩, hb⟩
            replace hk4 := hk4.trans (hb.mono hk4.size)
            replace at4 := at4.on hb
            replace z4 := z4.below hb
            clear hb k0 k1
            have k0 := at4.c0
            have k1 := at4.c1
            dsimp only at hq2 hqa hqb
            rcases SO.out 0 with ⟨s1, s2⟩ | ⟨s1, _⟩
            case inr => exfalso; have := HKL.out; omega
            rw [s2] at hq2
            subst hq2
            clear hq3 hqa hqb s1 s2 at4 z4
            have hz : ¬ (0 : Int) < (n : Int) := by omega
            have hz' : ¬ 0 < n := by omega
            go_wp2_with fail
            go_ret
            exact ⟨by simp, hk4⟩
          · have Z0 := Lib.hid (Z1.out 0 (Nat.zero_le _))
            simp only [gV, show ((0 : Nat) : Int) = 0 from rfl] at Z0
            go_wp2_with fail
            with_reducible refine (R1.out _ _ z4).mono ?_
            rintro e u1 ⟨rfl, hb⟩
            replace hk4 := hk4.trans (hb.mono hk4.size)
            replace at4 := at4.on hb
            replace z4 := z4.below hb
            clear hb k0 k1
            have k0 := at4.c0
            have k1 := at4.c1
            go_wp2_with fail
            with_reducible refine (T1.out _ _ z4).mono ?_
            rintro e u2 ⟨rfl, hb⟩
            replace hk4 := hk4.trans (hb.mono hk4.size)
            replace at4 := at4.on hb
            replace z4 := z4.below hb
            clear hb k0 k1
            have k0 := at4.c0
            have k1 := at4.c1
            go_wp2_with fail
            with_reducible refine (Z0.out _ _ z4).mono ?_
            rintro e u3 ⟨⟨⟨qa, qb, qo⟩, rfl, hq2, hq3, hqa, hqb⟩, hb⟩
            replace hk4 := hk4.trans (hb.mono hk4.size)
            replace at4 := at4.on hb
            replace z4 := z4.below hb
            clear hb k0 k1
            have k0 := at4.c0
            have k1 := at4.c1
            dsimp only at hq2 hqa hqb
            rcases SO.out 0 with ⟨s1, s2⟩ | ⟨s1, sa, sb, s2, _⟩
            case inl => exfalso; have := HKL.out; omega
            rw [s2] at hq2
            subst hq2
            clear hq3 hqa hqb s1 s2 at4 z4
            have hz : (0 : Int) < (n : Int) := by omega
            have hz' : 0 < n := by omega
            go_wp2_with fail
            go_ret
            exact ⟨by simp, hk4⟩
        · obtain rfl : pl = (pn : Int) := by split at hp1 <;> omega
          by_cases hin : pn < k
          · have v1 : (pn : Int) < (k : Int) := by omega
            have v2 : ¬ (k : Int) ≤ (pn : Int) := by omega
            go_wp2_with fail
            with_reducible refine (R1.out _ _ z4).mono ?_
            rintro e u1 ⟨rfl, hb⟩
            replace hk4 := hk4.trans (hb.mono hk4.size)
            replace at4 := at4.on hb
            replace z4 := z4.below hb
            clear hb k0 k1
            have k0 := at4.c0
            have k1 := at4.c1
            go_wp2_with fail
            with_reducible refine (T1.out _ _ z4).mono ?_
            rintro e u2 ⟨rfl, hb⟩
            replace hk4 := hk4.trans (hb.mono hk4.size)
            replace at4 := at4.on hb
            replace z4 := z4.below hb
            clear hb k0 k1
            have k0 := at4.c0
            have k1 := at4.c1
            go_wp2_with fail
            with_reducible refine (Z1.out pn hpn _ _ z4).mono ?_
            rintro e u3 ⟨⟨⟨qa, qb, qo⟩, rfl, hq2, hq3, hqa, hqb⟩, hb⟩
            replace hk4 := hk4.trans (hb.mono hk4.size)
            replace at4 := at4.on hb
            replace z4 := z4.below hb
            clear hb k0 k1
            have k0 := at4.c0
            have k1 := at4.c1
            dsimp only at hq2 hqa hqb
            rcases SO.out pn with ⟨s1, s2⟩ | ⟨s1, sa, sb, s2, s3, s4, s5, s6⟩
            case inl => exfalso; have := HKL.out; omega
            have hQ := hq3 (by rw [s2])
            rw [s2] at hQ
            cases hQ
            clear hq2 hq3
            have RB := Lib.hid (fun u W hs => RG.out qb s4 u W hs)
            obtain ⟨rb, hrb⟩ : ∃ r, rkG fk K qb = r := ⟨_, rfl⟩
            rw [hrb] at s5
            unfold rkG at hrb
            rw [hrb] at RB
            have s7 : (pn : Int) < (rb : Int) := by omega
            by_cases hz0 : qa = 0
            · replace s6 := hz0
              have e0 : ((qa : Int) == 0) = true := by rw [s6]; rfl
              clear s1 s2 s3 s4 s6 hqa hqb hrb
              go_wp2_with fail
              with_reducible refine (RB.out _ _ z4).mono ?_
              rintro e u5 ⟨rfl, hb⟩
              replace hk4 := hk4.trans (hb.mono hk4.size)
              replace at4 := at4.on hb
              replace z4 := z4.below hb
              clear hb k0 k1
              have k0 := at4.c0
              have k1 := at4.c1
              clear at4 z4
              go_wp2_with fail
              go_ret
              exact ⟨by simp, hk4⟩
            · replace s6 := s6.resolve_left hz0
              have e0 : ((qa : Int) == 0) = false := by simp; omega
              obtain ⟨l1, hl1⟩ : ∃ l1, qa = l1 + 1 := ⟨qa - 1, by omega⟩
              have ew : IntKind.u64.wrap ((qa : Int) - 1) = (l1 : Int) := by rw [wrapU9]; have h64 : topN = 18446744073709551615 := rfl; omega
              have RA := Lib.hid (fun u W hs => RG.out l1 (by omega) u W hs)
              rw [show qa - 1 = l1 by omega] at s6
              obtain ⟨ra, hra⟩ : ∃ r, rkG fk K l1 = r := ⟨_, rfl⟩
              rw [hra] at s6
              unfold rkG at hra
              rw [hra] at RA
              have s8 : (ra : Int) ≤ (pn : Int) := by omega
              clear s1 s2 s3 s4 hqa hqb hrb hra hl1 hz0
              go_wp2_with fail
              with_reducible refine (RB.out _ _ z4).mono ?_
              rintro e u5 ⟨rfl, hb⟩
              replace hk4 := hk4.trans (hb.mono hk4.size)
              replace at4 := at4.on hb
              replace z4 := z4.below hb
              clear hb k0 k1
              have k0 := at4.c0
              have k1 := at4.c1
              go_wp2_with fail
              with_reducible refine (RA.out _ _ z4).mono ?_
              rintro e u6 ⟨rfl, hb⟩
              replace hk4 := hk4.trans (hb.mono hk4.size)
              replace at4 := at4.on hb
              replace z4 := z4.below hb
              clear hb k0 k1
              have k0 := at4.c0
              have k1 := at4.c1
              clear at4 z4
              go_wp2_with fail
              go_ret
              exact ⟨by simp, hk4⟩
          · have v1 : ¬ (pn : Int) < (k : Int) := by omega
            have v2 : (k : Int) ≤ (pn : Int) := by omega
            go_wp2_with fail
            with_reducible refine (R1.out _ _ z4).mono ?_
            rintro e u1 ⟨rfl, hb⟩
            replace hk4 := hk4.trans (hb.mono hk4.size)
            replace at4 := at4.on hb
            replace z4 := z4.below hb
            clear hb k0 k1
            have k0 := at4.c0
            have k1 := at4.c1
            go_wp2_with fail
            with_reducible refine (T1.out _ _ z4).mono ?_
            rintro e u2 ⟨rfl, hb⟩
            replace hk4 := hk4.trans (hb.mono hk4.size)
            replace at4 := at4.on hb
            replace z4 := z4.below hb
            clear hb k0 k1
            have k0 := at4.c0
            have k1 := at4.c1
            go_wp2_with fail
            with_reducible refine (Z1.out pn hpn _ _ z4).mono ?_
            rintro e u3 ⟨⟨⟨qa, qb, qo⟩, rfl, hq2, hq3, hqa, hqb⟩, hb⟩
            replace hk4 := hk4.trans (hb.mono hk4.size)
            replace at4 := at4.on hb
            replace z4 := z4.below hb
            clear hb k0 k1
            have k0 := at4.c0
            have k1 := at4.c1
            dsimp only at hq2 hqa hqb
            rcases SO.out pn with ⟨s1, s2⟩ | ⟨s1, _⟩
            case inr => exfalso; have := HKL.out; omega
            rw [s2] at hq2
            subst hq2
            clear hq3 hqa hqb s1 s2 at4 z4
            go_wp2_with fail
            go_ret
            exact ⟨by simp, hk4⟩
      · have x1 : (k : Int) < (n : Int) := by omega
        have x2 : ¬ (k : Int) < 100 := by omega
        by_cases hneg : pl < 0
        · have p0 : pn = 0 := by split at hp1 <;> omega
          by_cases hm0 : k = 0
          · exact absurd hm0 (by omega)
          · have Z0 := Lib.hid (Z1.out 0 (Nat.zero_le _))
            simp only [gV, show ((0 : Nat) : Int) = 0 from rfl] at Z0
            go_wp2_with fail
            with_reducible refine (R1.out _ _ z4).mono ?_
            rintro e u1 ⟨rfl, hb⟩
            replace hk4 := hk4.trans (hb.mono hk4.size)
            replace at4 := at4.on hb
            replace z4 := z4.below hb
            clear hb k0 k1
            have k0 := at4.c0
            have k1 := at4.c1
            go_wp2_with fail
            with_reducible refine (T1.out _ _ z4).mono ?_
            rintro e u2 ⟨rfl, hb⟩
            replace hk4 := hk4.trans (hb.mono hk4.size)
            replace at4 := at4.on hb
            replace z4 := z4.below hb
            clear hb k0 k1
            have k0 := at4.c0
            have k1 := at4.c1
            go_wp2_with fail
            with_reducible refine (Z0.out _ _ z4).mono ?_
            rintro e u3 ⟨⟨⟨qa, qb, qo⟩, rfl, hq2, hq3, hqa, hqb⟩, hb⟩
            replace hk4 := hk4.trans (hb.mono hk4.size)
            replace at4 := at4.on hb
            replace z4 := z4.below hb
            clear hb k0 k1
            have k0 := at4.c0
            have k1 := at4.c1
            dsimp only at hq2 hqa hqb
            rcases SO.out 0 with ⟨s1, s2⟩ | ⟨s1, sa, sb, s2, _⟩
            case inl => exfalso; have := HKL.out; omega
            rw [s2] at hq2
            subst hq2
            clear hq3 hqa hqb s1 s2 at4 z4
            have hz : (0 : Int) < (n : Int) := by omega
            have hz' : 0 < n := by omega
            go_wp2_with fail
            go_ret
            exact ⟨by simp, hk4⟩
        · obtain rfl : pl = (pn : Int) := by split at hp1 <;> omega
          by_cases hin : pn < k
          · have v1 : (pn : Int) < (k : Int) := by omega
            have v2 : ¬ (k : Int) ≤ (pn : Int) := by omega
            go_wp2_with fail
            with_reducible refine (R1.out _ _ z4).mono ?_
            rintro e u1 ⟨rfl, hb⟩
            replace hk4 := hk4.trans (hb.mono hk4.size)
            replace at4 := at4.on hb
            replace z4 := z4.below hb
            clear hb k0 k1
            have k0 := at4.c0
            have k1 := at4.c1
            go_wp2_with fail
            with_reducible refine (T1.out _ _ z4).mono ?_
            rintro e u2 ⟨rfl, hb⟩
            replace hk4 := hk4.trans (hb.mono hk4.size)
            replace at4 := at4.on hb
            replace z4 := z4.below hb
            clear hb k0 k1
            have k0 := at4.c0
            have k1 := at4.c1
            go_wp2_with fail
            with_reducible refine (Z1.out pn hpn _ _ z4).mono ?_
            rintro e u3 ⟨⟨⟨qa, qb, qo⟩, rfl, hq2, hq3, hqa, hqb⟩, hb⟩
            replace hk4 := hk4.trans (hb.mono hk4.size)
            replace at4 := at4.on hb
            replace z4 := z4.below hb
            clear hb k0 k1
            have k0 := at4.c0
            have k1 := at4.c1
            dsimp only at hq2 hqa hqb
            rcases SO.out pn with ⟨s1, s2⟩ | ⟨s1, sa, sb, s2, s3, s4, s5, s6⟩
            case inl => exfalso; have := HKL.out; omega
            have hQ := hq3 (by rw [s2])
            rw [s2] at hQ
            cases hQ
            clear hq2 hq3
            have RB := Lib.hid (fun u W hs => RG.out qb s4 u W hs)
            obtain ⟨rb, hrb⟩ : ∃ r, rkG fk K qb = r := ⟨_, rfl⟩
            rw [hrb] at s5
            unfold rkG at hrb
            rw [hrb] at RB
            have s7 : (pn : Int) < (rb : Int) := by omega
            by_cases hz0 : qa = 0
            · replace s6 := hz0
              have e0 : ((qa : Int) == 0) = true := by rw [s6]; rfl
              clear s1 s2 s3 s4 s6 hqa hqb hrb
              go_wp2_with fail
              with_reducible refine (RB.out _ _ z4).mono ?_
              rintro e u5 ⟨rfl, hb⟩
              replace hk4 := hk4.trans (hb.mono hk4.size)
              replace at4 := at4.on hb
              replace z4 := z4.below hb
              clear hb k0 k1
              have k0 := at4.c0
              have k1 := at4.c1
              clear at4 z4
              go_wp2_with fail
              go_ret
              exact ⟨by simp, hk4⟩
            · replace s6 := s6.resolve_left hz0
              have e0 : ((qa : Int) == 0) = false := by simp; omega
              obtain ⟨l1, hl1⟩ : ∃ l1, qa = l1 + 1 := ⟨qa - 1, by omega⟩
              have ew : IntKind.u64.wrap ((qa : Int) - 1) = (l1 : Int) := by rw [wrapU9]; have h64 : topN = 18446744073709551615 := rfl; omega
              have RA := Lib.hid (fun u W hs => RG.out l1 (by omega) u W hs)
              rw [show qa - 1 = l1 by omega] at s6
              obtain ⟨ra, hra⟩ : ∃ r, rkG fk K l1 = r := ⟨_, rfl⟩
              rw [hra] at s6
              unfold rkG at hra
              rw [hra] at RA
              have s8 : (ra : Int) ≤ (pn : Int) := by omega
              clear s1 s2 s3 s4 hqa hqb hrb hra hl1 hz0
              go_wp2_with fail
              with_reducible refine (RB.out _ _ z4).mono ?_
              rintro e u5 ⟨rfl, hb⟩
              replace hk4 := hk4.trans (hb.mono hk4.size)
              replace at4 := at4.on hb
              replace z4 := z4.below hb
              clear hb k0 k1
              have k0 := at4.c0
              have k1 := at4.c1
              go_wp2_with fail
              with_reducible refine (RA.out _ _ z4).mono ?_
              rintro e u6 ⟨rfl, hb⟩
              replace hk4 := hk4.trans (hb.mono hk4.size)
              replace at4 := at4.on hb
              replace z4 := z4.below hb
              clear hb k0 k1
              have k0 := at4.c0
              have k1 := at4.c1
              clear at4 z4
              go_wp2_with fail
              go_ret
              exact ⟨by simp, hk4⟩
          · have v1 : ¬ (pn : Int) < (k : Int) := by omega
            have v2 : (k : Int) ≤ (pn : Int) := by omega
            go_wp2_with fail
            with_reducible refine (R1.out _ _ z4).mono ?_
            rintro e u1 ⟨rfl, hb⟩
            replace hk4 := hk4.trans (hb.mono hk4.size)
            replace at4 := at4.on hb
            replace z4 := z4.below hb
            clear hb k0 k1
            have k0 := at4.c0
            have k1 := at4.c1
            go_wp2_with fail
            with_reducible refine (T1.out _ _ z4).mono ?_
            rintro e u2 ⟨rfl, hb⟩
            replace hk4 := hk4.trans (hb.mono hk4.size)
            replace at4 := at4.on hb
            replace z4 := z4.below hb
            clear hb k0 k1
            have k0 := at4.c0
            have k1 := at4.c1
            go_wp2_with fail
            with_reducible refine (Z1.out pn hpn _ _ z4).mono ?_
            rintro e u3 ⟨⟨⟨qa, qb, qo⟩, rfl, hq2, hq3, hqa, hqb⟩, hb⟩
            replace hk4 := hk4.trans (hb.mono hk4.size)
            replace at4 := at4.on hb
            replace z4 := z4.below hb
            clear hb k0 k1
            have k0 := at4.c0
            have k1 := at4.c1
            dsimp only at hq2 hqa hqb
            rcases SO.out pn with ⟨s1, s2⟩ | ⟨s1, _⟩
            case inr => exfalso; have := HKL.out; omega
            rw [s2] at hq2
            subst hq2
            clear hq3 hqa hqb s1 s2 at4 z4
            go_wp2_with fail
            go_ret
            exact ⟨by simp, hk4⟩
end Go.Proofs.Ytpdedogdffolnaa
