/- The page's own answers for layer 9: put. -/
import Derived.Test.YtpdedogdffolnaaGBase
import Derived.Test.YtpdedogdffolnaaHeldIn
namespace Go.Proofs.Ytpdedogdffolnaa
open Go.RowKit

theorem put_dropG {L : List Bn} {k : Nat} (hk : k < L.length) (a : Int) (n : Nat) : putG (L.drop k) a n = if L[k].1 < a then L[k] :: putG (L.drop (k + 1)) a n else if L[k].1 = a then (a, plusS L[k].2 n) :: L.drop (k + 1) else (a, n) :: L.drop k := by
  rw [List.drop_eq_getElem_cons hk]
  rfl
theorem srcB_one (w : World) (a : Int) (z : Nat) (T : TypeId) : SrcB (w.alloc (Obj.cells #[.int .i64 a, gV z] T)) (.slice (some ⟨w.heap.size, 0, none⟩) 1 1) 1 (cellsB [(a, z)]) := by
  refine .inr ⟨_, _, rfl, rfl, fun j u hj => ?_, cellsB_one _⟩
  rw [add_blockG, Nat.zero_add]
  have h := HasC.new w T #[.int .i64 a, gV z]
  have hj2 : j < 2 := by have := (List.getElem?_eq_some_iff.1 hj).1; rwa [cellsB_len] at this
  have : j = 0 ∨ j = 1 := by omega
  rcases this with rfl | rfl
  · exact (h.cell 0).trans hj
  · exact (h.cell 1).trans hj
theorem put_ownsB {w : World} {B : Nat} {v : Value} {L : List Bn} {x : Bn} {k l j : Nat} (hk : k ≤ l) (hl : l = L.length)
    (h : w.ownsRow B 68 2 v (0 + k + 1 + (l - j)) ([] ++ cellsB (L.take k) ++ cellsB [x] ++ cellsB (L.drop j))) : BinSl w v (L.take k ++ x :: L.drop j) := by
  have e1 : (L.take k ++ x :: L.drop j).length = 0 + k + 1 + (l - j) := by
    rw [List.length_append, List.length_cons, List.length_take, List.length_drop]; omega
  have e2 : cellsB (L.take k ++ x :: L.drop j) = [] ++ cellsB (L.take k) ++ cellsB [x] ++ cellsB (L.drop j) := by
    rw [cellsB_app, show x :: L.drop j = [x] ++ L.drop j from rfl, cellsB_app]; simp
  exact binSl_of_owns (by rw [e1, e2]; exact h)
set_option maxHeartbeats 4000000 in
set_option maxRecDepth 100000 in
theorem pPut_in (m : Nat) (hm3 : 3 ≤ m) (L : List Bn) (a : Int) (n : Nat) (v : Value) (w : World) (hv : BinSl w v L) (hn : L.length ≤ 1000) (hnt : n ≤ topN) :
    CallsIn Fence.wide m Try.prog 39 #[v, .int .i64 a, gV n] w fun e w' => (∃ v', e = .returned v' ∧ BinSl w' v' (putBn L a n)) ∧ Below w.heap.size w w' := by
  have HV := Lib.hid hv
  have HT := Lib.hid (fun k hk => bin_take hv k hk)
  have HD := Lib.hid (fun k hk => bin_drop hv k hk)
  obtain ⟨ao, c, rfl, hc⟩ := hv.shape
  obtain ⟨l, hl⟩ : ∃ l, l = L.length := ⟨_, rfl⟩
  have HC := Lib.hid hc
  have HL := Lib.hid hl
  have h0 : Hid (putG L a n = L.take 0 ++ putG (L.drop 0) a n) := by show _ = _; rw [List.take_zero, List.drop_zero, List.nil_append]
  rw [← hl] at hn HV HT HD ⊢
  clear hc hl hv
  refine callsIn_of_wp Try.func39 rfl trivial ?_ rfl
  simp only [Try.ntmps39, List.size_toArray, List.length_cons, List.length_nil, Nat.reduceAdd, Nat.reduceSub, Array.replicate_succ, Array.replicate_zero, List.push_toArray, List.append_toArray, List.nil_append, List.cons_append]
  gi_wp2_with fail
  gi_loopw [7] (fun i wr => ∃ k : Nat, k ≤ l ∧ i = .int .i64 (k : Int) ∧ Hid (putG L a n = L.take k ++ putG (L.drop k) a n) ∧ wr = w) (fun i _ => l - (intOf i).toNat)
  case atStart => exact ⟨0, Nat.zero_le _, rfl, h0, rfl⟩
  case round =>
    obtain ⟨k, hk, rfl, hs, rfl⟩ := hrel
    clear h0
    by_cases hlt : k < l
    · have hltI : (k : Int) < (l : Int) := by omega
      have hkl : k < L.length := by have := HL.out; omega
      obtain ⟨g, o, rfl, hc0⟩ := HC.out k hkl
      obtain ⟨c0, c1⟩ := hc0 wr (Below.refl _ _)
      have hst := put_dropG hkl a n
      have htk : L.take (k + 1) = L.take k ++ [L[k]] := List.take_succ_eq_append_getElem hkl
      obtain ⟨y, hy⟩ : ∃ y, L[k] = y := ⟨_, rfl⟩
      rw [hy] at c0 c1 hst htk hc0
      have HS := Lib.hid hst
      have HTK := Lib.hid htk
      have HC0 := Lib.hid hc0
      obtain ⟨ya, yn⟩ := y
      dsimp only at c0 c1
      clear hst hy hc0 htk
      by_cases hxy : ya < a
      · have hs2 : Hid (putG L a n = L.take (k + 1) ++ putG (L.drop (k + 1)) a n) := by
          show _ = _
          rw [hs.out, HS.out, if_pos hxy, HTK.out]
          simp
        gi_wp2_with fail
        go_roundw
        case rel => exact ⟨k + 1, by omega, by go_num, hs2, by first | trivial | rfl⟩
        case measure => simp [intOf]; omega
      · by_cases hn0 : n = 0
        · have hq : ((n : Int) == 0) = true := by rw [hn0]; rfl
          have hp : putBn L a n = L := by unfold putBn; rw [if_pos hn0]
          have HP := Lib.hid hp
          clear hp hn0
          gi_wp2_with fail
          go_ret
          exact ⟨⟨_, rfl, by rw [HP.out]; exact HV.out⟩, Below.refl _ _⟩
        · have hq : ((n : Int) == 0) = false := by simp [hn0]
          have hpn : putBn L a n = putG L a n := by unfold putBn; rw [if_neg hn0]
          obtain ⟨src1, hr1, hv1⟩ := HT.out k hk
          have hs1 : SrcB wr src1 k (cellsB (L.take k)) := by
            have h := SrcB.of_bin hv1
            rwa [List.length_take, Nat.min_eq_left (by have := HL.out; omega)] at h
          have V1 := Lib.hid hs1
          have HPN := Lib.hid hpn
          clear hv1 hs1 hpn
          by_cases hxe : ya = a
          · subst hxe
            have hg2 : Hid (putG L ya n = L.take k ++ ((ya, plusS yn n) :: L.drop (k + 1))) := by
              show _ = _
              rw [hs.out, HS.out, if_neg hxy, if_pos rfl]
            have hbe : (ya == ya) = true := by simp
            obtain ⟨src2, hr2, hv2⟩ := HD.out (k + 1) (by omega)
            have hr2' : ∀ W : World, (Instr.slice 23 (.slice (some ⟨g, o, none⟩) l c) (some (.int .i64 ((k : Int) + 1))) none none).run Try.prog W = .ok src2 W := fun W => hr2 W
            have V2 := Lib.hid hv2
            have hnd : l - (k + 1) = (L.drop (k + 1)).length := by rw [List.length_drop, ← HL.out]
            have HND := Lib.hid hnd
            clear hv2 hnd hr2
            gi_wp2_with (refine wpListIn_appB _ rfl (.tmp 27) (.tmp 30) rfl wr.heap.size (.slice none 0 0) 0 [] rfl (World.ownsRow_nil _ _ _ _) src1 k (cellsB (L.take k)) rfl V1.out (by omega) (Nat.le_refl _) ?_; intro v1 w1 hown1 hgrow1; have HB1 : Below wr.heap.size wr w1 := (Below.refl _ _).grown hgrow1 (Nat.le_refl _) (fun k hk => by simp [Value.ownBlock] at hk); have HO1 := Lib.hid hown1; clear hown1 hgrow1; obtain ⟨c0', c1'⟩ := HC0.out w1 HB1)
            have hbs := HB1.size
            have HBB := Lib.hid HB1
            obtain ⟨D, hDk, hDd⟩ : ∃ D : World → Prop, (∀ W, D W → Below wr.heap.size wr W) ∧ (∀ W, Below wr.heap.size wr W → D W) := ⟨_, fun _ h => h, fun _ h => h⟩
            have HDD := Lib.hid hDd
            have T1 := Lib.hid (fun W => pPlus9_any yn n W hnt)
            have E1 : ∀ i : InC D, i.w.cell? ⟨g, o + k * 2 + 1, none⟩ = some (gV yn) := fun i => (HC0.out _ (hDk _ i.h)).2
            obtain ⟨z, hz⟩ : ∃ z, z = plusS yn n := ⟨_, rfl⟩
            rw [← hz] at T1 hg2
            clear hDk hDd HB1 c0 c1 c0' c1' hz
            refine region_heldIn 16 [0, 1, 2, 3, 4, 5, 6, 7, 12, 13, 14, 15] [8, 9, 10, 11] D (by kernel_rfl) (FOk.wide _) (by kernel_rfl) (by intro c a d v w h; cases d <;> exact h) (HDD.out _ HBB.out.drew) ?_
            intro hne
            simp only [pickL, nthL]
            repeat (go_big_quiet_step (fail))
            refine wpQuiet_nil ?_
            intro Q0 hQ0
            clear E1
            gi_wp2_with fail
            refine ⟨trivial, fun _ => by omega, ?_⟩
            refine (callsIn_wide.2 (T1.out _)).mono ?_
            rintro e W3 ⟨rfl, rfl⟩
            gi_wp2_with fail
            refine hQ0.out _ _ ⟨⟨w1.drew, HDD.out _ HBB.out.drew⟩, rfl⟩ ?_
            intro Q5 hQ5
            clear hQ0
            gi_wp2_with fail
            refine hQ5.out _ _ ⟨⟨w1.drew, HDD.out _ HBB.out.drew⟩, rfl⟩ ?_
            intro Q1 hQ1
            clear hQ5
            gi_wp2_with fail
            have hk2 : Below w1.heap.size w1 (w1.alloc (.cells #[.int .i64 ya, gV z] 68)) := (Below.refl _ w1).alloc (Nat.le_refl _) _
            have hbw2 : Below wr.heap.size wr ((w1.alloc (.cells #[.int .i64 ya, gV z] 68)).drew) := (HBB.out.trans (hk2.mono HBB.out.size)).drew
            have hown2 : ((w1.alloc (.cells #[.int .i64 ya, gV z] 68)).drew).ownsRow wr.heap.size 68 2 v1 (0 + k) ([] ++ cellsB (L.take k)) := owns_sameB HO1.out fun j' _ h2 => hk2.block j' h2
            have hsrc2 : SrcB ((w1.alloc (.cells #[.int .i64 ya, gV z] 68)).drew) (.slice (some ⟨w1.heap.size, 0, none⟩) 1 1) 1 (cellsB [(ya, z)]) := srcB_one w1 ya z _
            have HBW2 := Lib.hid hbw2
            have HOW2 := Lib.hid hown2
            have HSR2 := Lib.hid hsrc2
            refine hQ1.out _ _ ⟨⟨_, HDD.out _ hbw2⟩, rfl⟩ ?_
            intro Q2 hQ2
            clear hQ1 hk2 hbw2 hown2 hsrc2
            refine wpListIn_appB _ rfl (.tmp 45) (.tmp 55) rfl wr.heap.size v1 (0 + k) ([] ++ cellsB (L.take k)) rfl HOW2.out (.slice (some ⟨w1.heap.size, 0, none⟩) 1 1) 1 (cellsB [(ya, z)]) rfl HSR2.out (by omega) HBW2.out.size ?_
            intro v2 w4 hown4 hgrow4
            have hb4 : Below wr.heap.size wr w4 := HBW2.out.trans ((Below.refl _ _).grown hgrow4 HBW2.out.size (owns_blockB HOW2.out))
            have HO4 := Lib.hid hown4
            have HB4 := Lib.hid hb4
            clear hown4 hgrow4 hb4
            gi_wp2_with fail
            refine hQ2.out _ _ ⟨⟨_, HDD.out _ HB4.out⟩, rfl⟩ ?_
            simp only [heavyRun, List.drop_succ_cons, List.drop_zero]
            clear hQ2 hne
            refine wpListIn_appB _ rfl (.tmp 56) (.tmp 60) rfl wr.heap.size v2 (0 + k + 1) ([] ++ cellsB (L.take k) ++ cellsB [(ya, z)]) rfl HO4.out src2 (l - (k + 1)) (cellsB (L.drop (k + 1))) rfl (by rw [HND.out]; exact SrcB.of_bin (V2.out.below (HB4.out))) (by omega) HB4.out.size ?_
            intro v3 w5 hown5 hgrow5
            have hb5 : Below wr.heap.size wr w5 := HB4.out.trans ((Below.refl _ _).grown hgrow5 HB4.out.size (owns_blockB HO4.out))
            have HO5 := Lib.hid hown5
            have HB5 := Lib.hid hb5
            clear hown5 hgrow5 hb5
            gi_wp2_with fail
            go_ret
            refine ⟨⟨_, rfl, ?_⟩, HB5.out⟩
            rw [HPN.out, hg2.out]
            exact put_ownsB (by have := HL.out; omega) HL.out HO5.out
          · have hg2 : Hid (putG L a n = L.take k ++ ((a, n) :: L.drop k)) := by
              show _ = _
              rw [hs.out, HS.out, if_neg hxy, if_neg hxe]
            have hbe : (ya == a) = false := by simpa using hxe
            obtain ⟨src2, hr2, hv2⟩ := HD.out k hk
            have V2 := Lib.hid hv2
            have hnd : l - k = (L.drop k).length := by rw [List.length_drop, ← HL.out]
            have HND := Lib.hid hnd
            clear hv2 hnd
            gi_wp2_with (refine wpListIn_appB _ rfl (.tmp 27) (.tmp 30) rfl wr.heap.size (.slice none 0 0) 0 [] rfl (World.ownsRow_nil _ _ _ _) src1 k (cellsB (L.take k)) rfl V1.out (by omega) (Nat.le_refl _) ?_; intro v1 w1 hown1 hgrow1; have HB1 : Below wr.heap.size wr w1 := (Below.refl _ _).grown hgrow1 (Nat.le_refl _) (fun k hk => by simp [Value.ownBlock] at hk); have HO1 := Lib.hid hown1; clear hown1 hgrow1; obtain ⟨c0', c1'⟩ := HC0.out w1 HB1)
            have hbs := HB1.size
            have HBB := Lib.hid HB1
            obtain ⟨D, hDk, hDd⟩ : ∃ D : World → Prop, (∀ W, D W → Below wr.heap.size wr W) ∧ (∀ W, Below wr.heap.size wr W → D W) := ⟨_, fun _ h => h, fun _ h => h⟩
            have HDD := Lib.hid hDd
            clear hDk hDd HB1 c0 c1 c0' c1'
            refine region_heldIn 9 [0, 1, 2, 6, 7, 8] [3, 4, 5] D (by kernel_rfl) (FOk.wide _) (by kernel_rfl) (by intro c a d v w h; cases d <;> exact h) (HDD.out _ HBB.out.drew) ?_
            intro hne
            simp only [pickL, nthL]
            repeat (go_big_quiet_step (fail))
            refine wpQuiet_nil ?_
            intro Q5 hQ5
            gi_wp2_with fail
            refine hQ5.out _ _ ⟨⟨w1.drew, HDD.out _ HBB.out.drew⟩, rfl⟩ ?_
            intro Q1 hQ1
            clear hQ5
            gi_wp2_with fail
            have hk2 : Below w1.heap.size w1 (w1.alloc (.cells #[.int .i64 a, gV n] 68)) := (Below.refl _ w1).alloc (Nat.le_refl _) _
            have hbw2 : Below wr.heap.size wr ((w1.alloc (.cells #[.int .i64 a, gV n] 68)).drew) := (HBB.out.trans (hk2.mono HBB.out.size)).drew
            have hown2 : ((w1.alloc (.cells #[.int .i64 a, gV n] 68)).drew).ownsRow wr.heap.size 68 2 v1 (0 + k) ([] ++ cellsB (L.take k)) := owns_sameB HO1.out fun j' _ h2 => hk2.block j' h2
            have hsrc2 : SrcB ((w1.alloc (.cells #[.int .i64 a, gV n] 68)).drew) (.slice (some ⟨w1.heap.size, 0, none⟩) 1 1) 1 (cellsB [(a, n)]) := srcB_one w1 a n _
            have HBW2 := Lib.hid hbw2
            have HOW2 := Lib.hid hown2
            have HSR2 := Lib.hid hsrc2
            refine hQ1.out _ _ ⟨⟨_, HDD.out _ hbw2⟩, rfl⟩ ?_
            intro Q2 hQ2
            clear hQ1 hk2 hbw2 hown2 hsrc2
            refine wpListIn_appB _ rfl (.tmp 62) (.tmp 66) rfl wr.heap.size v1 (0 + k) ([] ++ cellsB (L.take k)) rfl HOW2.out (.slice (some ⟨w1.heap.size, 0, none⟩) 1 1) 1 (cellsB [(a, n)]) rfl HSR2.out (by omega) HBW2.out.size ?_
            intro v2 w4 hown4 hgrow4
            have hb4 : Below wr.heap.size wr w4 := HBW2.out.trans ((Below.refl _ _).grown hgrow4 HBW2.out.size (owns_blockB HOW2.out))
            have HO4 := Lib.hid hown4
            have HB4 := Lib.hid hb4
            clear hown4 hgrow4 hb4
            gi_wp2_with fail
            refine hQ2.out _ _ ⟨⟨_, HDD.out _ HB4.out⟩, rfl⟩ ?_
            simp only [heavyRun, List.drop_succ_cons, List.drop_zero]
            clear hQ2 hne
            refine wpListIn_appB _ rfl (.tmp 67) (.tmp 70) rfl wr.heap.size v2 (0 + k + 1) ([] ++ cellsB (L.take k) ++ cellsB [(a, n)]) rfl HO4.out src2 (l - k) (cellsB (L.drop k)) rfl (by rw [HND.out]; exact SrcB.of_bin (V2.out.below (HB4.out))) (by omega) HB4.out.size ?_
            intro v3 w5 hown5 hgrow5
            have hb5 : Below wr.heap.size wr w5 := HB4.out.trans ((Below.refl _ _).grown hgrow5 HB4.out.size (owns_blockB HO4.out))
            have HO5 := Lib.hid hown5
            have HB5 := Lib.hid hb5
            clear hown5 hgrow5 hb5
            gi_wp2_with fail
            go_ret
            refine ⟨⟨_, rfl, ?_⟩, HB5.out⟩
            rw [HPN.out, hg2.out]
            exact put_ownsB (by have := HL.out; omega) HL.out HO5.out
    · obtain rfl : k = l := by omega
      have hltI : ¬ (k : Int) < (k : Int) := by omega
      have hdn : L.drop k = [] := List.drop_eq_nil_of_le (by have := HL.out; omega)
      by_cases hn0 : n = 0
      · have hq : ((n : Int) == 0) = true := by rw [hn0]; rfl
        have hp : putBn L a n = L := by unfold putBn; rw [if_pos hn0]
        have HP := Lib.hid hp
        clear hp hn0 hdn
        gi_wp2_with fail
        go_ret
        exact ⟨⟨_, rfl, by rw [HP.out]; exact HV.out⟩, Below.refl _ _⟩
      · have hq : ((n : Int) == 0) = false := by simp [hn0]
        have hpn : putBn L a n = putG L a n := by unfold putBn; rw [if_neg hn0]
        obtain ⟨src1, hr1, hv1⟩ := HT.out k hk
        have hs1 : SrcB wr src1 k (cellsB (L.take k)) := by
          have h := SrcB.of_bin hv1
          rwa [List.length_take, Nat.min_eq_left (by have := HL.out; omega)] at h
        have V1 := Lib.hid hs1
        have HPN := Lib.hid hpn
        have hg2 : Hid (putG L a n = L.take k ++ ((a, n) :: L.drop k)) := by
          show _ = _
          rw [hs.out, hdn]
          rfl
        clear hv1 hs1 hpn hdn
        obtain ⟨src2, hr2, hv2⟩ := HD.out k hk
        have V2 := Lib.hid hv2
        have hnd : k - k = (L.drop k).length := by rw [List.length_drop, ← HL.out]
        have HND := Lib.hid hnd
        clear hv2 hnd
        gi_wp2_with (refine wpListIn_appB _ rfl (.tmp 27) (.tmp 30) rfl wr.heap.size (.slice none 0 0) 0 [] rfl (World.ownsRow_nil _ _ _ _) src1 k (cellsB (L.take k)) rfl V1.out (by omega) (Nat.le_refl _) ?_; intro v1 w1 hown1 hgrow1; have HB1 : Below wr.heap.size wr w1 := (Below.refl _ _).grown hgrow1 (Nat.le_refl _) (fun k hk => by simp [Value.ownBlock] at hk); have HO1 := Lib.hid hown1; clear hown1 hgrow1)
        have hbs := HB1.size
        have HBB := Lib.hid HB1
        obtain ⟨D, hDk, hDd⟩ : ∃ D : World → Prop, (∀ W, D W → Below wr.heap.size wr W) ∧ (∀ W, Below wr.heap.size wr W → D W) := ⟨_, fun _ h => h, fun _ h => h⟩
        have HDD := Lib.hid hDd
        clear hDk hDd HB1
        refine region_heldIn 9 [0, 1, 2, 6, 7, 8] [3, 4, 5] D (by kernel_rfl) (FOk.wide _) (by kernel_rfl) (by intro c a d v w h; cases d <;> exact h) (HDD.out _ HBB.out.drew) ?_
        intro hne
        simp only [pickL, nthL]
        repeat (go_big_quiet_step (fail))
        refine wpQuiet_nil ?_
        intro Q5 hQ5
        gi_wp2_with fail
        refine hQ5.out _ _ ⟨⟨w1.drew, HDD.out _ HBB.out.drew⟩, rfl⟩ ?_
        intro Q1 hQ1
        clear hQ5
        gi_wp2_with fail
        have hk2 : Below w1.heap.size w1 (w1.alloc (.cells #[.int .i64 a, gV n] 68)) := (Below.refl _ w1).alloc (Nat.le_refl _) _
        have hbw2 : Below wr.heap.size wr ((w1.alloc (.cells #[.int .i64 a, gV n] 68)).drew) := (HBB.out.trans (hk2.mono HBB.out.size)).drew
        have hown2 : ((w1.alloc (.cells #[.int .i64 a, gV n] 68)).drew).ownsRow wr.heap.size 68 2 v1 (0 + k) ([] ++ cellsB (L.take k)) := owns_sameB HO1.out fun j' _ h2 => hk2.block j' h2
        have hsrc2 : SrcB ((w1.alloc (.cells #[.int .i64 a, gV n] 68)).drew) (.slice (some ⟨w1.heap.size, 0, none⟩) 1 1) 1 (cellsB [(a, n)]) := srcB_one w1 a n _
        have HBW2 := Lib.hid hbw2
        have HOW2 := Lib.hid hown2
        have HSR2 := Lib.hid hsrc2
        refine hQ1.out _ _ ⟨⟨_, HDD.out _ hbw2⟩, rfl⟩ ?_
        intro Q2 hQ2
        clear hQ1 hk2 hbw2 hown2 hsrc2
        refine wpListIn_appB _ rfl (.tmp 62) (.tmp 66) rfl wr.heap.size v1 (0 + k) ([] ++ cellsB (L.take k)) rfl HOW2.out (.slice (some ⟨w1.heap.size, 0, none⟩) 1 1) 1 (cellsB [(a, n)]) rfl HSR2.out (by omega) HBW2.out.size ?_
        intro v2 w4 hown4 hgrow4
        have hb4 : Below wr.heap.size wr w4 := HBW2.out.trans ((Below.refl _ _).grown hgrow4 HBW2.out.size (owns_blockB HOW2.out))
        have HO4 := Lib.hid hown4
        have HB4 := Lib.hid hb4
        clear hown4 hgrow4 hb4
        gi_wp2_with fail
        refine hQ2.out _ _ ⟨⟨_, HDD.out _ HB4.out⟩, rfl⟩ ?_
        simp only [heavyRun, List.drop_succ_cons, List.drop_zero]
        clear hQ2 hne
        refine wpListIn_appB _ rfl (.tmp 67) (.tmp 70) rfl wr.heap.size v2 (0 + k + 1) ([] ++ cellsB (L.take k) ++ cellsB [(a, n)]) rfl HO4.out src2 (k - k) (cellsB (L.drop k)) rfl (by rw [HND.out]; exact SrcB.of_bin (V2.out.below (HB4.out))) (by omega) HB4.out.size ?_
        intro v3 w5 hown5 hgrow5
        have hb5 : Below wr.heap.size wr w5 := HB4.out.trans ((Below.refl _ _).grown hgrow5 HB4.out.size (owns_blockB HO4.out))
        have HO5 := Lib.hid hown5
        have HB5 := Lib.hid hb5
        clear hown5 hgrow5 hb5
        gi_wp2_with fail
        go_ret
        refine ⟨⟨_, rfl, ?_⟩, HB5.out⟩
        rw [HPN.out, hg2.out]
        exact put_ownsB (by have := HL.out; omega) HL.out HO5.out
theorem pPut_any (L : List Bn) (a : Int) (n : Nat) (v : Value) (w : World) (hv : BinSl w v L) (hn : L.length ≤ 1000) (hnt : n ≤ topN) :
    Calls Try.prog 39 #[v, .int .i64 a, gV n] w fun e w' => (∃ v', e = .returned v' ∧ BinSl w' v' (putBn L a n)) ∧ Below w.heap.size w w' :=
  callsIn_wide.1 (pPut_in 5 (by decide) L a n v w hv hn hnt)
end Go.Proofs.Ytpdedogdffolnaa
