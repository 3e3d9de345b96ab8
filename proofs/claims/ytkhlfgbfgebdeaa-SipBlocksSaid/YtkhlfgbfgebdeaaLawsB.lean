/- SipBlocks: what it comes to. -/
import Derived.Test.YtkhlfgbfgebdeaaRefSum
namespace Go.Proofs.Ytkhlfgbfgebdeaa
open Go.RowKit Go.Shelf
attribute [local go_sem] wrap_add wrap_sub xor_n64 or_n64

/-- The four numbers ahead of the eight with this number; behind the last one too. -/
def stB (l : List UInt8) (v : Q4) (b : Nat) : Q4 := if b ≤ l.length / 8 then (eatL b v l).1 else tk (eatL (l.length / 8) v l).1 (lastW (l.drop (8 * (l.length / 8))) l.length)

theorem stB_next (l : List UInt8) (v : Q4) (b : Nat) (h : b < l.length / 8) : stB l v (b + 1) = tk (stB l v b) (wd 8 (l.drop (8 * b))) := by
  unfold stB
  rw [if_pos (by omega), if_pos (by omega)]
  exact (eatL_step b v l (by omega)).2 (by omega)
theorem stB_last (l : List UInt8) (v : Q4) : stB l v (l.length / 8 + 1) = tk (stB l v (l.length / 8)) (lastW (l.drop (8 * (l.length / 8))) l.length) := by
  unfold stB
  rw [if_neg (by omega), if_pos (Nat.le_refl _)]
theorem stB_end (a b : BitVec 64) (l : List UInt8) : fin (stB l (ini a b) (l.length / 8 + 1)) = sumL a b l := by
  rw [sumL_eq]
  unfold stB
  rw [if_neg (by omega)]

/-- The key's block, the four numbers' block, and what lies below them. -/
def KQ (w : World) (ka kb : BitVec 64) (b : Nat) (q : Q4) (V : World) : Prop := HasC V w.heap.size 24 #[.int .u64 (n64 ka), .int .u64 (n64 kb)] ∧ HasC V b 30 (cells4 q) ∧ w.heap.size < b ∧ Below w.heap.size w V
theorem KQ.on {w V V' : World} {ka kb : BitVec 64} {b : Nat} {q : Q4} (h : KQ w ka kb b q V) (hb : Below V.heap.size V V') : KQ w ka kb b q V' :=
  ⟨h.1.below hb h.1.lt, h.2.1.below hb h.2.1.lt, h.2.2.1, h.2.2.2.trans (hb.mono h.2.2.2.size)⟩
theorem KQ.set {w V : World} {ka kb : BitVec 64} {b : Nat} {q q' : Q4} (h : KQ w ka kb b q V) (i : Nat) (u : Value) (e : (cells4 q).setIfInBounds i u = cells4 q') : KQ w ka kb b q' (V.setCell ⟨b, i, none⟩ u) :=
  ⟨h.1.far ⟨b, i, none⟩ u (by have := h.2.2.1; simp; omega), HasC.eq (h.2.1.set i u) e, h.2.2.1, h.2.2.2.setCell (p := ⟨b, i, none⟩) (by have := h.2.2.1; simp; omega) u⟩

set_option maxHeartbeats 400000 in
theorem blocks_walk (ka kb : BitVec 64) (s0 : ByteArray) (hs0 : s0.size ≤ maxLen) (w : World) :
    Calls Try.prog 9 #[.agg #[.int .u64 (n64 ka), .int .u64 (n64 kb)], .string s0] w fun e w' => e = .returned (.bool true) ∧ Below w.heap.size w w' := by
  have i0 := ini0 ka
  have i1 := ini1 kb
  have i2 := ini2 ka
  have i3 := ini3 kb
  have HS := Lib.hid hs0
  clear hs0
  go_enter Try.func9, Try.ntmps9
  go_wp2_with fail
  refine (shown_any _).mono ?_
  rintro e w1 ⟨rfl, hb1⟩
  have hK1 : HasC w1 w.heap.size 24 #[.int .u64 (n64 ka), .int .u64 (n64 kb)] := HasC.below (HasC.new w _ _) hb1 (by simp)
  have hB1 : Below w.heap.size w w1 := ((Below.refl _ w).alloc (Nat.le_refl _) _).trans (hb1.mono (by simp))
  clear hb1
  have k0 : w1.cell? ⟨w.heap.size, 0, none⟩ = some (.int .u64 (n64 ka)) := hK1.cell 0
  have k1 : w1.cell? ⟨w.heap.size, 1, none⟩ = some (.int .u64 (n64 kb)) := hK1.cell 1
  go_wp2_with fail
  refine (cut_any _ HS.out _).mono ?_
  rintro e w2 ⟨rfl, rfl⟩
  obtain ⟨s, hs⟩ : ∃ s, s = cutB s0 := ⟨_, rfl⟩
  have hs3 : s.size ≤ 300 := by rw [hs]; exact cutB_size s0
  rw [← hs]
  clear hs
  go_wp2_with fail
  clear i0 i1 i2 i3
  obtain ⟨v0, hv0⟩ : ∃ v0, v0 = ini ka kb := ⟨_, rfl⟩
  have HV := Lib.hid hv0
  have ea : ka ^^^ 8317987319222330741#64 = v0.a := by rw [hv0]; rfl
  have eb : kb ^^^ 7237128888997146477#64 = v0.b := by rw [hv0]; rfl
  have ec : ka ^^^ 7816392313619706465#64 = v0.c := by rw [hv0]; rfl
  have ed : kb ^^^ 8387220255154660723#64 = v0.d := by rw [hv0]; rfl
  rw [ea, eb, ec, ed]
  clear hv0 ea eb ec ed
  obtain ⟨W0, hW0⟩ : ∃ W0, W0 = w1.alloc (Obj.cells #[Value.int IntKind.u64 (n64 v0.a), Value.int IntKind.u64 (n64 v0.b), Value.int IntKind.u64 (n64 v0.c), Value.int IntKind.u64 (n64 v0.d)] 30) := ⟨_, rfl⟩
  have hK0 : KQ w ka kb w1.heap.size v0 W0 := by
    rw [hW0]
    exact ⟨hK1.alloc _, HasC.new _ _ _, hK1.lt, hB1.alloc hB1.size _⟩
  rw [← hW0]
  clear hW0 hK1 hB1 k0 k1
  obtain ⟨B, hB0⟩ : ∃ B, B = w1.heap.size := ⟨_, rfl⟩
  rw [← hB0] at hK0 ⊢
  clear hB0
  have h0 : stB s.data.toList v0 0 = v0 := by simp [stB, eatL]
  go_loopw [7] (fun i wr => ∃ b : Nat, b ≤ s.size / 8 + 1 ∧ i = .int .i64 b ∧ KQ w ka kb B (stB s.data.toList v0 b) wr) (fun i _ => 100 - (intOf i).toNat)
  case atStart => exact ⟨0, by omega, rfl, by rw [h0]; exact hK0⟩
  case round =>
    obtain ⟨b, hb1, rfl, hK⟩ := hrel
    clear hK0 h0
    obtain ⟨q, hq⟩ : ∃ q, q = stB s.data.toList v0 b := ⟨_, rfl⟩
    rw [← hq] at hK
    have HQ := Lib.hid hq
    clear hq
    have c0 : wr.cell? ⟨B, 0, none⟩ = some (.int .u64 (n64 q.a)) := hK.2.1.cell 0
    have c1 : wr.cell? ⟨B, 1, none⟩ = some (.int .u64 (n64 q.b)) := hK.2.1.cell 1
    have c2 : wr.cell? ⟨B, 2, none⟩ = some (.int .u64 (n64 q.c)) := hK.2.1.cell 2
    have c3 : wr.cell? ⟨B, 3, none⟩ = some (.int .u64 (n64 q.d)) := hK.2.1.cell 3
    have z0 := hK.2.1.frozen 0
    have z1 := hK.2.1.frozen 1
    have z2 := hK.2.1.frozen 2
    have z3 := hK.2.1.frozen 3
    by_cases hb : b ≤ s.size / 8
    · have hd : decide ((b : Int) ≤ (s.size : Int) / 8) = true := by simp; omega
      go_wp2_with fail
      go_loop [8, 9] (fun m jj => ∃ j : Nat, j ≤ 8 ∧ 8 * b + j ≤ s.size ∧ jj = .int .i64 j ∧ m = .int .u64 (n64 (wd j (s.data.toList.drop (8 * b))))) (fun _ jj => 8 - (intOf jj).toNat)
      case atStart => exact ⟨0, by omega, by omega, rfl, rfl⟩
      case round =>
        obtain ⟨j, hj8, hjs, rfl, rfl⟩ := hrel
        by_cases hlt : j < 8
        · have hl8 : decide ((j : Int) < 8) = true := by simp; omega
          by_cases hlt2 : 8 * b + j < s.size
          · have hl2 : decide (8 * (b : Int) + (j : Int) < (s.size : Int)) = true := by simp; omega
            go_wp2_with fail
            have e : bits .or .u64 (n64 (wd j (s.data.toList.drop (8 * b)))) (IntKind.u64.wrap (IntKind.u64.wrap (s[8 * b + j].toNat : Int) * 2 ^ (8 * j))) = n64 (wd (j + 1) (s.data.toList.drop (8 * b))) := by
              rw [wrap_byte, byte_shl, or_n64, wd_at _ _ _ (by simpa using hlt2)]
              rfl
            go_round
            case rel => exact ⟨j + 1, by omega, by omega, by go_num, by rw [← e]⟩
            case measure => simp [intOf]; omega
          · have hl2 : decide (8 * (b : Int) + (j : Int) < (s.size : Int)) = false := by simp; omega
            have hn : s.data.toList.length = s.size := by simp
            have hlast : bits .or .u64 (n64 (wd j (s.data.toList.drop (8 * b)))) ((s.size : Int) % (256 : Int) * (72057594037927936 : Int)) = n64 (lastW (s.data.toList.drop (8 * b)) s.size) := by
              rw [wd_full _ j (by rw [List.length_drop]; omega) hj8]
              exact last_or _ _
            have hst : stB s.data.toList v0 (b + 1) = tk q (lastW (s.data.toList.drop (8 * b)) s.size) := by
              have hbn : b = s.data.toList.length / 8 := by omega
              rw [HQ.out, hbn, stB_last, hn]
            have HST := Lib.hid hst
            clear hst hn
            have hS := hK.set 3 (.int .u64 (n64 (q.d ^^^ lastW (s.data.toList.drop (8 * b)) s.size))) (q' := ⟨q.a, q.b, q.c, q.d ^^^ lastW (s.data.toList.drop (8 * b)) s.size⟩) rfl
            go_wp2_with fail
            refine (roundX ⟨q.a, q.b, q.c, q.d ^^^ lastW (s.data.toList.drop (8 * b)) s.size⟩ _).mono ?_
            rintro e w3 ⟨rfl, hb3⟩
            go_wp2_with fail
            refine (roundX (rnd ⟨q.a, q.b, q.c, q.d ^^^ lastW (s.data.toList.drop (8 * b)) s.size⟩) _).mono ?_
            rintro e w4 ⟨rfl, hb4⟩
            have hK4 := (hS.on hb3).on hb4
            have d0 : w4.cell? ⟨B, 0, none⟩ = some (.int .u64 (n64 q.a)) := hK4.2.1.cell 0
            have d1 : w4.cell? ⟨B, 1, none⟩ = some (.int .u64 (n64 q.b)) := hK4.2.1.cell 1
            have d2 : w4.cell? ⟨B, 2, none⟩ = some (.int .u64 (n64 q.c)) := hK4.2.1.cell 2
            have d3 : w4.cell? ⟨B, 3, none⟩ = some (.int .u64 (n64 (q.d ^^^ lastW (s.data.toList.drop (8 * b)) s.size))) := hK4.2.1.cell 3
            have y0 := hK4.2.1.frozen 0
            have y1 := hK4.2.1.frozen 1
            have y2 := hK4.2.1.frozen 2
            have y3 := hK4.2.1.frozen 3
            clear hK hS hb3 hb4 c0 c1 c2 c3 z0 z1 z2 z3
            go_wp2_with fail
            go_roundw
            case rel =>
              refine ⟨b + 1, by omega, by go_num, ?_⟩
              rw [HST.out]
              obtain ⟨r, hr⟩ : ∃ r, r = rnd (rnd ⟨q.a, q.b, q.c, q.d ^^^ lastW (s.data.toList.drop (8 * b)) s.size⟩) := ⟨_, rfl⟩
              have h5 := ((((hK4.set 0 (.int .u64 (n64 r.a)) (q' := ⟨r.a, q.b, q.c, q.d ^^^ lastW (s.data.toList.drop (8 * b)) s.size⟩) rfl).set 1 (.int .u64 (n64 r.b)) (q' := ⟨r.a, r.b, q.c, q.d ^^^ lastW (s.data.toList.drop (8 * b)) s.size⟩) rfl).set 2 (.int .u64 (n64 r.c)) (q' := ⟨r.a, r.b, r.c, q.d ^^^ lastW (s.data.toList.drop (8 * b)) s.size⟩) rfl).set 3 (.int .u64 (n64 r.d)) (q' := r) rfl).set 0 (.int .u64 (n64 (r.a ^^^ lastW (s.data.toList.drop (8 * b)) s.size))) (q' := ⟨r.a ^^^ lastW (s.data.toList.drop (8 * b)) s.size, r.b, r.c, r.d⟩) rfl
              rw [hr] at h5
              exact h5
            case measure => simp [intOf]; omega
        · have hl8 : decide ((j : Int) < 8) = false := by simp; omega
          obtain rfl : j = 8 := by omega
          have hn : s.data.toList.length = s.size := by simp
          have hst : stB s.data.toList v0 (b + 1) = tk q (wd 8 (s.data.toList.drop (8 * b))) := by
            rw [HQ.out, stB_next _ _ _ (by omega)]
          have HST := Lib.hid hst
          clear hst hn
          have hS := hK.set 3 (.int .u64 (n64 (q.d ^^^ wd 8 (s.data.toList.drop (8 * b))))) (q' := ⟨q.a, q.b, q.c, q.d ^^^ wd 8 (s.data.toList.drop (8 * b))⟩) rfl
          go_wp2_with fail
          refine (roundX ⟨q.a, q.b, q.c, q.d ^^^ wd 8 (s.data.toList.drop (8 * b))⟩ _).mono ?_
          rintro e w3 ⟨rfl, hb3⟩
          go_wp2_with fail
          refine (roundX (rnd ⟨q.a, q.b, q.c, q.d ^^^ wd 8 (s.data.toList.drop (8 * b))⟩) _).mono ?_
          rintro e w4 ⟨rfl, hb4⟩
          have hK4 := (hS.on hb3).on hb4
          have d0 : w4.cell? ⟨B, 0, none⟩ = some (.int .u64 (n64 q.a)) := hK4.2.1.cell 0
          have d1 : w4.cell? ⟨B, 1, none⟩ = some (.int .u64 (n64 q.b)) := hK4.2.1.cell 1
          have d2 : w4.cell? ⟨B, 2, none⟩ = some (.int .u64 (n64 q.c)) := hK4.2.1.cell 2
          have d3 : w4.cell? ⟨B, 3, none⟩ = some (.int .u64 (n64 (q.d ^^^ wd 8 (s.data.toList.drop (8 * b))))) := hK4.2.1.cell 3
          have y0 := hK4.2.1.frozen 0
          have y1 := hK4.2.1.frozen 1
          have y2 := hK4.2.1.frozen 2
          have y3 := hK4.2.1.frozen 3
          clear hK hS hb3 hb4 c0 c1 c2 c3 z0 z1 z2 z3
          go_wp2_with fail
          go_roundw
          case rel =>
            refine ⟨b + 1, by omega, by go_num, ?_⟩
            rw [HST.out]
            obtain ⟨r, hr⟩ : ∃ r, r = rnd (rnd ⟨q.a, q.b, q.c, q.d ^^^ wd 8 (s.data.toList.drop (8 * b))⟩) := ⟨_, rfl⟩
            have h5 := ((((hK4.set 0 (.int .u64 (n64 r.a)) (q' := ⟨r.a, q.b, q.c, q.d ^^^ wd 8 (s.data.toList.drop (8 * b))⟩) rfl).set 1 (.int .u64 (n64 r.b)) (q' := ⟨r.a, r.b, q.c, q.d ^^^ wd 8 (s.data.toList.drop (8 * b))⟩) rfl).set 2 (.int .u64 (n64 r.c)) (q' := ⟨r.a, r.b, r.c, q.d ^^^ wd 8 (s.data.toList.drop (8 * b))⟩) rfl).set 3 (.int .u64 (n64 r.d)) (q' := r) rfl).set 0 (.int .u64 (n64 (r.a ^^^ wd 8 (s.data.toList.drop (8 * b))))) (q' := ⟨r.a ^^^ wd 8 (s.data.toList.drop (8 * b)), r.b, r.c, r.d⟩) rfl
            rw [hr] at h5
            exact h5
          case measure => simp [intOf]; omega
    · have hx : bits .xor .u64 (n64 q.c) 255 = n64 (q.c ^^^ 255#64) := xor_n64 q.c 255#64
      have hS := hK.set 2 (.int .u64 (n64 (q.c ^^^ 255#64))) (q' := ⟨q.a, q.b, q.c ^^^ 255#64, q.d⟩) rfl
      obtain ⟨p0, hp0⟩ : ∃ p0 : Q4, p0 = ⟨q.a, q.b, q.c ^^^ 255#64, q.d⟩ := ⟨_, rfl⟩
      have HP0 := Lib.hid hp0
      have x0 : ∀ W, Calls Try.prog 16 #[.agg #[.int .u64 (n64 q.a), .int .u64 (n64 q.b), .int .u64 (n64 (q.c ^^^ 255#64)), .int .u64 (n64 q.d)]] W fun e w' =>
        e = .returned (.agg #[.int .u64 (n64 (rnd p0).a), .int .u64 (n64 (rnd p0).b), .int .u64 (n64 (rnd p0).c), .int .u64 (n64 (rnd p0).d)]) ∧ Below W.heap.size W w' := fun W => by
        have := roundX p0 W
        rw [hp0] at this ⊢
        exact this
      have X0 := Lib.hid x0
      have hsum : (rnd (rnd (rnd (rnd p0)))).a ^^^ (rnd (rnd (rnd (rnd p0)))).b ^^^ (rnd (rnd (rnd (rnd p0)))).c ^^^ (rnd (rnd (rnd (rnd p0)))).d = sumL ka kb s.data.toList := by
        have hn : s.data.toList.length = s.size := by simp
        have hbn : b = s.data.toList.length / 8 + 1 := by omega
        rw [← stB_end, ← HV.out, ← hbn, ← HQ.out, HP0.out]
        rfl
      have HSUM := Lib.hid hsum
      rw [← hp0] at hS
      clear hp0 x0 hsum
      go_wp2_with fail
      refine (X0.out _).mono ?_
      rintro e w3 ⟨rfl, hb3⟩
      go_wp2_with fail
      refine (roundX (rnd p0) _).mono ?_
      rintro e w4 ⟨rfl, hb4⟩
      go_wp2_with fail
      refine (roundX (rnd (rnd p0)) _).mono ?_
      rintro e w5 ⟨rfl, hb5⟩
      go_wp2_with fail
      refine (roundX (rnd (rnd (rnd p0))) _).mono ?_
      rintro e w6 ⟨rfl, hb6⟩
      have hK6 := (((hS.on hb3).on hb4).on hb5).on hb6
      obtain ⟨r, hr⟩ : ∃ r, r = rnd (rnd (rnd (rnd p0))) := ⟨_, rfl⟩
      rw [← hr]
      have hsum := HSUM.out
      rw [← hr] at hsum
      clear hr HSUM
      have d0 : w6.cell? ⟨B, 0, none⟩ = some (.int .u64 (n64 p0.a)) := hK6.2.1.cell 0
      have d1 : w6.cell? ⟨B, 1, none⟩ = some (.int .u64 (n64 p0.b)) := hK6.2.1.cell 1
      have d2 : w6.cell? ⟨B, 2, none⟩ = some (.int .u64 (n64 p0.c)) := hK6.2.1.cell 2
      have d3 : w6.cell? ⟨B, 3, none⟩ = some (.int .u64 (n64 p0.d)) := hK6.2.1.cell 3
      have y0 := hK6.2.1.frozen 0
      have y1 := hK6.2.1.frozen 1
      have y2 := hK6.2.1.frozen 2
      have y3 := hK6.2.1.frozen 3
      clear hK hS hb3 hb4 hb5 hb6 c0 c1 c2 c3 z0 z1 z2 z3 hx
      go_wp2_with fail
      have h5 := (((hK6.set 0 (.int .u64 (n64 r.a)) (q' := ⟨r.a, p0.b, p0.c, p0.d⟩) rfl).set 1 (.int .u64 (n64 r.b)) (q' := ⟨r.a, r.b, p0.c, p0.d⟩) rfl).set 2 (.int .u64 (n64 r.c)) (q' := ⟨r.a, r.b, r.c, p0.d⟩) rfl).set 3 (.int .u64 (n64 r.d)) (q' := r) rfl
      refine region_class (KQ w ka kb B r) (by kernel_rfl) (by kernel_rfl) ⟨h5.1.drew, h5.2.1.drew, h5.2.2.1, h5.2.2.2.drew⟩ ?_
      intro hne
      have e0 : ∀ i : InC (KQ w ka kb B r), i.w.cell? ⟨B, 0, none⟩ = some (.int .u64 (n64 r.a)) := fun i => i.h.2.1.cell 0
      have e1 : ∀ i : InC (KQ w ka kb B r), i.w.cell? ⟨B, 1, none⟩ = some (.int .u64 (n64 r.b)) := fun i => i.h.2.1.cell 1
      have e2 : ∀ i : InC (KQ w ka kb B r), i.w.cell? ⟨B, 2, none⟩ = some (.int .u64 (n64 r.c)) := fun i => i.h.2.1.cell 2
      have e3 : ∀ i : InC (KQ w ka kb B r), i.w.cell? ⟨B, 3, none⟩ = some (.int .u64 (n64 r.d)) := fun i => i.h.2.1.cell 3
      have e4 : ∀ i : InC (KQ w ka kb B r), i.w.cell? ⟨w.heap.size, 0, none⟩ = some (.int .u64 (n64 ka)) := fun i => i.h.1.cell 0
      have e5 : ∀ i : InC (KQ w ka kb B r), i.w.cell? ⟨w.heap.size, 1, none⟩ = some (.int .u64 (n64 kb)) := fun i => i.h.1.cell 1
      repeat (go_big_quiet_step ((go_at_call 11; refine (sum_any _ _ s (Nat.le_trans hs3 (by decide)) _).mono ?_; rintro e w' ⟨rfl, hb⟩; exact ⟨rfl, ⟨_, KQ.on (InC.h _) hb⟩, rfl⟩)))
      refine wpQuiet_nil ?_
      clear e0 e1 e2 e3 e4 e5 hne h5
      rintro ⟨w7, hF7⟩
      dsimp only
      go_wp2_with fail
      go_ret
      exact ⟨rfl, hF7.2.2.2⟩
end Go.Proofs.Ytkhlfgbfgebdeaa
