/- The page's own sum: what it comes to. -/
import Derived.Test.YtkhlfgbfgebdeaaLawsQ
import Derived.Test.YtkhlfgbfgebdeaaPadMath
import Derived.Lib.SmallJoins
namespace Go.Proofs.Ytkhlfgbfgebdeaa
open Go.RowKit Go.Shelf
attribute [local go_sem] wrap_add wrap_sub xor_n64 or_n64

theorem conv1 (W : World) (x : Int) : (convert 47 9 (.slice (some ⟨W.heap.size, 0, none⟩) 1 1)).run Try.prog (W.alloc (.cells #[.int .u8 x] 5)) = .ok (.string (ByteArray.empty.push (UInt8.ofNat x.toNat))) (W.alloc (.cells #[.int .u8 x] 5)) := by
  rw [run_convert_bytes_string _ 47 9 5 _ _ _ Try.underlying47 Try.underlying5 Try.underlying9]
  have hl := run_loadCells_list (P := Try.prog) (W.alloc (.cells #[.int .u8 x] 5)) ⟨W.heap.size, 0, none⟩ [.int .u8 x] (fun j v hj => by
    match j, hj with
    | 0, hj =>
      simp at hj
      subst hj
      exact World.cell?_alloc_new _ _ _ _)
  exact run_bytesToString _ _ 1 1 [x] hl
theorem conv1_list (u s : ByteArray) : (u ++ ByteArray.empty.push (UInt8.ofNat (s.size % 256))).data.toList = u.data.toList ++ [UInt8.ofNat s.data.toList.length] := by
  rw [Joins.data_append]
  have e : UInt8.ofNat (s.size % 256) = UInt8.ofNat s.data.toList.length := by
    apply UInt8.toNat_inj.1
    simp
  rw [e]
  rfl

set_option maxHeartbeats 400000 in
theorem refSum_any (ka kb : BitVec 64) (s : ByteArray) (hs : s.size ≤ 301) (w : World) :
    Calls Try.prog 13 #[.agg #[.int .u64 (n64 ka), .int .u64 (n64 kb)], .string s] w fun e w' => e = .returned (.int .u64 (n64 (sumL ka kb s.data.toList))) ∧ Below w.heap.size w w' := by
  have i0 := ini0 ka
  have i1 := ini1 kb
  have i2 := ini2 ka
  have i3 := ini3 kb
  go_enter Try.func13, Try.ntmps13
  go_wp2_with fail
  clear i0 i1 i2 i3
  obtain ⟨v0, hv0⟩ : ∃ v0, v0 = ini ka kb := ⟨_, rfl⟩
  have HV := Lib.hid hv0
  have ea : ka ^^^ 8317987319222330741#64 = v0.a := by rw [hv0]; rfl
  have eb : kb ^^^ 7237128888997146477#64 = v0.b := by rw [hv0]; rfl
  have ec : ka ^^^ 7816392313619706465#64 = v0.c := by rw [hv0]; rfl
  have ed : kb ^^^ 8387220255154660723#64 = v0.d := by rw [hv0]; rfl
  rw [ea, eb, ec, ed]
  clear hv0 ea eb ec ed
  obtain ⟨W0, hW0⟩ : ∃ W0, W0 = (w.alloc (Obj.cells #[Value.int IntKind.u64 (n64 ka), Value.int IntKind.u64 (n64 kb)] 24)).alloc (Obj.cells #[Value.int IntKind.u64 (n64 v0.a), Value.int IntKind.u64 (n64 v0.b), Value.int IntKind.u64 (n64 v0.c), Value.int IntKind.u64 (n64 v0.d)] 30) := ⟨_, rfl⟩
  have hC0 : HasC W0 (w.heap.size + 1) 30 (cells4 v0) := by rw [hW0]; exact HasC.at_ _ _ _ (by simp)
  have hB0 : Below w.heap.size w W0 := by rw [hW0]; exact ((Below.refl _ _).alloc (Nat.le_refl _) _).alloc (by simp) _
  rw [← hW0]
  clear hW0
  have hcv := conv1 W0 ((s.size : Int) % 256)
  go_loop [6] (fun t => ∃ (u : ByteArray) (z : Nat), t = .string u ∧ u.data.toList = s.data.toList ++ List.replicate z 0 ∧ u.size = s.size + z ∧ s.size % 8 + z ≤ 7) (fun t => 7 - strLen t % 8)
  case atStart => exact ⟨s, 0, rfl, by simp, rfl, by omega⟩
  case round =>
    obtain ⟨u, z, rfl, hu, hz, hz8⟩ := hrel
    have HU := Lib.hid hu
    have HZ := Lib.hid hz
    have hle : u.size ≤ 309 := by omega
    clear hu hz
    by_cases h7 : u.size % 8 = 7
    · have hz7 : s.size % 8 + z = 7 := by have := HZ.out; omega
      have hp : (u ++ ByteArray.empty.push (UInt8.ofNat (s.size % 256))).data.toList = pad s.data.toList z := by
        rw [conv1_list, HU.out]
        simp [pad]
      obtain ⟨t, ht⟩ : ∃ t, u ++ ByteArray.empty.push (UInt8.ofNat (s.size % 256)) = t := ⟨_, rfl⟩
      rw [ht] at hp
      have HP := Lib.hid hp
      have hpl : t.data.toList.length = s.size + z + 1 := by rw [hp, pad_length]; simp
      have hts : t.size = s.size + z + 1 := by simpa using hpl
      have HTS := Lib.hid hts
      have htl : t.size ≤ 310 := by omega
      have HZ7 := Lib.hid hz7
      clear hp hpl hts hz7 hz8
      go_wp2_with fail
      clear ht
      have hB1 : Below w.heap.size w (W0.alloc (Obj.cells #[Value.int IntKind.u8 ((s.size : Int) % 256)] 5)) := hB0.alloc hB0.size _
      have hC1 := hC0.alloc (Obj.cells #[Value.int IntKind.u8 ((s.size : Int) % 256)] 5)
      clear hcv
      go_loopw [7] (fun i wr => ∃ b k : Nat, k = 8 * b ∧ k ≤ t.size ∧ i = .int .i64 k ∧ HasC wr (w.heap.size + 1) 30 (cells4 (eatL b v0 t.data.toList).1) ∧ Below w.heap.size w wr) (fun i _ => 400 - (intOf i).toNat)
      case atStart => exact ⟨0, 0, rfl, by omega, rfl, hC1, hB1⟩
      case round =>
        obtain ⟨b, k, hk8, hkt, rfl, hC, hB⟩ := hrel
        have HK := Lib.hid hk8
        clear hk8
        clear hC0 hB0 hB1 hC1
        obtain ⟨q, hq⟩ : ∃ q, q = (eatL b v0 t.data.toList).1 := ⟨_, rfl⟩
        rw [← hq] at hC
        have HQ := Lib.hid hq
        clear hq
        have c0 : wr.cell? ⟨w.heap.size + 1, 0, none⟩ = some (.int .u64 (n64 q.a)) := hC.cell 0
        have c1 : wr.cell? ⟨w.heap.size + 1, 1, none⟩ = some (.int .u64 (n64 q.b)) := hC.cell 1
        have c2 : wr.cell? ⟨w.heap.size + 1, 2, none⟩ = some (.int .u64 (n64 q.c)) := hC.cell 2
        have c3 : wr.cell? ⟨w.heap.size + 1, 3, none⟩ = some (.int .u64 (n64 q.d)) := hC.cell 3
        have z0 := hC.frozen 0
        have z1 := hC.frozen 1
        have z2 := hC.frozen 2
        have z3 := hC.frozen 3
        by_cases hbt : k + 8 ≤ t.size
        · have hd : decide ((k : Int) + 8 ≤ (t.size : Int)) = true := by simp; omega
          go_wp2_with fail
          go_loop [8, 9] (fun m jj => ∃ j : Nat, j ≤ 8 ∧ jj = .int .i64 j ∧ m = .int .u64 (n64 (wd j (t.data.toList.drop k)))) (fun _ jj => 8 - (intOf jj).toNat)
          case atStart => exact ⟨0, by omega, rfl, rfl⟩
          case round =>
            obtain ⟨j, hj8, rfl, rfl⟩ := hrel
            by_cases hlt : j < 8
            · have hix : k + j < t.size := by omega
              go_wp2_with fail
              have e : IntKind.u64.wrap (n64 (wd j (t.data.toList.drop k)) + IntKind.u64.wrap (IntKind.u64.wrap (t[k + j].toNat : Int) * 2 ^ (8 * j))) = n64 (wd (j + 1) (t.data.toList.drop k)) := by
                rw [wrap_byte, byte_shl, wrap_add, wd_add _ _ hlt, wd_at _ _ _ (by simpa using hix)]
                rfl
              go_round
              case rel => exact ⟨j + 1, by omega, by go_num, by rw [← e]⟩
              case measure => simp [intOf]; omega
            · obtain rfl : j = 8 := by omega
              have hS := hC.set 3 (.int .u64 (n64 (q.d ^^^ wd 8 (t.data.toList.drop k))))
              have hBS := hB.setCell (p := ⟨w.heap.size + 1, 3, none⟩) (by simp) (.int .u64 (n64 (q.d ^^^ wd 8 (t.data.toList.drop k))))
              have hlt2 := hS.lt
              go_wp2_with fail
              refine (refRoundX ⟨q.a, q.b, q.c, q.d ^^^ wd 8 (t.data.toList.drop k)⟩ _).mono ?_
              rintro e w1 ⟨rfl, hb1⟩
              go_wp2_with fail
              refine (refRoundX (rnd ⟨q.a, q.b, q.c, q.d ^^^ wd 8 (t.data.toList.drop k)⟩) _).mono ?_
              rintro e w2 ⟨rfl, hb2⟩
              have hC2 := (hS.below hb1 hlt2).below hb2 (by have := hb1.size; omega)
              have hB2 := (hBS.trans (hb1.mono hBS.size)).trans (hb2.mono (by have := hb1.size; have := hBS.size; omega))
              have d0 : w2.cell? ⟨w.heap.size + 1, 0, none⟩ = some (.int .u64 (n64 q.a)) := hC2.cell 0
              have d1 : w2.cell? ⟨w.heap.size + 1, 1, none⟩ = some (.int .u64 (n64 q.b)) := hC2.cell 1
              have d2 : w2.cell? ⟨w.heap.size + 1, 2, none⟩ = some (.int .u64 (n64 q.c)) := hC2.cell 2
              have d3 : w2.cell? ⟨w.heap.size + 1, 3, none⟩ = some (.int .u64 (n64 (q.d ^^^ wd 8 (t.data.toList.drop k)))) := hC2.cell 3
              have y0 := hC2.frozen 0
              have y1 := hC2.frozen 1
              have y2 := hC2.frozen 2
              have y3 := hC2.frozen 3
              clear hC hB hS hBS hb1 hb2 c0 c1 c2 c3 z0 z1 z2 z3
              go_wp2_with fail
              go_roundw
              case rel =>
                have hk := HK.out
                have hl : t.data.toList.length = t.size := by simp
                refine ⟨b + 1, k + 8, by omega, by omega, by go_num, ?_, ?_⟩
                · refine HasC.eq (HasC.set (HasC.set (HasC.set (HasC.set (HasC.set hC2 _ _) _ _) _ _) _ _) _ _) ?_
                  rw [(eatL_step b v0 t.data.toList (by omega)).2 (by omega), ← HQ.out, ← hk]
                  rfl
                · exact ((((hB2.setCell (p := ⟨w.heap.size + 1, 0, none⟩) (by simp) _).setCell (p := ⟨w.heap.size + 1, 1, none⟩) (by simp) _).setCell (p := ⟨w.heap.size + 1, 2, none⟩) (by simp) _).setCell (p := ⟨w.heap.size + 1, 3, none⟩) (by simp) _).setCell (p := ⟨w.heap.size + 1, 0, none⟩) (by simp) _
              case measure => simp [intOf]; omega
        · have hx : bits .xor .u64 (n64 q.c) 255 = n64 (q.c ^^^ 255#64) := xor_n64 q.c 255#64
          have hS := hC.set 2 (.int .u64 (n64 (q.c ^^^ 255#64)))
          have hBS := hB.setCell (p := ⟨w.heap.size + 1, 2, none⟩) (by simp) (.int .u64 (n64 (q.c ^^^ 255#64)))
          have hlt2 := hS.lt
          obtain ⟨p0, hp0⟩ : ∃ p0 : Q4, p0 = ⟨q.a, q.b, q.c ^^^ 255#64, q.d⟩ := ⟨_, rfl⟩
          have HP0 := Lib.hid hp0
          have x0 : ∀ W, Calls Try.prog 17 #[.agg #[.int .u64 (n64 q.a), .int .u64 (n64 q.b), .int .u64 (n64 (q.c ^^^ 255#64)), .int .u64 (n64 q.d)]] W fun e w' =>
            e = .returned (.agg #[.int .u64 (n64 (rnd p0).a), .int .u64 (n64 (rnd p0).b), .int .u64 (n64 (rnd p0).c), .int .u64 (n64 (rnd p0).d)]) ∧ Below W.heap.size W w' := fun W => by
            have := refRoundX p0 W
            rw [hp0] at this ⊢
            exact this
          have X0 := Lib.hid x0
          clear hp0 x0
          go_wp2_with fail
          refine (X0.out _).mono ?_
          rintro e w1 ⟨rfl, hb1⟩
          go_wp2_with fail
          refine (refRoundX (rnd p0) _).mono ?_
          rintro e w2 ⟨rfl, hb2⟩
          go_wp2_with fail
          refine (refRoundX (rnd (rnd p0)) _).mono ?_
          rintro e w3 ⟨rfl, hb3⟩
          go_wp2_with fail
          refine (refRoundX (rnd (rnd (rnd p0))) _).mono ?_
          rintro e w4 ⟨rfl, hb4⟩
          have hz1 := hb1.size
          have hz2 := hb2.size
          have hz3 := hb3.size
          have hz4 := hb4.size
          have hzS := hBS.size
          have hC4 := (((hS.below hb1 hlt2).below hb2 (by omega)).below hb3 (by omega)).below hb4 (by omega)
          have hB4 := (((hBS.trans (hb1.mono hBS.size)).trans (hb2.mono (by omega))).trans (hb3.mono (by omega))).trans (hb4.mono (by omega))
          have d0 : w4.cell? ⟨w.heap.size + 1, 0, none⟩ = some (.int .u64 (n64 q.a)) := hC4.cell 0
          have d1 : w4.cell? ⟨w.heap.size + 1, 1, none⟩ = some (.int .u64 (n64 q.b)) := hC4.cell 1
          have d2 : w4.cell? ⟨w.heap.size + 1, 2, none⟩ = some (.int .u64 (n64 (q.c ^^^ 255#64))) := hC4.cell 2
          have d3 : w4.cell? ⟨w.heap.size + 1, 3, none⟩ = some (.int .u64 (n64 q.d)) := hC4.cell 3
          have y0 := hC4.frozen 0
          have y1 := hC4.frozen 1
          have y2 := hC4.frozen 2
          have y3 := hC4.frozen 3
          clear hC hB hS hBS hb1 hb2 hb3 hb4 c0 c1 c2 c3 z0 z1 z2 z3 hx hz1 hz2 hz3 hz4 hzS hC4
          go_wp2_with fail
          go_ret
          have hsum : (rnd (rnd (rnd (rnd p0)))).a ^^^ (rnd (rnd (rnd (rnd p0)))).b ^^^ (rnd (rnd (rnd (rnd p0)))).c ^^^ (rnd (rnd (rnd (rnd p0)))).d = sumL ka kb s.data.toList := by
            have hk := HK.out
            have h1 := HTS.out
            have h2 := HZ7.out
            have hl : s.data.toList.length = s.size := by simp
            have hb : b = s.data.toList.length / 8 + 1 := by rw [hl]; omega
            rw [sumL_eq, ← HV.out, ← pad_eat s.data.toList z v0 (by rw [hl]; exact h2), ← HP.out, ← hb, ← HQ.out, HP0.out]
            rfl
          refine ⟨?_, ((((hB4.setCell (p := ⟨w.heap.size + 1, 0, none⟩) (by simp) _).setCell (p := ⟨w.heap.size + 1, 1, none⟩) (by simp) _).setCell (p := ⟨w.heap.size + 1, 2, none⟩) (by simp) _).setCell (p := ⟨w.heap.size + 1, 3, none⟩) (by simp) _)⟩
          rw [← hsum]
          rfl
    · go_wp2_with fail
      go_round
      case rel =>
        have hz := HZ.out
        have hu := HU.out
        refine ⟨u ++ { data := #[0] }, z + 1, rfl, ?_, ?_, ?_⟩
        · rw [Joins.data_append, hu, List.append_assoc, List.replicate_succ']
        · rw [ByteArray.size_append, hz]
          rfl
        · omega
      case measure =>
        have : ({ data := #[0] } : ByteArray).size = 1 := rfl
        simp only [strLen, ByteArray.size_append, this]
        omega
end Go.Proofs.Ytkhlfgbfgebdeaa
