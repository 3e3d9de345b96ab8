/- The page's own Get answers as Get does. -/
import Derived.Test.YthbfibnpfdegaaaDoorFRef
import Derived.Test.YthbfibnpfdegaaaDoorFRead
namespace Go.Proofs.YthbfibnpfdegaaaDoor
open Go.RowKit

/-- What the page reads of bytes that suffice. -/
theorem read_parts (s : ByteArray) (c : UInt8) (t : List UInt8) (hl : s.data.toList = c :: t) (hf : fol c.toNat ≤ t.length) :
    (s.extract 1 (1 + fol c.toNat)).data.toList = t.take (fol c.toNat) ∧ (s.extract 1 (1 + fol c.toNat)).size ≤ 8 ∧ s.size = t.length + 1 ∧
    ((getL s.data.toList = .bad ∧ putB (valN c.toNat (numL (t.take (fol c.toNat)))) ≠ s.extract 0 (1 + fol c.toNat)) ∨
      (getL s.data.toList = .ok (valN c.toNat (numL (t.take (fol c.toNat)))) (1 + fol c.toNat) ∧ putB (valN c.toNat (numL (t.take (fol c.toNat)))) = s.extract 0 (1 + fol c.toNat))) ∧
    valN c.toNat (numL (t.take (fol c.toNat))) < 18446744073709551616 ∧ numL (t.take (fol c.toNat)) < 256 ^ fol c.toNat := by
  have h8 := fol_byte c
  have hsz : s.size = t.length + 1 := by
    have := congrArg List.length hl
    simpa using this
  have e1 : (s.extract 1 (1 + fol c.toNat)).data.toList = t.take (fol c.toNat) := by rw [ext_list, hl, Nat.add_comm, List.take_succ_cons]; rfl
  have e0 : (s.extract 0 (1 + fol c.toNat)).data.toList = (c :: t).take (1 + fol c.toNat) := by rw [ext_list, hl, List.drop_zero]
  have hsz0 : (s.extract 0 (1 + fol c.toNat)).size = 1 + fol c.toNat := by simp; omega
  have hm := numL_lt (t.take (fol c.toNat))
  rw [show (t.take (fol c.toNat)).length = fol c.toNat by simp; omega] at hm
  refine ⟨e1, by simp; omega, hsz, ?_, (head_val c.toNat _ (by have := c.toNat_lt; omega) hm).1, hm⟩
  rcases get_cases s.data.toList with ⟨_, h⟩ | ⟨c', t', h, _, _, h'⟩
  · exfalso
    rcases h with h | ⟨c', t', h, h'⟩
    · rw [hl] at h; cases h
    · rw [hl] at h
      obtain ⟨rfl, rfl⟩ := List.cons.inj h
      omega
  · rw [hl] at h
    obtain ⟨rfl, rfl⟩ := List.cons.inj h
    rcases h' with ⟨h1, h2⟩ | ⟨h1, h2, h3⟩
    · refine .inl ⟨h1, fun e => ?_⟩
      have := congrArg ByteArray.size e
      rw [putB_size, hsz0] at this
      omega
    · refine .inr ⟨h1, ?_⟩
      apply ba_list
      rw [putB_list, e0, h3, hl]

theorem ret_u64 {x y : Int} {a : ByteArray} (h : x = y) : Ending.returned (.tuple #[.int .u64 x, .string a, .int .i64 0]) = Ending.returned (.tuple #[.int .u64 y, .string a, .int .i64 0]) := by rw [h]
/-- What lies below is as it was. -/
def BelC (w V : World) : Prop := Below w.heap.size w V
theorem BelC.on {w V V' : World} (h : BelC w V) (hb : Below V.heap.size V V') : BelC w V' := Below.trans h (hb.mono h.size)
set_option maxHeartbeats 1000000 in
set_option maxRecDepth 100000 in
theorem refGet_any (s : ByteArray) (hs : s.size ≤ maxLen) (w : World) :
    Calls Tryd.prog 28 #[.string s] w fun e w' => e = .returned (GetOut s) ∧ Below w.heap.size w w' := by
  unfold maxLen at hs
  cases hl : s.data.toList with
  | nil =>
    have hs0 : s = { data := #[] } := by apply ba_list; rw [hl]
    subst hs0
    have ho : GetOut { data := #[] } = .tuple #[.int .u64 0, .string { data := #[] }, .int .i64 20] := rfl
    rw [ho]
    clear hl hs ho
    go_enter Tryd.func28, Tryd.ntmps28
    go_wp2_with fail
    go_ret3
    exact ⟨rfl, Below.refl _ _⟩
  | cons c t =>
    have hsz : s.size = t.length + 1 := by
      have := congrArg List.length hl
      simpa using this
    have hne : ¬ s.toList = [] := by rw [ByteArray.toList_eq, hl]; simp
    have hnb : s.toList.isEmpty = false := by rw [ByteArray.toList_eq, hl]; rfl
    have h0 : 0 < s.size := by omega
    have hc : s[0] = c := by
      have h1 : s.data.toList[0]'(by simpa using h0) = c := by simp [hl]
      exact h1
    have hcl : c.toNat < 256 := c.toNat_lt
    by_cases hft : t.length < fol c.toNat
    · have ho : GetOut s = .tuple #[.int .u64 0, .string s, .int .i64 20] := by
        have : getL s.data.toList = .more := by rw [hl]; simp [getL, hft]
        unfold GetOut
        rw [this]
      rw [ho]
      have hlt : s.size < 1 + fol c.toNat := by omega
      have h8 := fol_byte c
      obtain ⟨z, hz⟩ : ∃ z, z = 1 + fol c.toNat := ⟨_, rfl⟩
      have hsize : ∀ W, Calls Tryd.prog 38 #[.int .i64 (c.toNat : Int)] W fun e w' => e = .returned (.int .i64 (z : Int)) ∧ W = w' := fun W => by rw [hz]; exact size_any c W
      rw [← hz] at hlt
      have HSZ := Lib.hid hsize
      clear ho hl hsz hft h8 hz hsize
      go_enter Tryd.func28, Tryd.ntmps28
      go_wp2_with fail
      with_reducible refine (HSZ.out _).mono ?_
      rintro e w' ⟨rfl, rfl⟩
      go_wp2_with fail
      go_ret3
      exact ⟨rfl, Below.refl _ _⟩
    · obtain ⟨e1, e2, e3, e4, e5, e6⟩ := read_parts s c t hl (by omega)
      have h8 := fol_byte c
      have hvc := val_cases c.toNat (numL (t.take (fol c.toNat)))
      have hfc := fol_cases c.toNat (by omega)
      have hnum : ∀ W, Calls Tryd.prog 39 #[.string (s.extract 1 (1 + fol c.toNat))] W fun e w' => e = .returned (.int .u64 (numL (t.take (fol c.toNat)) : Int)) ∧ W = w' := fun W => by
        have := refNumber_any (s.extract 1 (1 + fol c.toNat)) e2 W
        rwa [e1] at this
      have hsize : ∀ W, Calls Tryd.prog 38 #[.int .i64 (c.toNat : Int)] W fun e w' => e = .returned (.int .i64 ((1 + fol c.toNat : Nat) : Int)) ∧ W = w' := fun W => size_any c W
      obtain ⟨m, hm⟩ : ∃ m, m = numL (t.take (fol c.toNat)) := ⟨_, rfl⟩
      rw [← hm] at hvc hnum e4 e5 e6
      obtain ⟨vv, hvv⟩ : ∃ vv, vv = valN c.toNat m := ⟨_, rfl⟩
      rw [← hvv] at hvc e4 e5
      have hmb : c.toNat ≤ 249 → m < 65536 := fun h => by
        have h2 : 256 ^ fol c.toNat ≤ 256 ^ 2 := Nat.pow_le_pow_right (by decide) (by omega)
        omega
      have hm1 : c.toNat ≤ 240 → m = 0 := fun h => by
        have h2 : fol c.toNat = 0 := by omega
        rw [h2] at e6
        omega
      have hz8 : 1 + fol c.toNat ≤ 9 := by omega
      have hzs : 1 + fol c.toNat ≤ s.size := by omega
      obtain ⟨z, hz⟩ : ∃ z, 1 + fol c.toNat = z := ⟨_, rfl⟩
      rw [hz] at hnum hsize e4 hz8 hzs
      have hz1 : 1 ≤ z := by omega
      obtain ⟨S1, hS1⟩ : ∃ S1, s.extract 1 z = S1 := ⟨_, rfl⟩
      obtain ⟨S0, hS0⟩ : ∃ S0, s.extract 0 z = S0 := ⟨_, rfl⟩
      obtain ⟨S2, hS2⟩ : ∃ S2, s.extract z s.size = S2 := ⟨_, rfl⟩
      have hsl : ∀ W, (Instr.slice 9 (.string s) (some (.int .i64 1)) (some (.int .i64 (z : Int))) none).run Tryd.prog W = .ok (.string S1) W := fun W => by
        rw [run_slice_string (P := Tryd.prog) W 9 s .i64 .i64 1 z Tryd.underlying9 (by decide) (by omega) (by omega), ← hS1]
        rfl
      rw [hS1] at hnum
      rw [hS0] at e4
      have hgo : (GetOut s = .tuple #[.int .u64 0, .string s, .int .i64 21] ∧ ¬ (putB vv).toList = S0.toList) ∨ (GetOut s = .tuple #[.int .u64 (vv : Int), .string S2, .int .i64 0] ∧ putB vv = S0) := by
        rcases e4 with ⟨g1, g2⟩ | ⟨g1, g2⟩
        · left
          refine ⟨by unfold GetOut; rw [g1], fun e => g2 (ByteArray.ext (Array.ext' (by simpa [ByteArray.toList_eq] using e)))⟩
        · right
          refine ⟨?_, g2⟩
          unfold GetOut
          rw [g1]
          dsimp only
          rw [hS2]
      have hcase : (c.toNat ≤ 240 ∧ (c.toNat : Int) = vv) ∨ (240 < c.toNat ∧ c.toNat ≤ 248 ∧ m < 65536 ∧ 240 + 256 * ((c.toNat : Int) - 241) + m = vv) ∨ (c.toNat = 249 ∧ m < 65536 ∧ 2288 + (m : Int) = vv) ∨ (249 < c.toNat ∧ m = vv) := by omega
      have hput : ∀ (x : Int) W, x = vv → Calls Tryd.prog 24 #[.int .u64 x] W fun e w' => e = .returned (.string (putB vv)) ∧ Below W.heap.size W w' := fun x W hx => refPut_int x vv hx (by omega) W
      obtain ⟨PV, hPV⟩ : ∃ PV, PV = putB vv := ⟨_, rfl⟩
      rw [← hPV] at hgo hput
      have HNUM := Lib.hid hnum
      have HSIZE := Lib.hid hsize
      have HPUT := Lib.hid hput
      clear hl hsz hft e1 e2 e3 e4 e5 e6 h8 hvc hfc hnum hsize hm hvv hmb hm1 hz hput hPV
      have hbq : ¬ PV.toList = S0.toList → (PV.toList == S0.toList) = false := fun h => by simpa using h
      rcases hgo with ⟨hgo, hne2⟩ | ⟨hgo, rfl⟩
      all_goals first | (have hne3 := hbq hne2) | skip
      all_goals
        rw [hgo]
        clear hgo
        rcases hcase with ⟨hc1, hv⟩ | ⟨hc0, hc1, hm2, hv⟩ | ⟨hc1, hm2, hv⟩ | ⟨hc0, hv⟩
        all_goals first
          | (have hn9 : ((c.toNat : Int) == 249) = false := by
               have : ¬ (c.toNat : Int) = 249 := by omega
               simpa using this)
          | (have hs9 : ∀ W, Calls Tryd.prog 38 #[.int .i64 249] W fun e w' => e = .returned (.int .i64 (z : Int)) ∧ W = w' := fun W => by
               have h := HSIZE.out W
               rw [hc1] at h
               exact h
             replace HSIZE := Lib.hid hs9
             clear hs9)
        all_goals
          have HV := Lib.hid hv
          clear hv
          go_enter Tryd.func28, Tryd.ntmps28
          go_wp2_with fail
          with_reducible refine (HSIZE.out _).mono ?_
          rintro e w' ⟨rfl, rfl⟩
          go_wp2_with fail
          with_reducible refine (HSIZE.out _).mono ?_
          rintro e w' ⟨rfl, rfl⟩
          go_wp2_with fail
          with_reducible refine (HNUM.out _).mono ?_
          rintro e w' ⟨rfl, rfl⟩
          go_wp2_with fail
          refine region_class (BelC w) (by kernel_rfl) (by kernel_rfl) ((Below.refl _ _).drew) ?_
          intro hne0
          repeat (go_big_quiet_step ((go_at_call 24; refine (HPUT.out _ _ (by first | exact HV.out | (have := HV.out; omega))).mono ?_; rintro e w' ⟨rfl, hb⟩; exact ⟨rfl, ⟨_, BelC.on (InC.h _) hb⟩, rfl⟩)))
          refine wpQuiet_nil ?_
          clear hne0
          rintro ⟨w2, hw2⟩
          dsimp only
          go_wp2_with fail
          first
            | (go_ret3
               exact ⟨rfl, hw2⟩)
            | (go_quiet (fail)
               go_wp2_with fail
               go_ret3
               exact ⟨ret_u64 (by first | exact HV.out | (have := HV.out; omega)), bel_drewN hw2 _⟩)
end Go.Proofs.YthbfibnpfdegaaaDoor
