/- The page's own answers for layer 2: bytes of a number, the number of bytes, Put. -/
import Derived.Test.YthbfibnpfdegaaaDoorFPut
namespace Go.Proofs.YthbfibnpfdegaaaDoor
open Go.RowKit

/-- The k lowest bytes of a number. -/
def lowB (n k : Nat) : ByteArray := ⟨(lowL n k).toArray⟩
theorem lowB_size (n k : Nat) : (lowB n k).size = k := by simp [lowB, ByteArray.size, lowL_length]
theorem lowB_succ (n k : Nat) : (⟨#[UInt8.ofNat (n / 256 ^ k)]⟩ : ByteArray) ++ lowB n k = lowB n (k + 1) := by
  apply ByteArray.ext
  apply Array.ext'
  simp [lowB, lowL, ByteArray.data_append]

set_option maxHeartbeats 400000 in
set_option maxRecDepth 100000 in
theorem greatest_any (n K : Nat) (hK : K ≤ 8) (w : World) :
    Calls Tryd.prog 35 #[.int .u64 (n : Int), .int .i64 (K : Int)] w fun e w' => e = .returned (.string (lowB n K)) ∧ Below w.heap.size w w' := by
  go_enter Tryd.func35, Tryd.ntmps35
  go_wp2_with fail
  go_loopw [5, 6] (fun v i wr => ∃ k : Nat, k ≤ K ∧ i = .int .i64 k ∧ v = .string (lowB n k) ∧ Below w.heap.size w wr) (fun _ i _ => K - (intOf i).toNat)
  case atStart => exact ⟨0, Nat.zero_le _, rfl, rfl, Below.refl _ _⟩
  case round =>
    obtain ⟨k, hk, rfl, rfl, hbel⟩ := hrel
    by_cases hlt : k < K
    · have hls := lowB_size n k
      obtain ⟨L, hL⟩ : ∃ L, L = lowB n k := ⟨_, rfl⟩
      have HL := Lib.hid hL
      rw [← hL] at hls
      rw [← hL]
      have hls2 : L.size ≤ 8 := by omega
      have hcv := run_convert_bytes_back (P := Tryd.prog) (wr.alloc (.cells #[.int .u8 ((n : Int) / 2 ^ (8 * k) % 256)] 5)) 37 9 5 ⟨wr.heap.size, 0, none⟩ 1 [UInt8.ofNat (n / 256 ^ k)] Tryd.underlying37 Tryd.underlying5 Tryd.underlying9
        (fun j hj => by
          obtain rfl : j = 0 := by simpa using hj
          rw [byte_at]
          exact World.cell?_alloc_at _ _ _ _ rfl)
      have hsz1 : (⟨#[UInt8.ofNat (n / 256 ^ k)]⟩ : ByteArray).size = 1 := rfl
      obtain ⟨C, hC⟩ : ∃ C : ByteArray, C = ⟨#[UInt8.ofNat (n / 256 ^ k)]⟩ := ⟨_, rfl⟩
      have hcv2 : (convert 37 9 (.slice (some ⟨wr.heap.size, 0, none⟩) 1 1)).run Tryd.prog (wr.alloc (.cells #[.int .u8 ((n : Int) / 2 ^ (8 * k) % 256)] 5)) = .ok (.string C) (wr.alloc (.cells #[.int .u8 ((n : Int) / 2 ^ (8 * k) % 256)] 5)) := by rw [hC]; exact hcv
      rw [← hC] at hsz1
      have hcs : C.size ≤ 1 := by omega
      have hnext : C ++ L = lowB n (k + 1) := by rw [hC, hL]; exact lowB_succ n k
      have HN := Lib.hid hnext
      clear hL hls hcv hC hsz1 hnext
      have hb2 : Below w.heap.size w (wr.alloc (.cells #[.int .u8 ((n : Int) / 2 ^ (8 * k) % 256)] 5)) := hbel.alloc hbel.size _
      go_wp2_with fail
      go_roundw
      case rel => exact ⟨k + 1, by omega, by go_num, by rw [← HN.out], hb2⟩
      case measure => simp [intOf]; omega
    · obtain rfl : k = K := by omega
      go_wp2
      go_ret
      exact ⟨rfl, hbel⟩
theorem wrap_num (m c : Nat) (h : 256 * m + c < 18446744073709551616) : IntKind.u64.wrap (IntKind.u64.wrap (256 * (m : Int)) + IntKind.u64.wrap (c : Int)) = ((256 * m + c : Nat) : Int) := by
  have hw : ∀ x : Int, IntKind.u64.wrap x = x % 18446744073709551616 := fun x => rfl
  rw [hw, hw, hw]
  omega
theorem size_any (c : UInt8) (w : World) : Calls Tryd.prog 38 #[.int .i64 (c.toNat : Int)] w fun e w' => e = .returned (.int .i64 ((1 + fol c.toNat : Nat) : Int)) ∧ w = w' := by
  have hc := c.toNat_lt
  have hf := fol_cases c.toNat (by omega)
  generalize fol c.toNat = k at hf
  generalize c.toNat = m at hf hc
  by_cases h1 : m ≤ 240
  · obtain rfl : k = 0 := by omega
    clear hf
    go_enter Tryd.func38, Tryd.ntmps38
    go_wp2
    go_ret
    exact ⟨rfl, rfl⟩
  · by_cases h2 : m ≤ 248
    · obtain rfl : k = 1 := by omega
      clear hf
      go_enter Tryd.func38, Tryd.ntmps38
      go_wp2
      go_ret
      exact ⟨rfl, rfl⟩
    · have hk : ((1 + k : Nat) : Int) = (m : Int) - 246 := by omega
      rw [hk]
      clear hf hk
      go_enter Tryd.func38, Tryd.ntmps38
      go_wp2
      go_ret
      exact ⟨rfl, rfl⟩
set_option maxHeartbeats 400000 in
set_option maxRecDepth 100000 in
theorem refNumber_any (s : ByteArray) (hs : s.size ≤ 8) (w : World) :
    Calls Tryd.prog 39 #[.string s] w fun e w' => e = .returned (.int .u64 (numL s.data.toList : Int)) ∧ w = w' := by
  go_enter Tryd.func39, Tryd.ntmps39
  go_wp2_with fail
  go_loop [3, 4] (fun v i => ∃ k : Nat, k ≤ s.size ∧ i = .int .i64 k ∧ v = .int .u64 (numL (s.data.toList.take k) : Int)) (fun _ i => s.size - (intOf i).toNat)
  case atStart => exact ⟨0, Nat.zero_le _, rfl, rfl⟩
  case round =>
    obtain ⟨k, hk, rfl, rfl⟩ := hrel
    by_cases hlt : k < s.size
    · have hb := numL_lt (s.data.toList.take k)
      have hlk : (s.data.toList.take k).length = k := by simp; omega
      have hsn : numL (s.data.toList.take (k + 1)) = 256 * numL (s.data.toList.take k) + s[k].toNat := by
        rw [List.take_succ_eq_append_getElem (by simpa using hlt), numL_snoc]
        rfl
      have hb2 := numL_lt (s.data.toList.take (k + 1))
      have hlk2 : (s.data.toList.take (k + 1)).length = k + 1 := by simp; omega
      rw [hlk2] at hb2
      have hp : 256 ^ (k + 1) ≤ 256 ^ 8 := Nat.pow_le_pow_right (by decide) (by omega)
      have h8 : (256 ^ 8 : Nat) = 18446744073709551616 := by decide
      obtain ⟨m, hm⟩ : ∃ m, m = numL (s.data.toList.take k) := ⟨_, rfl⟩
      rw [← hm] at hsn ⊢
      have hle : 256 * m + s[k].toNat < 18446744073709551616 := by omega
      have HS := Lib.hid hsn
      have HLE := Lib.hid hle
      clear hsn hle hb hb2 hlk hlk2 hp h8 hm
      go_wp2_with fail
      go_round
      case rel => exact ⟨k + 1, by omega, by go_num, by rw [HS.out, wrap_num _ _ HLE.out]⟩
      case measure => simp [intOf]; omega
    · have hkk : s.data.toList.take k = s.data.toList := List.take_of_length_le (by simp; omega)
      rw [hkk]
      clear hkk
      go_wp2
      go_ret
      exact ⟨rfl, rfl⟩

theorem greatest_int (x : Int) (n K : Nat) (hx : x = n) (hK : K ≤ 8) (w : World) :
    Calls Tryd.prog 35 #[.int .u64 x, .int .i64 (K : Int)] w fun e w' => e = .returned (.string (lowB n K)) ∧ Below w.heap.size w w' := by
  subst hx
  exact greatest_any n K hK w
theorem put_low (n : Nat) : lowB (headN n) 1 ++ lowB (tailN n) (fol (headN n)) = putB n := by
  apply ByteArray.ext
  apply Array.ext'
  simp [lowB, lowL, putB, putL, spellL, ByteArray.data_append]
theorem put_low1 (n : Nat) (h : n ≤ 240) : lowB n 1 = putB n := by
  have h1 : headN n = n := by unfold headN; rw [if_pos h]
  have h2 : fol n = 0 := by unfold fol; rw [if_pos h]
  have := put_low n
  rw [h1, h2] at this
  rw [← this]
  apply ByteArray.ext
  apply Array.ext'
  simp [lowB, lowL, ByteArray.data_append]
theorem nb_step (n k : Nat) (hn : n ≤ 18446744073709551615) (h3 : 3 ≤ k) (hk : k ≤ nb n) : (k < nb n → k < 8 ∧ ¬ (n : Int) / 2 ^ (8 * k) = 0) ∧ (¬ k < nb n → ¬ k < 8 ∨ (n : Int) / 2 ^ (8 * k) = 0) := by
  have e3 : (2 : Int) ^ (8 * 3) = 16777216 := by decide
  have e4 : (2 : Int) ^ (8 * 4) = 4294967296 := by decide
  have e5 : (2 : Int) ^ (8 * 5) = 1099511627776 := by decide
  have e6 : (2 : Int) ^ (8 * 6) = 281474976710656 := by decide
  have e7 : (2 : Int) ^ (8 * 7) = 72057594037927936 := by decide
  have hnb : (nb n = 3 ∧ n < 16777216) ∨ (nb n = 4 ∧ 16777216 ≤ n ∧ n < 4294967296) ∨ (nb n = 5 ∧ 4294967296 ≤ n ∧ n < 1099511627776) ∨ (nb n = 6 ∧ 1099511627776 ≤ n ∧ n < 281474976710656) ∨ (nb n = 7 ∧ 281474976710656 ≤ n ∧ n < 72057594037927936) ∨ (nb n = 8 ∧ 72057594037927936 ≤ n) := by
    unfold nb
    by_cases a1 : n < 16777216
    · simp [a1]
    · by_cases a2 : n < 4294967296
      · simp [a1, a2]; omega
      · by_cases a3 : n < 1099511627776
        · simp [a1, a2, a3]; omega
        · by_cases a4 : n < 281474976710656
          · simp [a1, a2, a3, a4]; omega
          · by_cases a5 : n < 72057594037927936
            · simp [a1, a2, a3, a4, a5]; omega
            · simp [a1, a2, a3, a4, a5]; omega
  have hcase : k = 3 ∨ k = 4 ∨ k = 5 ∨ k = 6 ∨ k = 7 ∨ k = 8 := by omega
  rcases hcase with rfl | rfl | rfl | rfl | rfl | rfl
  · rw [e3]; omega
  · rw [e4]; omega
  · rw [e5]; omega
  · rw [e6]; omega
  · rw [e7]; omega
  · omega

set_option maxHeartbeats 1000000 in
set_option maxRecDepth 100000 in
theorem refPut_int (m : Int) (n : Nat) (hm : m = n) (hn : n ≤ 18446744073709551615) (w : World) :
    Calls Tryd.prog 24 #[.int .u64 m] w fun e w' => e = .returned (.string (putB n)) ∧ Below w.heap.size w w' := by
  have hh := head_cases n (by omega)
  have hf := fol_cases (headN n) (headN_le n)
  have hpl := put_low n
  have HM := Lib.hid hm
  have HN := Lib.hid hn
  by_cases h1 : m ≤ 240
  · have hp1 := put_low1 n (by omega)
    have HP := Lib.hid hp1
    have h0 : 0 ≤ m := by omega
    have hgx : ∀ W, Calls Tryd.prog 35 #[.int .u64 m, .int .i64 1] W fun e w' => e = .returned (.string (lowB n 1)) ∧ Below W.heap.size W w' := fun W => greatest_int m n 1 hm (by decide) W
    have HGX := Lib.hid hgx
    clear hh hf hpl hp1 hm hn hgx
    go_enter Tryd.func24, Tryd.ntmps24
    go_wp2_with fail
    with_reducible refine (HGX.out _).mono ?_
    rintro e w1 ⟨rfl, hb⟩
    go_wp2_with fail
    go_ret
    exact ⟨by rw [← HP.out]; rfl, hb⟩
  · by_cases h2 : m ≤ 2287
    · have ef : fol (headN n) = 1 := by omega
      rw [ef] at hpl
      have HP := Lib.hid hpl
      have HH := Lib.hid hh
      obtain ⟨X, hX⟩ : ∃ X, X = lowB (headN n) 1 := ⟨_, rfl⟩
      obtain ⟨Y, hY⟩ : ∃ Y, Y = lowB (tailN n) 1 := ⟨_, rfl⟩
      have hXs : X.size ≤ 1 := by rw [hX, lowB_size]; omega
      have hYs : Y.size ≤ 1 := by rw [hY, lowB_size]; omega
      have hgx : ∀ (x : Int) W, x = headN n → Calls Tryd.prog 35 #[.int .u64 x, .int .i64 1] W fun e w' => e = .returned (.string X) ∧ Below W.heap.size W w' := fun x W hx => by rw [hX]; exact greatest_int x _ 1 hx (by decide) W
      have hgy : ∀ (x : Int) W, x = tailN n → Calls Tryd.prog 35 #[.int .u64 x, .int .i64 1] W fun e w' => e = .returned (.string Y) ∧ Below W.heap.size W w' := fun x W hx => by rw [hY]; exact greatest_int x _ 1 hx (by decide) W
      have hxy : X ++ Y = putB n := by rw [hX, hY]; exact hpl
      have HGX := Lib.hid hgx
      have HGY := Lib.hid hgy
      have HXY := Lib.hid hxy
      have h0 : 240 < m := by omega
      clear hh hf hpl hm hn h1 ef hX hY hgx hgy hxy
      go_enter Tryd.func24, Tryd.ntmps24
      go_wp2_with fail
      with_reducible refine (HGX.out _ _ (by have := HM.out; have := HH.out; omega)).mono ?_
      rintro e w1 ⟨rfl, hb1⟩
      go_wp2_with fail
      with_reducible refine (HGY.out _ _ (by have := HM.out; have := HH.out; omega)).mono ?_
      rintro e w2 ⟨rfl, hb2⟩
      go_wp2_with fail
      go_ret
      exact ⟨by rw [← HXY.out]; rfl, hb1.trans (hb2.mono hb1.size)⟩
    · by_cases h3 : m ≤ 67823
      · have ef : fol (headN n) = 2 := by omega
        rw [ef] at hpl
        have HP := Lib.hid hpl
        have HH := Lib.hid hh
        obtain ⟨X, hX⟩ : ∃ X, X = lowB (headN n) 1 := ⟨_, rfl⟩
        obtain ⟨Y, hY⟩ : ∃ Y, Y = lowB (tailN n) 2 := ⟨_, rfl⟩
        have hXs : X.size ≤ 1 := by rw [hX, lowB_size]; omega
        have hYs : Y.size ≤ 2 := by rw [hY, lowB_size]; omega
        have hgx : ∀ (x : Int) W, x = headN n → Calls Tryd.prog 35 #[.int .u64 x, .int .i64 1] W fun e w' => e = .returned (.string X) ∧ Below W.heap.size W w' := fun x W hx => by rw [hX]; exact greatest_int x _ 1 hx (by decide) W
        have hgy : ∀ (x : Int) W, x = tailN n → Calls Tryd.prog 35 #[.int .u64 x, .int .i64 2] W fun e w' => e = .returned (.string Y) ∧ Below W.heap.size W w' := fun x W hx => by rw [hY]; exact greatest_int x _ 2 hx (by decide) W
        have hxy : X ++ Y = putB n := by rw [hX, hY]; exact hpl
        have HGX := Lib.hid hgx
        have HGY := Lib.hid hgy
        have HXY := Lib.hid hxy
        have h0 : 2288 ≤ m := by omega
        clear hh hf hpl hm hn h1 h2 ef hX hY hgx hgy hxy
        go_enter Tryd.func24, Tryd.ntmps24
        go_wp2_with fail
        with_reducible refine (HGX.out _ _ (by have := HM.out; have := HH.out; omega)).mono ?_
        rintro e w1 ⟨rfl, hb1⟩
        go_wp2_with fail
        with_reducible refine (HGY.out _ _ (by have := HM.out; have := HH.out; omega)).mono ?_
        rintro e w2 ⟨rfl, hb2⟩
        go_wp2_with fail
        go_ret
        exact ⟨by rw [← HXY.out]; rfl, hb1.trans (hb2.mono hb1.size)⟩
      · have hnb := bitLen_nb n (by omega) hn
        have eh : headN n = 247 + nb n := by unfold headN; rw [if_neg (by omega), if_neg (by omega), if_neg (by omega)]
        have ef : fol (headN n) = nb n := by omega
        have et : tailN n = n := by omega
        have hst : ∀ k, 3 ≤ k → k ≤ nb n → _ := fun k a b => nb_step n k hn a b
        have hnb3 : 3 ≤ nb n := by omega
        have hnb8 := hnb.2.2
        rw [ef, eh, et] at hpl
        obtain ⟨z, hz⟩ : ∃ z, z = nb n := ⟨_, rfl⟩
        rw [← hz] at hpl hst hnb3 hnb8
        obtain ⟨X, hX⟩ : ∃ X, X = lowB (247 + z) 1 := ⟨_, rfl⟩
        obtain ⟨Y, hY⟩ : ∃ Y, Y = lowB n z := ⟨_, rfl⟩
        have hXs : X.size ≤ 1 := by rw [hX, lowB_size]; omega
        have hYs : Y.size ≤ 8 := by rw [hY, lowB_size]; omega
        have hgx : ∀ (x : Int) W, x = ((247 + z : Nat) : Int) → Calls Tryd.prog 35 #[.int .u64 x, .int .i64 1] W fun e w' => e = .returned (.string X) ∧ Below W.heap.size W w' := fun x W hx => by rw [hX]; exact greatest_int x _ 1 hx (by decide) W
        have hgy : ∀ W, Calls Tryd.prog 35 #[.int .u64 m, .int .i64 (z : Int)] W fun e w' => e = .returned (.string Y) ∧ Below W.heap.size W w' := fun W => by rw [hY]; exact greatest_int m n z hm hnb8 W
        have hxy : X ++ Y = putB n := by rw [hX, hY]; exact hpl
        have HGX := Lib.hid hgx
        have HGY := Lib.hid hgy
        have HXY := Lib.hid hxy
        have HST := Lib.hid hst
        have h0 : 67824 ≤ m := by omega
        clear hh hf hpl hn h1 h2 h3 ef hX hY hgx hgy hxy hst eh et hnb hz hm
        go_enter Tryd.func24, Tryd.ntmps24
        go_wp2_with fail
        go_loop [3] (fun i => ∃ k : Nat, 3 ≤ k ∧ k ≤ z ∧ i = .int .i64 k) (fun i => z - (intOf i).toNat)
        case atStart => exact ⟨3, by omega, by omega, rfl⟩
        case round =>
          obtain ⟨k, hk3, hkz, rfl⟩ := hrel
          obtain ⟨s1, s2⟩ := HST.out k hk3 hkz
          rw [← HM.out] at s1 s2
          by_cases hlt : k < z
          · obtain ⟨a1, a2⟩ := s1 hlt
            clear s1 s2
            go_wp2_with fail
            go_round
            case rel => exact ⟨k + 1, by omega, by omega, by go_num⟩
            case measure => simp [intOf]; omega
          · obtain rfl : k = z := by omega
            have s3 : ¬ k < 8 ∨ (k < 8 ∧ (m / 2 ^ (8 * k) != 0) = false) := by
              by_cases h8 : k < 8
              · rcases s2 hlt with s3 | s3
                · exact absurd h8 s3
                · exact .inr ⟨h8, by simp [s3]⟩
              · exact .inl h8
            clear s1 s2
            rcases s3 with s3 | ⟨s3, s4⟩
            all_goals
              go_wp2_with fail
              with_reducible refine (HGX.out _ _ (by omega)).mono ?_
              rintro e w1 ⟨rfl, hb1⟩
              go_wp2_with fail
              with_reducible refine (HGY.out _).mono ?_
              rintro e w2 ⟨rfl, hb2⟩
              go_wp2_with fail
              go_ret
              exact ⟨by rw [← HXY.out]; rfl, hb1.trans (hb2.mono hb1.size)⟩
end Go.Proofs.YthbfibnpfdegaaaDoor
