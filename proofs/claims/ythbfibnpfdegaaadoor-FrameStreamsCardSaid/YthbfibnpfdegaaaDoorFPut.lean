/- Package field: the bytes of a number (spell, Put). -/
import Derived.Test.YthbfibnpfdegaaaDoorFBase
import Derived.Laws.BytesArg
import Derived.Laws.IdiomStrings
import Derived.Lib.BufferRead
namespace Go.Proofs.YthbfibnpfdegaaaDoor
open Go.RowKit

theorem info5 : (Tryd.prog.info? 5).map (fun i => (i.zero, i.size, i.bytes)) = some (some (.int .u8 0), 1, 1) := by kernel_rfl

theorem take_low (n K i : Nat) (h : i < K) : (lowL n K).take (i + 1) = (lowL n K).take i ++ [UInt8.ofNat (n / 256 ^ (K - 1 - i))] := by
  induction K generalizing i with
  | zero => omega
  | succ K ih =>
    cases i with
    | zero => simp [lowL]
    | succ i =>
      rw [lowL, List.take_succ_cons, List.take_succ_cons, ih i (by omega)]
      simp
      congr 3
      omega
/-- A byte as a cell. -/
def bc (x : UInt8) : Value := .int .u8 (x.toNat : Int)
theorem bc_map (l : List UInt8) : Lib.byteCells l = l.map bc := rfl
theorem byte_at (n d : Nat) : Value.int .u8 ((n : Int) / 2 ^ (8 * d) % 256) = bc (UInt8.ofNat (n / 256 ^ d)) := by
  have e : ((2 : Int) ^ (8 * d)) = ((256 ^ d : Nat) : Int) := by rw [Int.pow_mul]; simp
  unfold bc
  rw [e, UInt8.toNat_ofNat', ← Int.natCast_ediv]
  simp
/-- A first byte, and those that follow it. -/
def spellB (c : UInt8) (n : Nat) : ByteArray := ⟨(c :: lowL n (fol c.toNat)).toArray⟩

set_option maxHeartbeats 1000000 in
theorem spell_any (c : UInt8) (n : Nat) (hn : n ≤ 18446744073709551615) (w : World) :
    Calls Tryd.prog 33 #[.int .u8 (c.toNat : Int), .int .u64 (n : Int)] w fun e w' => e = .returned (.string (spellB c n)) ∧ Below w.heap.size w w' := by
  have hf : fol c.toNat ≤ 8 := fol_le _ (by have := c.toNat_lt; omega)
  obtain ⟨i0, hi, hz0, hz1, hz2⟩ := info_parts info5
  obtain ⟨K, hK⟩ : ∃ K, K = fol c.toNat := ⟨_, rfl⟩
  have hfo : ∀ W, Calls Tryd.prog 42 #[.int .u8 (c.toNat : Int)] W fun e w' => e = .returned (.int .i64 (K : Int)) ∧ W = w' := fun W => by rw [hK]; exact follow_any c W
  have HF := Lib.hid hfo
  have HK := Lib.hid hK
  rw [← hK] at hf
  clear hfo hK
  have hct := c.toNat_lt
  have HN := Lib.hid hn
  clear hn
  go_enter Tryd.func33, Tryd.ntmps33
  go_wp2_with (go_at_call 42; refine (HF.out _).mono ?_; rintro e w' ⟨rfl, rfl⟩)
  go_loopw [6, 13] (fun v i wr => ∃ k : Nat, k ≤ K ∧ i = .int .i64 k ∧ wr.ownsRow w.heap.size 5 1 v (k + 1) ((c :: (lowL n K).take k).map bc) ∧ Below w.heap.size w wr)
    (fun _ i _ => K - (intOf i).toNat)
  case atStart =>
    refine ⟨0, Nat.zero_le _, rfl, ⟨by simp, .inr ⟨w.heap.size, 1, _, rfl, Nat.le_refl _, heap_alloc_new w _, Nat.le_refl _, by decide, rfl, rfl⟩⟩, (Below.refl _ _).alloc (Nat.le_refl _) _⟩
  case round =>
    obtain ⟨k, hk, rfl, hown, hbel⟩ := hrel
    by_cases hlt : k < K
    · go_wp2_with (at_builtin; refine wpList_append_own _ rfl _ _ 37 rfl w.heap.size 5 i0 (.int .u8 0) 1 1 Tryd.underlying37 hi hz0 hz1 hz2 rfl (by decide) _ _ _ rfl (hown.alloc _) ⟨wr.heap.size, 0, none⟩ 1 1 [bc (UInt8.ofNat (n / 256 ^ (K - 1 - k)))] rfl rfl ?c1 ?c2 ?c3 ?c4 ?c5 ?_)
      case c1 =>
        intro j u hj
        match j, hj with
        | 0, hj =>
          simp at hj
          subst hj
          simp [Addr.add]
          exact byte_at n (K - 1 - k)
      case c2 => intro u hu; simp at hu; subst hu; rfl
      case c3 => unfold maxLen; omega
      case c4 => omega
      case c5 => have := hbel.size; simp; omega
      intro v' w1 hown' hgrow _
      have hb1 : Below w.heap.size w w1 := (hbel.alloc hbel.size _).grown hgrow (by have := hbel.size; simp; omega) (fun k hk => (hown.lt k hk).1)
      have hown2 : w1.ownsRow w.heap.size 5 1 v' (k + 1 + 1) ((c :: (lowL n K).take (k + 1)).map bc) := by
        rw [take_low n K k hlt]
        simpa using hown'
      have HO := Lib.hid hown2
      clear hown hown' hown2 hgrow hbel
      go_wp2
      go_roundw
      case rel => exact ⟨k + 1, by omega, by go_num, HO.out, hb1⟩
      case measure => simp [intOf]; omega
    · obtain rfl : k = K := by omega
      have hle : (c :: lowL n k).length = k + 1 := by simp [lowL_length]
      rw [List.take_of_length_le (by rw [lowL_length]; omega)] at hown
      rcases hown.2 with ⟨_, h0⟩ | ⟨g, cap, cur, rfl, _, hg, _, _, _, htk⟩
      · omega
      · have hcv := run_convert_bytes_back (P := Tryd.prog) wr 37 9 5 ⟨g, 0, none⟩ cap (c :: lowL n k) Tryd.underlying37 Tryd.underlying5 Tryd.underlying9
          (Lib.bytes_of_row hg (by rw [hle, bc_map]; simpa using htk))
        rw [hle] at hcv
        clear hg htk hown hle
        go_wp2
        go_ret
        exact ⟨by rw [spellB, ← HK.out]; rfl, hbel⟩

/-- A number's bytes. -/
def putB (n : Nat) : ByteArray := ⟨(putL n).toArray⟩
theorem putB_list (n : Nat) : (putB n).data.toList = putL n := rfl
theorem putB_size (n : Nat) : (putB n).size = (putL n).length := by simp [putB, ByteArray.size]
theorem spell_put (n c m : Nat) (hc : headN n = c) (hm : tailN n = m) : spellB (UInt8.ofNat c) m = putB n := by
  have hh := headN_le n
  have e : (UInt8.ofNat (headN n)).toNat = headN n := by rw [UInt8.toNat_ofNat']; omega
  subst hc; subst hm
  rw [spellB, e]
  rfl
theorem spell_nat (c n : Nat) (hc : c ≤ 255) (hn : n ≤ 18446744073709551615) (w : World) :
    Calls Tryd.prog 33 #[.int .u8 (c : Int), .int .u64 (n : Int)] w fun e w' => e = .returned (.string (spellB (UInt8.ofNat c) n)) ∧ Below w.heap.size w w' := by
  have e : (UInt8.ofNat c).toNat = c := by rw [UInt8.toNat_ofNat']; omega
  have := spell_any (UInt8.ofNat c) n hn w
  rwa [e] at this

theorem bitLen_8 (x : Nat) (h0 : 1 ≤ x) (h : x ≤ 255) : 1 ≤ Lib.bitLen x ∧ Lib.bitLen x ≤ 8 := by
  have h1 := Lib.bitLen_le8 ⟨x, by omega⟩
  have h2 := Lib.bitLen_half x (by omega) (by omega)
  exact ⟨by omega, h1⟩
theorem bitLen_nb (n : Nat) (h : 67824 ≤ n) (hn : n ≤ 18446744073709551615) : (Lib.bitLen n + 7) / 8 = nb n ∧ Lib.bitLen n ≤ 64 ∧ nb n ≤ 8 := by
  unfold nb
  by_cases a1 : n < 16777216
  · have e := Lib.bitLen_shift16 n (by omega) (by omega)
    have b := bitLen_8 (n / 65536) (by omega) (by omega)
    simp only [a1, if_true]
    omega
  by_cases a2 : n < 4294967296
  · have e := Lib.bitLen_shift24 n (by omega) (by omega)
    have b := bitLen_8 (n / 16777216) (by omega) (by omega)
    simp only [a1, a2, if_true, if_false]
    omega
  by_cases a3 : n < 1099511627776
  · have e := Lib.bitLen_shift32 n (by omega) (by omega)
    have b := bitLen_8 (n / 4294967296) (by omega) (by omega)
    simp only [a1, a2, a3, if_true, if_false]
    omega
  by_cases a4 : n < 281474976710656
  · have e := Lib.bitLen_shift40 n (by omega) (by omega)
    have b := bitLen_8 (n / 1099511627776) (by omega) (by omega)
    simp only [a1, a2, a3, a4, if_true, if_false]
    omega
  by_cases a5 : n < 72057594037927936
  · have e := Lib.bitLen_shift48 n (by omega) (by omega)
    have b := bitLen_8 (n / 281474976710656) (by omega) (by omega)
    simp only [a1, a2, a3, a4, a5, if_true, if_false]
    omega
  · have e := Lib.bitLen_shift56 n (by omega) (by omega)
    have b := bitLen_8 (n / 72057594037927936) (by omega) (by omega)
    simp only [a1, a2, a3, a4, a5, if_false]
    omega

theorem spell_head (n : Nat) (c m : Int) (hn : n ≤ 18446744073709551615) (hc : c = headN n) (hm : m = tailN n) (w : World) :
    Calls Tryd.prog 33 #[.int .u8 c, .int .u64 m] w fun e w' => e = .returned (.string (putB n)) ∧ Below w.heap.size w w' := by
  subst hc; subst hm
  rw [← spell_put n _ _ rfl rfl]
  exact spell_nat _ _ (headN_le n) (by have := head_cases n (by omega); omega) w
set_option maxHeartbeats 1000000 in
set_option maxRecDepth 100000 in
theorem put_int (m : Int) (n : Nat) (hm : m = n) (hn : n ≤ 18446744073709551615) (w : World) :
    Calls Tryd.prog 22 #[.int .u64 m] w fun e w' => e = .returned (.string (putB n)) ∧ Below w.heap.size w w' := by
  have hh := head_cases n (by omega)
  have HH := Lib.hid hh
  have HN := Lib.hid hn
  have HM := Lib.hid hm
  by_cases h1 : m ≤ 240
  · have h0 : 0 ≤ m := by omega
    clear hh hn hm
    go_enter Tryd.func22, Tryd.ntmps22
    go_wp2_with (go_at_call 33; refine (spell_head n _ _ HN.out (by have := HM.out; have := HH.out; omega) (by have := HM.out; have := HH.out; omega) _).mono ?_; rintro e w1 ⟨rfl, hb⟩)
    go_ret
    exact ⟨rfl, hb⟩
  · by_cases h2 : m < 2288
    · have h0 : 240 < m := by omega
      clear hh hn hm h1
      go_enter Tryd.func22, Tryd.ntmps22
      go_wp2_with (go_at_call 33; refine (spell_head n _ _ HN.out (by have := HM.out; have := HH.out; omega) (by have := HM.out; have := HH.out; omega) _).mono ?_; rintro e w1 ⟨rfl, hb⟩)
      go_ret
      exact ⟨rfl, hb⟩
    · by_cases h3 : m < 67824
      · have h0 : 2288 ≤ m := by omega
        clear hh hn hm h1 h2
        go_enter Tryd.func22, Tryd.ntmps22
        go_wp2_with (go_at_call 33; refine (spell_head n _ _ HN.out (by have := HM.out; have := HH.out; omega) (by have := HM.out; have := HH.out; omega) _).mono ?_; rintro e w1 ⟨rfl, hb⟩)
        go_ret
        exact ⟨rfl, hb⟩
      · have hb := bitLen_nb n (by omega) hn
        have eh : headN n = 247 + nb n := by unfold headN; rw [if_neg (by omega), if_neg (by omega), if_neg (by omega)]
        have EH := Lib.hid eh
        have h0 : 67824 ≤ m := by omega
        have ht : m.toNat = n := by omega
        obtain ⟨l, hl⟩ : ∃ l, l = Lib.bitLen n := ⟨_, rfl⟩
        rw [← hl] at hb
        have hl64 := hb.2.1
        have HB := Lib.hid hb
        have hlen : ∀ W, Calls Tryd.prog 34 #[.int .u64 m] W fun e w' => e = .returned (.int .i64 (l : Int)) ∧ W = w' := fun W => by
          have := Tryd.bits_Len64 m W (by omega) (by omega)
          rw [ht, ← hl] at this
          exact this.mono fun e w' ⟨h1, h2⟩ => ⟨h1, h2.symm⟩
        have HL := Lib.hid hlen
        clear eh hh hn hm h1 h2 h3 hb ht hl hlen
        go_enter Tryd.func22, Tryd.ntmps22
        go_wp2_with fail
        refine (HL.out _).mono ?_
        rintro e w1 ⟨rfl, rfl⟩
        go_wp2_with fail
        refine (spell_head n _ _ HN.out (by have := EH.out; have := HB.out; omega) (by have := HM.out; have := HH.out; have := h0; omega) _).mono ?_
        rintro e w1 ⟨rfl, hb⟩
        go_wp2_with fail
        go_ret
        exact ⟨rfl, hb⟩
theorem put_any (n : Nat) (hn : n ≤ 18446744073709551615) (w : World) :
    Calls Tryd.prog 22 #[.int .u64 (n : Int)] w fun e w' => e = .returned (.string (putB n)) ∧ Below w.heap.size w w' := put_int n n rfl hn w
end Go.Proofs.YthbfibnpfdegaaaDoor
