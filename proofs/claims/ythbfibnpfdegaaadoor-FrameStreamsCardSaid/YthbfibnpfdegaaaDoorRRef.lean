/- The page's own answers for layer 3: Check, four, Make. -/
import Derived.Test.YthbfibnpfdegaaaDoorRMath
import Derived.Test.YthbfibnpfdegaaaDoorFRefGet
namespace Go.Proofs.YthbfibnpfdegaaaDoor
open Go.RowKit

set_option maxHeartbeats 400000 in
set_option maxRecDepth 100000 in
theorem refCheck_any (s : ByteArray) (hs : s.size ≤ maxLen) (w : World) :
    Calls Tryd.prog 17 #[.string s] w fun e w' => e = .returned (.int .u32 (checkL s.data.toList : Int)) ∧ w = w' := by
  unfold maxLen at hs
  go_enter Tryd.func17, Tryd.ntmps17
  go_wp2_with fail
  go_loop [3, 4, 5] (fun a b i => ∃ k : Nat, k ≤ s.size ∧ i = .int .i64 k ∧ a = .int .u32 ((ckL (s.data.toList.take k)).1 : Int) ∧ b = .int .u32 ((ckL (s.data.toList.take k)).2 : Int)) (fun _ _ i => s.size - (intOf i).toNat)
  case atStart => exact ⟨0, Nat.zero_le _, rfl, rfl, rfl⟩
  case round =>
    obtain ⟨k, hk, rfl, rfl, rfl⟩ := hrel
    obtain ⟨ha, hb⟩ := ckL_lt (s.data.toList.take k)
    by_cases hlt : k < s.size
    · have hsn : ckL (s.data.toList.take (k + 1)) = ckP (ckL (s.data.toList.take k)) s[k] := by
        rw [List.take_succ_eq_append_getElem (by simpa using hlt), ckL_snoc]
        rfl
      obtain ⟨p, hp⟩ : ∃ p, p = ckL (s.data.toList.take k) := ⟨_, rfl⟩
      rw [← hp] at hsn ha hb ⊢
      obtain ⟨a, b⟩ := p
      dsimp only at ha hb ⊢
      have hc := s[k].toNat_lt
      have HS := Lib.hid hsn
      clear hsn hp
      go_wp2_with fail
      go_round
      case rel => exact ⟨k + 1, by omega, by go_num, by rw [HS.out]; go_num, by rw [HS.out]; go_num⟩
      case measure => simp [intOf]; omega
    · have hkk : s.data.toList.take k = s.data.toList := List.take_of_length_le (by simp; omega)
      have hv : (checkL s.data.toList : Int) = 65536 * ((ckL (s.data.toList.take k)).2 : Int) + ((ckL (s.data.toList.take k)).1 : Int) := by
        rw [hkk]
        unfold checkL
        omega
      clear hkk
      obtain ⟨p, hp⟩ : ∃ p, p = ckL (s.data.toList.take k) := ⟨_, rfl⟩
      rw [← hp] at ha hb hv ⊢
      clear hp
      obtain ⟨a, b⟩ := p
      dsimp only at ha hb hv ⊢
      have HV := Lib.hid hv
      clear hv
      go_wp2
      go_ret
      exact ⟨by rw [HV.out]; go_num, rfl⟩

theorem low4 (n : Nat) : lowL n 4 = [UInt8.ofNat (n / 16777216), UInt8.ofNat (n / 65536), UInt8.ofNat (n / 256), UInt8.ofNat n] := by simp [lowL]
theorem conv4 (w : World) (a b c d : UInt8) : (convert 37 9 (.slice (some ⟨w.heap.size, 0, none⟩) 4 4)).run Tryd.prog (w.alloc (.cells #[.int .u8 (a.toNat : Int), .int .u8 (b.toNat : Int), .int .u8 (c.toNat : Int), .int .u8 (d.toNat : Int)] 5)) =
    .ok (.string ⟨#[a, b, c, d]⟩) (w.alloc (.cells #[.int .u8 (a.toNat : Int), .int .u8 (b.toNat : Int), .int .u8 (c.toNat : Int), .int .u8 (d.toNat : Int)] 5)) :=
  run_convert_bytes_back (P := Tryd.prog) _ 37 9 5 ⟨w.heap.size, 0, none⟩ 4 [a, b, c, d] Tryd.underlying37 Tryd.underlying5 Tryd.underlying9
    (fun j hj => match j, hj with
      | 0, _ => World.cell?_alloc_at _ _ _ _ rfl
      | 1, _ => World.cell?_alloc_at _ _ _ _ rfl
      | 2, _ => World.cell?_alloc_at _ _ _ _ rfl
      | 3, _ => World.cell?_alloc_at _ _ _ _ rfl)
set_option maxRecDepth 100000 in
theorem refFour_any (n : Nat) (hn : n < 4294967296) (w : World) :
    Calls Tryd.prog 25 #[.int .u32 (n : Int)] w fun e w' => e = .returned (.string ⟨(lowL n 4).toArray⟩) ∧ Below w.heap.size w w' := by
  have e0 : (n : Int) % 256 = ((UInt8.ofNat n).toNat : Int) := by rw [UInt8.toNat_ofNat']; omega
  have e1 : (n : Int) / 256 % 256 = ((UInt8.ofNat (n / 256)).toNat : Int) := by rw [UInt8.toNat_ofNat']; omega
  have e2 : (n : Int) / 65536 % 256 = ((UInt8.ofNat (n / 65536)).toNat : Int) := by rw [UInt8.toNat_ofNat']; omega
  have e3 : (n : Int) / 16777216 = ((UInt8.ofNat (n / 16777216)).toNat : Int) := by rw [UInt8.toNat_ofNat']; omega
  have hcv := conv4 w (UInt8.ofNat (n / 16777216)) (UInt8.ofNat (n / 65536)) (UInt8.ofNat (n / 256)) (UInt8.ofNat n)
  rw [← e0, ← e1, ← e2, ← e3] at hcv
  rw [low4]
  obtain ⟨S, hS⟩ : ∃ S : ByteArray, S = ⟨#[UInt8.ofNat (n / 16777216), UInt8.ofNat (n / 65536), UInt8.ofNat (n / 256), UInt8.ofNat n]⟩ := ⟨_, rfl⟩
  have hg : (⟨[UInt8.ofNat (n / 16777216), UInt8.ofNat (n / 65536), UInt8.ofNat (n / 256), UInt8.ofNat n].toArray⟩ : ByteArray) = S := hS.symm
  rw [hg]
  rw [← hS] at hcv
  clear e0 e1 e2 e3 hS hg
  go_enter Tryd.func25, Tryd.ntmps25
  go_wp2_with fail
  go_ret
  exact ⟨rfl, (Below.refl _ _).alloc (Nat.le_refl _) _⟩

/-- A frame, of some bytes. -/
def frameB (s : ByteArray) : ByteArray := ⟨#[167]⟩ ++ putB s.size ++ s ++ ⟨(fourL s.data.toList).toArray⟩
theorem frameB_list (s : ByteArray) : (frameB s).data.toList = frameL s.data.toList := by
  unfold frameB frameL
  simp [ByteArray.data_append, putB]
/-- What Make answers. -/
def MakeOut (s : ByteArray) : Value := if s.size < 1 ∨ 2000 < s.size then .tuple #[.string { data := #[] }, .int .i64 30] else .tuple #[.string (frameB s), .int .i64 0]
set_option maxHeartbeats 400000 in
set_option maxRecDepth 100000 in
theorem refMake_any (s : ByteArray) (hs : s.size ≤ maxLen) (w : World) :
    Calls Tryd.prog 13 #[.string s] w fun e w' => e = .returned (MakeOut s) ∧ Below w.heap.size w w' := by
  unfold maxLen at hs
  by_cases h1 : s.size < 1
  · have ho : MakeOut s = .tuple #[.string { data := #[] }, .int .i64 30] := by unfold MakeOut; rw [if_pos (.inl h1)]
    rw [ho]
    clear ho
    go_enter Tryd.func13, Tryd.ntmps13
    go_wp2_with fail
    go_ret2
    exact ⟨rfl, Below.refl _ _⟩
  · by_cases h2 : 2000 < s.size
    · have ho : MakeOut s = .tuple #[.string { data := #[] }, .int .i64 30] := by unfold MakeOut; rw [if_pos (.inr h2)]
      rw [ho]
      clear ho
      go_enter Tryd.func13, Tryd.ntmps13
      go_wp2_with fail
      go_ret2
      exact ⟨rfl, Below.refl _ _⟩
    · have ho : MakeOut s = .tuple #[.string (frameB s), .int .i64 0] := by unfold MakeOut; rw [if_neg (by omega)]
      rw [ho]
      have hck := fun W => refCheck_any s (by unfold maxLen; omega) W
      have hfo := fun W => refFour_any (checkL s.data.toList) (checkL_lt _) W
      have hpt : ∀ (x : Int) W, x = s.size → Calls Tryd.prog 24 #[.int .u64 x] W fun e w' => e = .returned (.string (putB s.size)) ∧ Below W.heap.size W w' := fun x W hx => refPut_int x s.size hx (by omega) W
      have hp9 := putL_len9 s.size
      rw [← putB_size] at hp9
      have hf4 : (⟨(lowL (checkL s.data.toList) 4).toArray⟩ : ByteArray).size = 4 := by simp [ByteArray.size, lowL_length]
      unfold frameB fourL
      obtain ⟨c, hc⟩ : ∃ c, checkL s.data.toList = c := ⟨_, rfl⟩
      obtain ⟨P, hP⟩ : ∃ P, putB s.size = P := ⟨_, rfl⟩
      rw [hc] at hck hfo hf4 ⊢
      rw [hP] at hpt hp9 ⊢
      obtain ⟨Q, hQ⟩ : ∃ Q : ByteArray, ⟨(lowL c 4).toArray⟩ = Q := ⟨_, rfl⟩
      rw [hQ] at hfo hf4 ⊢
      have hf5 : Q.size ≤ 4 := by omega
      have HCK := Lib.hid hck
      have HFO := Lib.hid hfo
      have HPT := Lib.hid hpt
      clear hck hfo hpt hc hP hQ ho hf4 hs
      go_enter Tryd.func13, Tryd.ntmps13
      go_wp2_with fail
      with_reducible refine (HPT.out _ _ rfl).mono ?_
      rintro e w1 ⟨rfl, hb⟩
      go_wp2_with fail
      with_reducible refine (HCK.out _).mono ?_
      rintro e w2 ⟨rfl, rfl⟩
      go_wp2_with fail
      with_reducible refine (HFO.out _).mono ?_
      rintro e w3 ⟨rfl, hb3⟩
      go_wp2_with fail
      go_ret2
      exact ⟨rfl, hb.trans (hb3.mono hb.size)⟩
end Go.Proofs.YthbfibnpfdegaaaDoor
