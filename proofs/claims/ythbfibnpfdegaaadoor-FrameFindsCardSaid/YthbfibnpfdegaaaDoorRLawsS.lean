/- Layer 3's statements: FrameSizes. -/
import Derived.Test.YthbfibnpfdegaaaDoorRLawsB
import Derived.Laws.BitsAllLaws
namespace Go.Proofs.YthbfibnpfdegaaaDoor
open Go.RowKit

set_option maxHeartbeats 1000000 in
set_option maxRecDepth 100000 in
theorem sizes_walk {am af : Addr} {N : Nat} (s : ByteArray) (hs : s.size ≤ maxLen) (w : World) (hS : SentR am af N w) :
    Calls Tryd.prog 9 #[.string s] w fun e w' => e = .returned (.bool true) ∧ Below w.heap.size w w' := by
  obtain ⟨A, hA, -, hca⟩ := cutR_as s hs
  have HCA := Lib.hid hca
  clear hca hs
  have hlt := checkL_lt A.data.toList
  have hhv := check_halves A.data.toList
  have hl2 := ckL_lt A.data.toList
  have hck := fun W => check_any' A (by unfold maxLen; omega) W
  obtain ⟨c, hc⟩ : ∃ c, checkL A.data.toList = c := ⟨_, rfl⟩
  rw [hc] at hlt hhv hck
  have hc1 : c / 65536 < 65521 := by omega
  have hand : bits .and .u32 (c : Int) 65535 = ((c % 65536 : Nat) : Int) := by
    have := u32_and_nat c 65535 hlt (by decide)
    rwa [nat_mask16] at this
  have hc2 : c % 65536 < 65521 := by omega
  obtain ⟨lo, hlo⟩ : ∃ lo, c % 65536 = lo := ⟨_, rfl⟩
  rw [hlo] at hand hc2
  have hc3 : (c : Int) / 65536 < 65521 := by omega
  obtain ⟨y, hy⟩ : ∃ y : Int, (c : Int) = y := ⟨_, rfl⟩
  have hy0 : 0 ≤ y := by omega
  have hy1 : y < 4294967296 := by omega
  rw [hy] at hc3 hand
  obtain ⟨z, hz⟩ : ∃ z : Int, (lo : Int) = z := ⟨_, rfl⟩
  rw [hz] at hand
  have hz1 : z < 65521 := by omega
  have hck2 : ∀ W, Calls Tryd.prog 16 #[.string A] W fun e w' => e = .returned (.int .u32 y) ∧ Below W.heap.size W w' := fun W => by rw [← hy]; exact hck W
  have HCK := Lib.hid hck2
  clear hck hhv hl2 hc hlo hc1 hy hz hck2 hc2 hlt
  by_cases hbad : A.size < 1 ∨ 2000 < A.size
  · have HMK : Hid (∀ W, SentR am af N W → Calls Tryd.prog 11 #[.string A] W fun e w' => e = .returned (.tuple #[.string { data := #[] }, .int .i64 30]) ∧ Below W.heap.size W w') := fun W h => by rw [← make_no hbad]; exact make_any A (by unfold maxLen; omega) W h
    clear hbad hc3 hz1 hand
    go_enter Tryd.func9, Tryd.ntmps9
    go_wp2_with fail
    refine (shown_any _ hS).mono ?_
    rintro e w1 ⟨rfl, hbw⟩
    go_wp2_with fail
    with_reducible refine (HCA.out _).mono ?_
    rintro e w' ⟨rfl, rfl⟩
    go_wp2_with fail
    with_reducible refine (HMK.out _ (hS.on hbw)).mono ?_
    rintro e w' ⟨rfl, hb⟩
    replace hbw := hbw.trans (hb.mono hbw.size)
    clear hb
    go_wp2_with fail
    with_reducible refine (HCA.out _).mono ?_
    rintro e w' ⟨rfl, rfl⟩
    go_wp2_with fail
    with_reducible refine (HCK.out _).mono ?_
    rintro e w' ⟨rfl, hb⟩
    replace hbw := hbw.trans (hb.mono hbw.size)
    clear hb
    go_wp2_with fail
    go_ret
    exact ⟨rfl, hbw⟩
  · have h1 : 1 ≤ A.size := by omega
    have h2 : A.size ≤ 2000 := by omega
    have HMK : Hid (∀ W, SentR am af N W → Calls Tryd.prog 11 #[.string A] W fun e w' => e = .returned (.tuple #[.string (frameB A), .int .i64 0]) ∧ Below W.heap.size W w') := fun W h => by rw [← make_ok h1 h2]; exact make_any A (by unfold maxLen; omega) W h
    have hfb := frame_bytes A h2
    obtain ⟨P, hP⟩ : ∃ P, frameB A = P := ⟨_, rfl⟩
    rw [hP] at HMK hfb
    clear hbad hP h1
    by_cases h240 : 240 < A.size
    · rw [if_pos h240] at hfb
      have hfi : (P.size : Int) = A.size + 7 := by omega
      clear hfb
      go_enter Tryd.func9, Tryd.ntmps9
      go_wp2_with fail
      refine (shown_any _ hS).mono ?_
      rintro e w1 ⟨rfl, hbw⟩
      go_wp2_with fail
      with_reducible refine (HCA.out _).mono ?_
      rintro e w' ⟨rfl, rfl⟩
      go_wp2_with fail
      with_reducible refine (HMK.out _ (hS.on hbw)).mono ?_
      rintro e w' ⟨rfl, hb⟩
      replace hbw := hbw.trans (hb.mono hbw.size)
      clear hb
      go_wp2_with fail
      with_reducible refine (HCA.out _).mono ?_
      rintro e w' ⟨rfl, rfl⟩
      go_wp2_with fail
      with_reducible refine (HCK.out _).mono ?_
      rintro e w' ⟨rfl, hb⟩
      replace hbw := hbw.trans (hb.mono hbw.size)
      clear hb
      go_wp2_with fail
      with_reducible refine (HCA.out _).mono ?_
      rintro e w' ⟨rfl, rfl⟩
      go_wp2_with fail
      with_reducible refine (HCA.out _).mono ?_
      rintro e w' ⟨rfl, rfl⟩
      go_wp2_with fail
      go_ret
      exact ⟨rfl, hbw⟩
    · rw [if_neg h240] at hfb
      have hfi : (P.size : Int) = A.size + 6 := by omega
      clear hfb
      go_enter Tryd.func9, Tryd.ntmps9
      go_wp2_with fail
      refine (shown_any _ hS).mono ?_
      rintro e w1 ⟨rfl, hbw⟩
      go_wp2_with fail
      with_reducible refine (HCA.out _).mono ?_
      rintro e w' ⟨rfl, rfl⟩
      go_wp2_with fail
      with_reducible refine (HMK.out _ (hS.on hbw)).mono ?_
      rintro e w' ⟨rfl, hb⟩
      replace hbw := hbw.trans (hb.mono hbw.size)
      clear hb
      go_wp2_with fail
      with_reducible refine (HCA.out _).mono ?_
      rintro e w' ⟨rfl, rfl⟩
      go_wp2_with fail
      with_reducible refine (HCK.out _).mono ?_
      rintro e w' ⟨rfl, hb⟩
      replace hbw := hbw.trans (hb.mono hbw.size)
      clear hb
      go_wp2_with fail
      with_reducible refine (HCA.out _).mono ?_
      rintro e w' ⟨rfl, rfl⟩
      go_wp2_with fail
      with_reducible refine (HCA.out _).mono ?_
      rintro e w' ⟨rfl, rfl⟩
      go_wp2_with fail
      go_ret
      exact ⟨rfl, hbw⟩
end Go.Proofs.YthbfibnpfdegaaaDoor
