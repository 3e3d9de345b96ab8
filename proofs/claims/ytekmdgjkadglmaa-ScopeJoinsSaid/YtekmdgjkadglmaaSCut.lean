/- strings.Cut at a separator of one byte, over this program. -/
import Derived.Test.YtekmdgjkadglmaaSJoin
import Derived.WalkKit
import Derived.Lib.Bytealg
import Derived.BigCall
import Derived.BigGuard
import Derived.Deep.Draws
import Derived.Laws.Strings3
namespace Go.Proofs.Ytekmdgjkadglmaa
open Go.RowKit

/-- Bytes, cut at the first of these. -/
def cutAt (b : UInt8) : List UInt8 → Option (List UInt8 × List UInt8)
  | [] => none
  | c :: t => if c = b then some ([], t) else (cutAt b t).map fun r => (c :: r.1, r.2)
theorem cutAt_eq : ∀ l : List UInt8, cutAt 61 l = cutEq l := by
  intro l
  induction l with
  | nil => rfl
  | cons c t ih => unfold cutAt cutEq; rw [ih]
theorem cutAt_idx (b : UInt8) : ∀ l : List UInt8, (cutAt b l = none ∧ Lib.indexByte l b = -1) ∨ ∃ i : Nat, Lib.indexByte l b = i ∧ i + 1 ≤ l.length ∧ cutAt b l = some (l.take i, l.drop (i + 1)) := by
  intro l
  induction l with
  | nil => exact .inl ⟨rfl, rfl⟩
  | cons c t ih =>
    unfold cutAt Lib.indexByte
    by_cases h : c = b
    · right
      refine ⟨0, by simp [h], by simp, by simp [h]⟩
    · have hb : (c == b) = false := by simp [h]
      rw [if_neg h, hb]
      rcases ih with ⟨h1, h2⟩ | ⟨i, h1, h2, h3⟩
      · left
        rw [h1, h2]
        exact ⟨rfl, rfl⟩
      · right
        refine ⟨i + 1, ?_, by simpa using h2, by rw [h3]; simp⟩
        rw [h1]
        have : ((i : Int) == -1) = false := by simp <;> omega
        simp [this]
def cutV (b : UInt8) (s : ByteArray) : ByteArray × ByteArray × Bool := match cutAt b s.data.toList with
  | some r => (⟨r.1.toArray⟩, ⟨r.2.toArray⟩, true)
  | none => (s, { data := #[] }, false)

set_option maxRecDepth 100000 in
theorem idxByte_any (s : ByteArray) (c : Int) (w : World) : Calls Try.prog 34 #[.string s, .int .u8 c] w fun e w' => e = .returned (.int .i64 (Lib.indexByte s.data.toList c.toNat.toUInt8)) ∧ w' = w := by
  go_enter Try.func34, Try.ntmps34
  go_wp2
  rw [run_callFunc_extern Try.func38 (by kernel_rfl) (by kernel_rfl) (by kernel_rfl) (e := Extern.BytealgIndexByte.indexByte) (by kernel_rfl), Lib.run_indexByteString]
  simp only [Result.andThen]
  rw [Oper.upon_value]
  go_wp2
  go_ret
  exact ⟨rfl, rfl⟩
set_option maxRecDepth 100000 in
theorem idx_any (s : ByteArray) (b : UInt8) (w : World) : Calls Try.prog 33 #[.string s, .string ⟨#[b]⟩] w fun e w' => e = .returned (.int .i64 (Lib.indexByte s.data.toList b)) ∧ w' = w := by
  have hb : (((b.toNat : Nat) : Int)).toNat.toUInt8 = b := by simp
  have I1 := Lib.hid (idxByte_any s ((b.toNat : Nat) : Int) w)
  rw [hb] at I1
  clear hb
  by_cases he : s = ⟨#[b]⟩
  · subst he
    have hv : Lib.indexByte (ByteArray.data ⟨#[b]⟩).toList b = 0 := by
      show Lib.indexByte [b] b = 0
      simp [Lib.indexByte]
    rw [hv]
    have HV := Lib.hid hv
    clear hv I1
    go_enter Try.func33, Try.ntmps33
    go_wp2
    go_ret
    exact ⟨rfl, rfl⟩
  · have hne := ba_ne (Ne.symm he)
    have hbl : (⟨#[b]⟩ : ByteArray).toList = [b] := by rw [ByteArray.toList_eq]
    rw [hbl] at hne
    clear he hbl
    go_enter Try.func33, Try.ntmps33
    go_wp2_with fail
    refine I1.out.mono ?_
    rintro e w2 ⟨rfl, rfl⟩
    go_wp2_with fail
    go_ret
    exact ⟨rfl, rfl⟩

set_option maxHeartbeats 1000000 in
set_option maxRecDepth 100000 in
theorem cutLite_any (s : ByteArray) (b : UInt8) (w : World) (hs : s.size ≤ 100000) : Calls Try.prog 32 #[.string s, .string ⟨#[b]⟩] w fun e w' => e = .returned (.tuple #[.string (cutV b s).1, .string (cutV b s).2.1, .bool (cutV b s).2.2]) ∧ Below w.heap.size w w' := by
  have I1 := Lib.hid (idx_any s b w)
  rcases cutAt_idx b s.data.toList with ⟨h1, h2⟩ | ⟨i, h1, h2, h3⟩
  · have hv : cutV b s = (s, { data := #[] }, false) := by unfold cutV; rw [h1]
    rw [hv]
    rw [h2] at I1
    clear h1 h2 hv
    go_enter Try.func32, Try.ntmps32
    go_wp2_with fail
    with_reducible refine I1.out.mono ?_
    rintro e w2 ⟨rfl, rfl⟩
    go_wp2_with fail
    go_ret3
    exact ⟨rfl, Below.refl _ _⟩
  · rw [lenL] at h2
    have e1 : (⟨(s.data.toList.take i).toArray⟩ : ByteArray) = s.extract 0 i := baL (by rw [extL, List.drop_zero])
    have e2 : (⟨(s.data.toList.drop (i + 1)).toArray⟩ : ByteArray) = s.extract (i + 1) s.size := baL (by rw [extL, List.take_of_length_le (by rw [lenL]; exact Nat.le_refl _)])
    have hv : cutV b s = (s.extract 0 i, s.extract (i + 1) s.size, true) := by unfold cutV; rw [h3]; dsimp only; rw [e1, e2]
    rw [hv]
    rw [h1] at I1
    have c1 : (0 : Int) ≤ (i : Int) := by omega
    have c2 : (i : Int) ≤ (s.size : Int) := by omega
    have c3 : (0 : Int) ≤ (i : Int) + 1 := by omega
    have c4 : (i : Int) + 1 ≤ (s.size : Int) := by omega
    clear h1 h3 e1 e2 hv
    go_enter Try.func32, Try.ntmps32
    go_wp2_with fail
    with_reducible refine I1.out.mono ?_
    rintro e w2 ⟨rfl, rfl⟩
    go_wp2_with fail
    go_region
    go_wp2
    go_ret3
    exact ⟨rfl, (Below.refl _ _).drew⟩
set_option maxRecDepth 100000 in
theorem cut_any (s : ByteArray) (b : UInt8) (w : World) (hs : s.size ≤ 100000) : Calls Try.prog 30 #[.string s, .string ⟨#[b]⟩] w fun e w' => e = .returned (.tuple #[.string (cutV b s).1, .string (cutV b s).2.1, .bool (cutV b s).2.2]) ∧ Below w.heap.size w w' := by
  have C1 := Lib.hid (cutLite_any s b w hs)
  obtain ⟨x, hx⟩ : ∃ x, x = cutV b s := ⟨_, rfl⟩
  rw [← hx] at C1 ⊢
  clear hx
  go_enter Try.func30, Try.ntmps30
  go_wp2_with fail
  with_reducible refine C1.out.mono ?_
  rintro e w2 ⟨rfl, hb⟩
  go_wp2_with fail
  go_ret3
  exact ⟨rfl, hb⟩
end Go.Proofs.Ytekmdgjkadglmaa
