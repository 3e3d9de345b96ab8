/- FieldOne: what it comes to. -/
import Derived.Test.YtbodkmeeceifoaaDoorFLawsO
namespace Go.Proofs.YtbodkmeeceifoaaDoor
open Go.RowKit Go.Lib

theorem least_val (a b : ByteArray) (r : Int) (h : compareBytes a.data.toList b.data.toList = r) (W : World) : Calls Tryd.prog 16 #[.string a, .string b] W fun e w' => e = .returned (.int .i64 r) ∧ W = w' := by
  have := least_any a b W
  rwa [h] at this
theorem cut_as (s : ByteArray) (hs : s.size ≤ maxLen) : ∃ A, A.size ≤ 3000 ∧ A = cutB s ∧ ∀ W, Calls Tryd.prog 12 #[.string s] W fun e w' => e = .returned (.string A) ∧ W = w' :=
  ⟨cutB s, cutB_size s, rfl, fun W => cut_any s hs W⟩
theorem ne_lists {a b : ByteArray} (h : a ≠ b) : ¬ a.toList = b.toList := fun e => h (ByteArray.ext (Array.ext' (by simpa [ByteArray.toList_eq] using e)))
theorem ne_beq {a b : ByteArray} (h : ¬ a.toList = b.toList) : (a.toList == b.toList) = false := by simpa using h
theorem app_list (a c : ByteArray) : (a ++ c).data.toList = a.data.toList ++ c.data.toList := by simp [ByteArray.data_append]

set_option maxHeartbeats 2000000 in
set_option maxRecDepth 100000 in
theorem one_walk {am af : Addr} {N : Nat} (s t u : ByteArray) (hs : s.size ≤ maxLen) (ht : t.size ≤ maxLen) (hu : u.size ≤ maxLen) (w : World) (hS : Sent am af N w) :
    Calls Tryd.prog 9 #[.string s, .string t, .string u] w fun e w' => e = .returned (.bool true) ∧ Below w.heap.size w w' := by
  obtain ⟨a, ha, -, hca⟩ := cut_as s hs
  obtain ⟨b, hb, -, hcb⟩ := cut_as t ht
  obtain ⟨c, hc, -, hcc⟩ := cut_as u hu
  have HCA := Lib.hid hca
  have HCB := Lib.hid hcb
  have HCC := Lib.hid hcc
  have hap := cmp_append a.data.toList c.data.toList
  rw [← app_list] at hap
  have hsw := cmp_swap a.data.toList b.data.toList
  have htr := cmp_trans a.data.toList b.data.toList c.data.toList
  obtain ⟨x, hx⟩ : ∃ x, compareBytes a.data.toList b.data.toList = x := ⟨_, rfl⟩
  obtain ⟨x', hx'⟩ : ∃ x, compareBytes b.data.toList a.data.toList = x := ⟨_, rfl⟩
  obtain ⟨y, hy⟩ : ∃ x, compareBytes b.data.toList c.data.toList = x := ⟨_, rfl⟩
  obtain ⟨z, hz⟩ : ∃ x, compareBytes a.data.toList c.data.toList = x := ⟨_, rfl⟩
  obtain ⟨v, hv⟩ : ∃ x, compareBytes a.data.toList (a ++ c).data.toList = x := ⟨_, rfl⟩
  have hxe := cmp_cases a.data.toList b.data.toList
  have hye := cmp_cases b.data.toList c.data.toList
  have hze := cmp_cases a.data.toList c.data.toList
  rw [hx, hx'] at hsw
  rw [hx, hy, hz] at htr
  rw [hv] at hap
  have hself := cmp_self a.data.toList
  have hcase : (x = 0 ∧ x' = 0 ∧ a = b) ∨ (x = 1 ∧ x' = -1 ∧ a ≠ b) ∨ (x = -1 ∧ x' = 1 ∧ a ≠ b ∧ (y = 0 ∨ y = 1)) ∨ (x = -1 ∧ x' = 1 ∧ a ≠ b ∧ y = -1 ∧ z = -1) := by
    rw [hx] at hxe
    rw [hy] at hye
    rw [hz] at hze
    have hne : x ≠ 0 → a ≠ b := fun h e => by rw [e] at hx hself; omega
    rcases hxe with h | ⟨h, e⟩ | h
    · have h1 := hne (by omega)
      rcases hye with h2 | ⟨h2, _⟩ | h2
      · have := htr (by omega) (by omega)
        refine .inr (.inr (.inr ⟨h, by omega, h1, h2, ?_⟩))
        rcases hze with h3 | ⟨h3, _⟩ | h3 <;> omega
      · exact .inr (.inr (.inl ⟨h, by omega, h1, .inl h2⟩))
      · exact .inr (.inr (.inl ⟨h, by omega, h1, .inr h2⟩))
    · exact .inl ⟨h, by omega, ByteArray.ext (Array.ext' e)⟩
    · exact .inr (.inl ⟨h, by omega, hne (by omega)⟩)
  have HX := Lib.hid hx
  have HX' := Lib.hid hx'
  have HY := Lib.hid hy
  have HZ := Lib.hid hz
  have HV := Lib.hid hv
  have hbq := ne_lists (a := a) (b := b)
  clear hca hcb hcc hx hx' hy hz hv hxe hye hze hsw htr hself hs ht hu
  rcases hcase with ⟨rfl, rfl, rfl⟩ | ⟨rfl, rfl, hab⟩ | ⟨rfl, rfl, hab, hy2⟩ | ⟨rfl, rfl, hab, rfl, rfl⟩
  all_goals first | (replace hab := hbq hab; have hab2 := ne_beq hab) | skip
  all_goals clear hbq
  · go_enter Tryd.func9, Tryd.ntmps9
    go_wp2_with fail
    refine (shown_any _ hS).mono ?_
    rintro e w1 ⟨rfl, hb1⟩
    go_wp2_with fail
    refine (HCA.out _).mono ?_
    rintro e w2 ⟨rfl, rfl⟩
    go_wp2_with fail
    refine (HCB.out _).mono ?_
    rintro e w2 ⟨rfl, rfl⟩
    go_wp2_with fail
    refine (HCC.out _).mono ?_
    rintro e w2 ⟨rfl, rfl⟩
    go_wp2_with fail
    refine (least_val a a _ HX.out _).mono ?_
    rintro e w2 ⟨rfl, rfl⟩
    go_wp2_with fail
    refine (least_val a c _ HY.out _).mono ?_
    rintro e w2 ⟨rfl, rfl⟩
    go_wp2_with fail
    refine (least_val a a _ HX'.out _).mono ?_
    rintro e w2 ⟨rfl, rfl⟩
    go_wp2_with fail
    refine (least_val a (a ++ c) _ HV.out _).mono ?_
    rintro e w2 ⟨rfl, rfl⟩
    go_wp2_with fail
    go_ret
    exact ⟨rfl, hb1⟩
  · go_enter Tryd.func9, Tryd.ntmps9
    go_wp2_with fail
    refine (shown_any _ hS).mono ?_
    rintro e w1 ⟨rfl, hb1⟩
    go_wp2_with fail
    refine (HCA.out _).mono ?_
    rintro e w2 ⟨rfl, rfl⟩
    go_wp2_with fail
    refine (HCB.out _).mono ?_
    rintro e w2 ⟨rfl, rfl⟩
    go_wp2_with fail
    refine (HCC.out _).mono ?_
    rintro e w2 ⟨rfl, rfl⟩
    go_wp2_with fail
    refine (least_val a b _ HX.out _).mono ?_
    rintro e w2 ⟨rfl, rfl⟩
    go_wp2_with fail
    refine (least_val b c _ HY.out _).mono ?_
    rintro e w2 ⟨rfl, rfl⟩
    go_wp2_with fail
    refine (least_val b a _ HX'.out _).mono ?_
    rintro e w2 ⟨rfl, rfl⟩
    go_wp2_with fail
    refine (least_val a (a ++ c) _ HV.out _).mono ?_
    rintro e w2 ⟨rfl, rfl⟩
    go_wp2_with fail
    go_ret
    exact ⟨rfl, hb1⟩
  · rcases hy2 with rfl | rfl
    all_goals
      go_enter Tryd.func9, Tryd.ntmps9
      go_wp2_with fail
      refine (shown_any _ hS).mono ?_
      rintro e w1 ⟨rfl, hb1⟩
      go_wp2_with fail
      refine (HCA.out _).mono ?_
      rintro e w2 ⟨rfl, rfl⟩
      go_wp2_with fail
      refine (HCB.out _).mono ?_
      rintro e w2 ⟨rfl, rfl⟩
      go_wp2_with fail
      refine (HCC.out _).mono ?_
      rintro e w2 ⟨rfl, rfl⟩
      go_wp2_with fail
      refine (least_val a b _ HX.out _).mono ?_
      rintro e w2 ⟨rfl, rfl⟩
      go_wp2_with fail
      refine (least_val b c _ HY.out _).mono ?_
      rintro e w2 ⟨rfl, rfl⟩
      go_wp2_with fail
      refine (least_val b a _ HX'.out _).mono ?_
      rintro e w2 ⟨rfl, rfl⟩
      go_wp2_with fail
      refine (least_val a (a ++ c) _ HV.out _).mono ?_
      rintro e w2 ⟨rfl, rfl⟩
      go_wp2_with fail
      go_ret
      exact ⟨rfl, hb1⟩
  · go_enter Tryd.func9, Tryd.ntmps9
    go_wp2_with fail
    refine (shown_any _ hS).mono ?_
    rintro e w1 ⟨rfl, hb1⟩
    go_wp2_with fail
    refine (HCA.out _).mono ?_
    rintro e w2 ⟨rfl, rfl⟩
    go_wp2_with fail
    refine (HCB.out _).mono ?_
    rintro e w2 ⟨rfl, rfl⟩
    go_wp2_with fail
    refine (HCC.out _).mono ?_
    rintro e w2 ⟨rfl, rfl⟩
    go_wp2_with fail
    refine (least_val a b _ HX.out _).mono ?_
    rintro e w2 ⟨rfl, rfl⟩
    go_wp2_with fail
    refine (least_val b c _ HY.out _).mono ?_
    rintro e w2 ⟨rfl, rfl⟩
    go_wp2_with fail
    refine (least_val b a _ HX'.out _).mono ?_
    rintro e w2 ⟨rfl, rfl⟩
    go_wp2_with fail
    refine (least_val a c _ HZ.out _).mono ?_
    rintro e w2 ⟨rfl, rfl⟩
    go_wp2_with fail
    refine (least_val a (a ++ c) _ HV.out _).mono ?_
    rintro e w2 ⟨rfl, rfl⟩
    go_wp2_with fail
    go_ret
    exact ⟨rfl, hb1⟩
end Go.Proofs.YtbodkmeeceifoaaDoor
