/- The page's own answers for layer 3: Read. -/
import Derived.Test.YthbfibnpfdegaaaDoorRRef
namespace Go.Proofs.YthbfibnpfdegaaaDoor
open Go.RowKit

/-- What Read answers. -/
def ReadOut (s : ByteArray) : Value := match readL s.data.toList with
  | .more => .tuple #[.string { data := #[] }, .string s, .int .i64 20]
  | .frame => .tuple #[.string { data := #[] }, .string s, .int .i64 30]
  | .check => .tuple #[.string { data := #[] }, .string s, .int .i64 31]
  | .ok a k => .tuple #[.string (s.extract a k), .string (s.extract (k + 4) s.size), .int .i64 0]

/-- What reading comes to behind the first byte. -/
theorem read_steps (s : ByteArray) (t : List UInt8) (hl : s.data.toList = 167 :: t) :
    (getL t = .more ∧ ReadOut s = .tuple #[.string { data := #[] }, .string s, .int .i64 20]) ∨
    (getL t = .bad ∧ ReadOut s = .tuple #[.string { data := #[] }, .string s, .int .i64 30]) ∨
    ∃ n k, getL t = .ok n k ∧ k ≤ t.length ∧ n < 18446744073709551616 ∧
      (((n < 1 ∨ 2000 < n) ∧ ReadOut s = .tuple #[.string { data := #[] }, .string s, .int .i64 30]) ∨
       (1 ≤ n ∧ n ≤ 2000 ∧ t.length < k + n + 4 ∧ ReadOut s = .tuple #[.string { data := #[] }, .string s, .int .i64 20]) ∨
       (1 ≤ n ∧ n ≤ 2000 ∧ k + n + 4 ≤ t.length ∧ fourL ((t.drop k).take n) ≠ (t.drop (k + n)).take 4 ∧ ReadOut s = .tuple #[.string { data := #[] }, .string s, .int .i64 31]) ∨
       (1 ≤ n ∧ n ≤ 2000 ∧ k + n + 4 ≤ t.length ∧ fourL ((t.drop k).take n) = (t.drop (k + n)).take 4 ∧ ReadOut s = .tuple #[.string (s.extract (1 + k) (1 + k + n)), .string (s.extract (1 + k + n + 4) s.size), .int .i64 0])) := by
  unfold ReadOut
  rw [hl]
  cases hg : getL t with
  | more => exact .inl ⟨rfl, by simp [readL, hg]⟩
  | bad => exact .inr (.inl ⟨rfl, by simp [readL, hg]⟩)
  | ok n k =>
    obtain ⟨h1, h2, h3, _, _⟩ := put_get hg
    refine .inr (.inr ⟨n, k, rfl, h3, h1, ?_⟩)
    by_cases a1 : n < 1 ∨ 2000 < n
    · exact .inl ⟨a1, by simp only [readL, hg, if_true]; rw [if_pos a1]⟩
    · by_cases a2 : t.length < k + n + 4
      · exact .inr (.inl ⟨by omega, by omega, a2, by simp only [readL, hg, if_true]; rw [if_neg a1, if_pos a2]⟩)
      · rw [read_cons hg (by omega) (by omega) (by omega)]
        by_cases a3 : fourL ((t.drop k).take n) = (t.drop (k + n)).take 4
        · exact .inr (.inr (.inr ⟨by omega, by omega, by omega, a3, by rw [if_pos a3]⟩))
        · exact .inr (.inr (.inl ⟨by omega, by omega, by omega, a3, by rw [if_neg a3]⟩))
theorem rg_val (s : ByteArray) (v : Value) (hv : GetOut s = v) (hs : s.size ≤ maxLen) (W : World) :
    Calls Tryd.prog 28 #[.string s] W fun e w' => e = .returned v ∧ Below W.heap.size W w' := by
  rw [← hv]
  exact refGet_any s hs W

set_option maxHeartbeats 1000000 in
set_option maxRecDepth 100000 in
theorem refRead_any (s : ByteArray) (hs : s.size ≤ maxLen) (w : World) :
    Calls Tryd.prog 15 #[.string s] w fun e w' => e = .returned (ReadOut s) ∧ Below w.heap.size w w' := by
  have hsm := hs
  unfold maxLen at hsm
  cases hl : s.data.toList with
  | nil =>
    have hs0 : s = { data := #[] } := by apply ba_list; rw [hl]
    subst hs0
    have ho : ReadOut { data := #[] } = .tuple #[.string { data := #[] }, .string { data := #[] }, .int .i64 20] := rfl
    rw [ho]
    clear hl hs ho hsm
    go_enter Tryd.func15, Tryd.ntmps15
    go_wp2_with fail
    go_ret3
    exact ⟨rfl, Below.refl _ _⟩
  | cons c t =>
    have hsz : s.size = t.length + 1 := by
      have := congrArg List.length hl
      simpa using this
    have hne : ¬ s.toList = [] := by rw [ByteArray.toList_eq, hl]; simp
    have hnb : s.toList.isEmpty = false := by rw [ByteArray.toList_eq, hl]; rfl
    have h0 : 0 < s.size := by omega
    have hc : s[0] = c := by
      have h1 : s.data.toList[0]'(by simpa using h0) = c := by simp [hl]
      exact h1
    by_cases h7 : c = 167
    · subst h7
      have hc7 : (s[0].toNat : Int) = 167 := by rw [hc]; rfl
      have e1 : (s.extract 1 s.size).data.toList = t := by rw [ext_list, List.take_of_length_le (by simp), hl]; rfl
      have hz1 : (s.extract 1 s.size).size = t.length := by simp; omega
      have hm1 : (s.extract 1 s.size).size ≤ maxLen := by unfold maxLen; omega
      rcases read_steps s t hl with ⟨hg, ho⟩ | ⟨hg, ho⟩ | ⟨n, k, hg, hkt, hn64, hrest⟩
      · have hgo : GetOut (s.extract 1 s.size) = .tuple #[.int .u64 0, .string (s.extract 1 s.size), .int .i64 20] := by unfold GetOut; rw [e1, hg]
        have HGET := Lib.hid (fun W => rg_val _ _ hgo hm1 W)
        rw [ho]
        clear hl hs ho hg hgo e1 hz1 hm1 hc hsz
        go_enter Tryd.func15, Tryd.ntmps15
        go_wp2_with fail
        with_reducible refine (HGET.out _).mono ?_
        rintro e w1 ⟨rfl, hb⟩
        go_wp2_with fail
        go_ret3
        exact ⟨rfl, hb⟩
      · have hgo : GetOut (s.extract 1 s.size) = .tuple #[.int .u64 0, .string (s.extract 1 s.size), .int .i64 21] := by unfold GetOut; rw [e1, hg]
        have HGET := Lib.hid (fun W => rg_val _ _ hgo hm1 W)
        rw [ho]
        clear hl hs ho hg hgo e1 hz1 hm1 hc hsz
        go_enter Tryd.func15, Tryd.ntmps15
        go_wp2_with fail
        with_reducible refine (HGET.out _).mono ?_
        rintro e w1 ⟨rfl, hb⟩
        go_wp2_with fail
        go_ret3
        exact ⟨rfl, hb⟩
      · have hgo : GetOut (s.extract 1 s.size) = .tuple #[.int .u64 (n : Int), .string ((s.extract 1 s.size).extract k (s.extract 1 s.size).size), .int .i64 0] := by unfold GetOut; rw [e1, hg]
        have hget := fun W => rg_val _ _ hgo hm1 W
        obtain ⟨R, hR⟩ : ∃ R, (s.extract 1 s.size).extract k (s.extract 1 s.size).size = R := ⟨_, rfl⟩
        have hRl : R.data.toList = t.drop k := by rw [← hR, ext_list, e1, List.take_of_length_le (by omega)]
        have hRz : R.size = t.length - k := by
          have := congrArg List.length hRl
          simpa using this
        rw [hR] at hget
        rcases hrest with ⟨hb1, ho⟩ | ⟨hn1, hn2, hlen, ho⟩ | ⟨hn1, hn2, hlen, hne4, ho⟩ | ⟨hn1, hn2, hlen, heq4, ho⟩
        · rw [ho]
          have HGET := Lib.hid hget
          clear hl hs ho hg hgo e1 hz1 hm1 hc hsz hget hR hRl hRz hkt
          rcases hb1 with hb1 | hb1
          all_goals
            go_enter Tryd.func15, Tryd.ntmps15
            go_wp2_with fail
            with_reducible refine (HGET.out _).mono ?_
            rintro e w1 ⟨rfl, hb⟩
            go_wp2_with fail
            go_ret3
            exact ⟨rfl, hb⟩
        · rw [ho]
          have HGET := Lib.hid hget
          have hRn : R.size < n + 4 := by omega
          clear hl hs ho hg hgo e1 hz1 hm1 hc hsz hget hR hRl hRz hkt hlen
          go_enter Tryd.func15, Tryd.ntmps15
          go_wp2_with fail
          with_reducible refine (HGET.out _).mono ?_
          rintro e w1 ⟨rfl, hb⟩
          go_wp2_with fail
          go_ret3
          exact ⟨rfl, hb⟩
        · have e2 : (R.extract 0 n).data.toList = (t.drop k).take n := by rw [ext_list, List.drop_zero, hRl]
          have e3 : (R.extract n (n + 4)).data.toList = (t.drop (k + n)).take 4 := by rw [ext_list, hRl, List.drop_take, List.drop_drop, Nat.add_sub_cancel_left]
          have hXz : (R.extract 0 n).size ≤ 2000 := by simp; omega
          have hRn : n + 4 ≤ R.size := by omega
          have hRm : R.size ≤ s.size := by omega
          rw [← e2, ← e3] at hne4
          obtain ⟨X, hX⟩ : ∃ X, R.extract 0 n = X := ⟨_, rfl⟩
          obtain ⟨Y, hY⟩ : ∃ Y, R.extract n (n + 4) = Y := ⟨_, rfl⟩
          rw [hX, hY] at hne4
          rw [hX] at hXz
          have hck := fun W => refCheck_any X (by unfold maxLen; omega) W
          have hfo := fun W => refFour_any (checkL X.data.toList) (checkL_lt _) W
          unfold fourL at hne4
          obtain ⟨c, hcc⟩ : ∃ c, checkL X.data.toList = c := ⟨_, rfl⟩
          rw [hcc] at hck hfo hne4
          obtain ⟨Q, hQ⟩ : ∃ Q : ByteArray, ⟨(lowL c 4).toArray⟩ = Q := ⟨_, rfl⟩
          rw [hQ] at hfo
          have hQl : Q.data.toList = lowL c 4 := by rw [← hQ]
          rw [← hQl] at hne4
          have hslX : ∀ W, (Instr.slice 9 (.string R) none (some (.int .u64 (n : Int))) none).run Tryd.prog W = .ok (.string X) W := fun W => by
            have := run_slice_string_h (P := Tryd.prog) W 9 R Tryd.underlying9 .u64 (n : Int) (by omega) (by omega)
            rw [this, ← hX]
            rfl
          have hslY : ∀ W, (Instr.slice 9 (.string R) (some (.int .u64 (n : Int))) (some (.int .u64 ((n : Int) + 4))) none).run Tryd.prog W = .ok (.string Y) W := fun W => by
            rw [run_slice_string (P := Tryd.prog) W 9 R .u64 .u64 n (n + 4) Tryd.underlying9 (by omega) (by omega) (by omega), ← hY]
            rfl
          have HGET := Lib.hid hget
          have HCK := Lib.hid hck
          have HFO := Lib.hid hfo
          rw [ho]
          have hneq : ¬ Q.toList = Y.toList := fun e => hne4 (by simpa [ByteArray.toList_eq] using e)
          have hneb : (Q.toList == Y.toList) = false := by simpa using hneq
          clear hl hs ho hg hgo e1 e2 e3 hz1 hm1 hc hsz hget hR hRl hRz hkt hlen hck hfo hcc hQ hQl hX hY hne4
          go_enter Tryd.func15, Tryd.ntmps15
          go_wp2_with fail
          with_reducible refine (HGET.out _).mono ?_
          rintro e w1 ⟨rfl, hb⟩
          go_wp2_with fail
          refine region_class (BelC w) (by kernel_rfl) (by kernel_rfl) hb.drew ?_
          intro hne0
          repeat (go_big_quiet_step ((first | (go_at_call 17; refine (HCK.out _).mono ?_; rintro e w' ⟨rfl, rfl⟩; exact ⟨rfl, ⟨_, InC.h _⟩, rfl⟩) | (go_at_call 25; refine (HFO.out _).mono ?_; rintro e w' ⟨rfl, hb⟩; exact ⟨rfl, ⟨_, BelC.on (InC.h _) hb⟩, rfl⟩))))
          refine wpQuiet_nil ?_
          clear hne0
          rintro ⟨w2, hw2⟩
          dsimp only
          go_wp2_with fail
          go_ret3
          exact ⟨rfl, hw2⟩
        · have e2 : (R.extract 0 n).data.toList = (t.drop k).take n := by rw [ext_list, List.drop_zero, hRl]
          have e3 : (R.extract n (n + 4)).data.toList = (t.drop (k + n)).take 4 := by rw [ext_list, hRl, List.drop_take, List.drop_drop, Nat.add_sub_cancel_left]
          have hXz : (R.extract 0 n).size ≤ 2000 := by simp; omega
          have hRn : n + 4 ≤ R.size := by omega
          have hRm : R.size ≤ s.size := by omega
          rw [← e2, ← e3] at heq4
          obtain ⟨X, hX⟩ : ∃ X, R.extract 0 n = X := ⟨_, rfl⟩
          obtain ⟨Y, hY⟩ : ∃ Y, R.extract n (n + 4) = Y := ⟨_, rfl⟩
          rw [hX, hY] at heq4
          rw [hX] at hXz
          have hck := fun W => refCheck_any X (by unfold maxLen; omega) W
          have hfo := fun W => refFour_any (checkL X.data.toList) (checkL_lt _) W
          unfold fourL at heq4
          obtain ⟨c, hcc⟩ : ∃ c, checkL X.data.toList = c := ⟨_, rfl⟩
          rw [hcc] at hck hfo heq4
          obtain ⟨Q, hQ⟩ : ∃ Q : ByteArray, ⟨(lowL c 4).toArray⟩ = Q := ⟨_, rfl⟩
          rw [hQ] at hfo
          have hQl : Q.data.toList = lowL c 4 := by rw [← hQ]
          rw [← hQl] at heq4
          have hslX : ∀ W, (Instr.slice 9 (.string R) none (some (.int .u64 (n : Int))) none).run Tryd.prog W = .ok (.string X) W := fun W => by
            have := run_slice_string_h (P := Tryd.prog) W 9 R Tryd.underlying9 .u64 (n : Int) (by omega) (by omega)
            rw [this, ← hX]
            rfl
          have hslY : ∀ W, (Instr.slice 9 (.string R) (some (.int .u64 (n : Int))) (some (.int .u64 ((n : Int) + 4))) none).run Tryd.prog W = .ok (.string Y) W := fun W => by
            rw [run_slice_string (P := Tryd.prog) W 9 R .u64 .u64 n (n + 4) Tryd.underlying9 (by omega) (by omega) (by omega), ← hY]
            rfl
          have HGET := Lib.hid hget
          have HCK := Lib.hid hck
          have HFO := Lib.hid hfo
          rw [ho]
          have hYQ : Y = Q := by apply ba_list; exact heq4.symm
          subst hYQ
          have e4 : s.extract (1 + k) (1 + k + n) = X := by
            rw [← hX]
            apply ba_list
            rw [ext_list, e2, hl, Nat.add_comm 1 k, Nat.add_right_comm, List.take_succ_cons, List.drop_succ_cons, List.drop_take, Nat.add_sub_cancel_left]
          have e5 : s.extract (1 + k + n + 4) s.size = R.extract (n + 4) R.size := by
            apply ba_list
            rw [ext_list, ext_list, hl, hRl, List.take_of_length_le (by simp; omega), List.take_of_length_le (by simp; omega), List.drop_drop, show 1 + k + n + 4 = (k + (n + 4)) + 1 by omega, List.drop_succ_cons]
          rw [e4, e5]
          clear hl hs ho hg hgo e1 e2 e3 e4 e5 hz1 hm1 hc hsz hget hR hRl hRz hkt hlen hck hfo hcc hQ hQl hX hY heq4
          go_enter Tryd.func15, Tryd.ntmps15
          go_wp2_with fail
          with_reducible refine (HGET.out _).mono ?_
          rintro e w1 ⟨rfl, hb⟩
          go_wp2_with fail
          refine region_class (BelC w) (by kernel_rfl) (by kernel_rfl) hb.drew ?_
          intro hne0
          repeat (go_big_quiet_step ((first | (go_at_call 17; refine (HCK.out _).mono ?_; rintro e w' ⟨rfl, rfl⟩; exact ⟨rfl, ⟨_, InC.h _⟩, rfl⟩) | (go_at_call 25; refine (HFO.out _).mono ?_; rintro e w' ⟨rfl, hb⟩; exact ⟨rfl, ⟨_, BelC.on (InC.h _) hb⟩, rfl⟩))))
          refine wpQuiet_nil ?_
          clear hne0
          rintro ⟨w2, hw2⟩
          dsimp only
          go_wp2_with fail
          go_quiet (fail)
          go_wp2_with fail
          go_ret3
          exact ⟨rfl, bel_drewN hw2 _⟩
    · have ho : ReadOut s = .tuple #[.string { data := #[] }, .string s, .int .i64 30] := by
        unfold ReadOut
        rw [hl]
        simp [readL, h7]
      have hc7 : (s[0].toNat : Int) ≠ 167 := by
        rw [hc]
        intro e
        exact h7 (UInt8.toNat.inj (by simpa using (by omega : c.toNat = 167)))
      have hc8 : ((s[0].toNat : Int) != 167) = true := by simpa using hc7
      rw [ho]
      clear hl hs ho h7 hc hsz
      go_enter Tryd.func15, Tryd.ntmps15
      go_wp2_with fail
      go_ret3
      exact ⟨rfl, Below.refl _ _⟩
end Go.Proofs.YthbfibnpfdegaaaDoor
