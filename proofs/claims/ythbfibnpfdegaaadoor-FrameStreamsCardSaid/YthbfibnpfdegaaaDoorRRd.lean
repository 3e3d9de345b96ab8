/- Package frame: head, read, Read; the number of an error. -/
import Derived.Test.YthbfibnpfdegaaaDoorRMake
import Derived.ScopeJumps
import Derived.WalkMore
namespace Go.Proofs.YthbfibnpfdegaaaDoor
open Go.RowKit

/-- A scope out of which the run goes by one jump forward: what is behind the label is walked where the jump stands. -/
theorem wp_scope_out {P : Program} {a : Act} {w : World} {Q : Exit → Act → World → Prop} {c rest : Code} (l : Nat) (hf : findLabel c l = some rest)
    (h : c.wp P (Exit.jump l (fun a w => rest.wp P (Exit.noGoto Q) a w) Q) a w) : (Code.scope c).wp P Q a w :=
  wp_scope_jumps l (fun a w => rest.wp P (Exit.noGoto Q) a w) (fun _ _ => 0) hf h (fun _ _ hJ => Code.wp_mono (fun e a w q => by
    cases e with
    | goto l' => exact q.elim
    | normal => exact q
    | exit id => exact q
    | ret => exact q
    | panic ch => exact q
    | outgrown => exact q) hJ)
section
variable {Q : Exit → Act → World → Prop} {J : Act → World → Prop} {l : Nat} {a : Act} {w : World}
@[local go_sem] theorem jmp_normal : Exit.jump l J Q .normal a w = Q .normal a w := rfl
@[local go_sem] theorem jmp_exit (id : Nat) : Exit.jump l J Q (.exit id) a w = Q (.exit id) a w := rfl
@[local go_sem] theorem jmp_ret : Exit.jump l J Q .ret a w = Q .ret a w := rfl
@[local go_sem] theorem jmp_panic (ch : List PanicEntry) : Exit.jump l J Q (.panic ch) a w = Q (.panic ch) a w := rfl
theorem jmp_goto (h : J a w) : Exit.jump l J Q (.goto l) a w := ⟨rfl, h⟩
end

/-- A fault, as an error. -/
def faultV (e : Int) : Value := .iface 72 (.agg #[.int .i64 e])
/-- What head answers. -/
def HeadOut (s : ByteArray) : Value := match s.data.toList with
  | [] => .tuple #[.int .i64 0, .string { data := #[] }, faultV 20]
  | c :: t => if c = 167 then (match getL t with
    | .more => .tuple #[.int .i64 0, .string { data := #[] }, faultV 20]
    | .bad => .tuple #[.int .i64 0, .string { data := #[] }, faultV 30]
    | .ok n k => if n < 1 ∨ 2000 < n then .tuple #[.int .i64 0, .string { data := #[] }, faultV 30] else .tuple #[.int .i64 (n : Int), .string ((s.extract 1 s.size).extract k (s.extract 1 s.size).size), .nilIface])
    else .tuple #[.int .i64 0, .string { data := #[] }, faultV 30]
theorem get_val {am af : Addr} {N : Nat} (s : ByteArray) (v : Value) (hv : GetOut s = v) (hs : s.size ≤ maxLen) (W : World) (hS : Sent am af N W) :
    Calls Tryd.prog 43 #[.string s] W fun e w' => e = .returned v ∧ Below W.heap.size W w' := by
  rw [← hv]
  exact get_any s hs W hS

set_option maxHeartbeats 1000000 in
set_option maxRecDepth 100000 in
theorem head_any {am af : Addr} {N : Nat} (s : ByteArray) (hs : s.size ≤ maxLen) (w : World) (hS : SentR am af N w) :
    Calls Tryd.prog 36 #[.string s] w fun e w' => e = .returned (HeadOut s) ∧ Below w.heap.size w w' := by
  have hsm := hs
  unfold maxLen at hsm
  cases hl : s.data.toList with
  | nil =>
    have hs0 : s = { data := #[] } := by apply ba_list; rw [hl]
    subst hs0
    have ho : HeadOut { data := #[] } = .tuple #[.int .i64 0, .string { data := #[] }, faultV 20] := rfl
    rw [ho]
    clear hl hs ho hsm
    go_enter Tryd.func36, Tryd.ntmps36
    go_wp2_with fail
    go_ret3
    exact ⟨rfl, Below.refl _ _⟩
  | cons c t =>
    have hsz : s.size = t.length + 1 := by
      have := congrArg List.length hl
      simpa using this
    have hne : ¬ s.toList = [] := by rw [ByteArray.toList_eq, hl]; simp
    have hnb : s.toList.isEmpty = false := by rw [ByteArray.toList_eq, hl]; rfl
    have h0 : 0 < s.size := by omega
    have hc : s[0] = c := by
      have h1 : s.data.toList[0]'(by simpa using h0) = c := by simp [hl]
      exact h1
    have ho := show HeadOut s = _ by unfold HeadOut; rw [hl]
    dsimp only at ho
    by_cases h7 : c = 167
    · subst h7
      rw [if_pos rfl] at ho
      have hc7 : (s[0].toNat : Int) = 167 := by rw [hc]; rfl
      have e1 : (s.extract 1 s.size).data.toList = t := by rw [ext_list, List.take_of_length_le (by simp), hl]; rfl
      have hm1 : (s.extract 1 s.size).size ≤ maxLen := by unfold maxLen; simp; omega
      cases hg : getL t with
      | more =>
        rw [hg] at ho
        dsimp only at ho
        have hgo : GetOut (s.extract 1 s.size) = .tuple #[.int .u64 0, .string (s.extract 1 s.size), .int .i64 20] := by unfold GetOut; rw [e1, hg]
        have HGET := Lib.hid (fun W (h : Sent am af N W) => get_val _ _ hgo hm1 W h)
        rw [ho]
        clear hl hs ho hg hgo e1 hm1 hc hsz
        go_enter Tryd.func36, Tryd.ntmps36
        go_wp2_with fail
        with_reducible refine (HGET.out _ hS.sent).mono ?_
        rintro e w1 ⟨rfl, hb⟩
        go_wp2_with fail
        go_ret3
        exact ⟨rfl, hb⟩
      | bad =>
        rw [hg] at ho
        dsimp only at ho
        have hgo : GetOut (s.extract 1 s.size) = .tuple #[.int .u64 0, .string (s.extract 1 s.size), .int .i64 21] := by unfold GetOut; rw [e1, hg]
        have HGET := Lib.hid (fun W (h : Sent am af N W) => get_val _ _ hgo hm1 W h)
        rw [ho]
        clear hl hs ho hg hgo e1 hm1 hc hsz
        go_enter Tryd.func36, Tryd.ntmps36
        go_wp2_with fail
        with_reducible refine (HGET.out _ hS.sent).mono ?_
        rintro e w1 ⟨rfl, hb⟩
        go_wp2_with fail
        go_ret3
        exact ⟨rfl, hb⟩
      | ok n k =>
        rw [hg] at ho
        dsimp only at ho
        obtain ⟨hn64, _, hkt, _, _⟩ := put_get hg
        have hgo : GetOut (s.extract 1 s.size) = .tuple #[.int .u64 (n : Int), .string ((s.extract 1 s.size).extract k (s.extract 1 s.size).size), .int .i64 0] := by unfold GetOut; rw [e1, hg]
        have hget := fun W (h : Sent am af N W) => get_val _ _ hgo hm1 W h
        obtain ⟨R, hR⟩ : ∃ R, (s.extract 1 s.size).extract k (s.extract 1 s.size).size = R := ⟨_, rfl⟩
        rw [hR] at hget ho
        have HGET := Lib.hid hget
        by_cases hb1 : n < 1 ∨ 2000 < n
        · rw [if_pos hb1] at ho
          rw [ho]
          clear hl hs ho hg hgo e1 hm1 hc hsz hget hR
          rcases hb1 with hb1 | hb1
          all_goals
            go_enter Tryd.func36, Tryd.ntmps36
            go_wp2_with fail
            with_reducible refine (HGET.out _ hS.sent).mono ?_
            rintro e w1 ⟨rfl, hb⟩
            go_wp2_with fail
            go_ret3
            exact ⟨rfl, hb⟩
        · rw [if_neg hb1] at ho
          rw [ho]
          clear hl hs ho hg hgo e1 hm1 hc hsz hget hR
          go_enter Tryd.func36, Tryd.ntmps36
          go_wp2_with fail
          with_reducible refine (HGET.out _ hS.sent).mono ?_
          rintro e w1 ⟨rfl, hb⟩
          go_wp2_with fail
          go_ret3
          exact ⟨rfl, hb⟩
    · rw [if_neg h7] at ho
      have hc7 : ¬ (s[0].toNat : Int) = 167 := fun e => h7 (by rw [← hc]; exact UInt8.toNat_inj.1 (by have : (167 : UInt8).toNat = 167 := rfl; omega))
      rw [ho]
      clear hl hs ho hc hsz
      go_enter Tryd.func36, Tryd.ntmps36
      go_wp2_with fail
      go_ret3
      exact ⟨rfl, Below.refl _ _⟩
/-- What read answers. -/
def RdOut (s : ByteArray) : Value := match readL s.data.toList with
  | .more => .tuple #[.agg #[.string { data := #[] }, .string s], faultV 20]
  | .frame => .tuple #[.agg #[.string { data := #[] }, .string s], faultV 30]
  | .check => .tuple #[.agg #[.string { data := #[] }, .string s], faultV 31]
  | .ok a k => .tuple #[.agg #[.string (s.extract a k), .string (s.extract (k + 4) s.size)], .nilIface]

/-- What head comes to, and what read comes to behind it. -/
theorem head_steps (s : ByteArray) :
    (HeadOut s = .tuple #[.int .i64 0, .string { data := #[] }, faultV 20] ∧ RdOut s = .tuple #[.agg #[.string { data := #[] }, .string s], faultV 20]) ∨
    (HeadOut s = .tuple #[.int .i64 0, .string { data := #[] }, faultV 30] ∧ RdOut s = .tuple #[.agg #[.string { data := #[] }, .string s], faultV 30]) ∨
    ∃ (n : Nat) (R : ByteArray), HeadOut s = .tuple #[.int .i64 (n : Int), .string R, .nilIface] ∧ 1 ≤ n ∧ n ≤ 2000 ∧ R.size ≤ s.size ∧
      ((R.size < n + 4 ∧ RdOut s = .tuple #[.agg #[.string { data := #[] }, .string s], faultV 20]) ∨
       (n + 4 ≤ R.size ∧ fourL (R.extract 0 n).data.toList ≠ (R.extract n (n + 4)).data.toList ∧ RdOut s = .tuple #[.agg #[.string { data := #[] }, .string s], faultV 31]) ∨
       (n + 4 ≤ R.size ∧ fourL (R.extract 0 n).data.toList = (R.extract n (n + 4)).data.toList ∧ RdOut s = .tuple #[.agg #[.string (R.extract 0 n), .string (R.extract (n + 4) R.size)], .nilIface])) := by
  unfold HeadOut RdOut
  cases hl : s.data.toList with
  | nil => exact .inl ⟨rfl, by simp [readL]⟩
  | cons c t =>
    by_cases h7 : c = 167
    · subst h7
      have hsz : s.size = t.length + 1 := by
        have := congrArg List.length hl
        simpa using this
      have e1 : (s.extract 1 s.size).data.toList = t := by rw [ext_list, List.take_of_length_le (by simp), hl]; rfl
      cases hg : getL t with
      | more => exact .inl ⟨by simp only [if_true, hg], by simp [readL, hg]⟩
      | bad => exact .inr (.inl ⟨by simp only [if_true, hg], by simp [readL, hg]⟩)
      | ok n k =>
        obtain ⟨h1, h2, h3, _, _⟩ := put_get hg
        by_cases a1 : n < 1 ∨ 2000 < n
        · exact .inr (.inl ⟨by simp only [if_true, hg]; rw [if_pos a1], by simp only [readL, hg, if_true]; rw [if_pos a1]⟩)
        · obtain ⟨R, hR⟩ : ∃ R, (s.extract 1 s.size).extract k (s.extract 1 s.size).size = R := ⟨_, rfl⟩
          have hRl : R.data.toList = t.drop k := by rw [← hR, ext_list, e1, List.take_of_length_le (by simp; omega)]
          have hRz : R.size = t.length - k := by
            have := congrArg List.length hRl
            simpa using this
          have hRs : R = s.extract (1 + k) s.size := by
            apply ba_list
            rw [hRl, ext_list, List.take_of_length_le (by simp), hl, Nat.add_comm 1 k, List.drop_succ_cons]
          have e2 : (R.extract 0 n).data.toList = (t.drop k).take n := by rw [ext_list, List.drop_zero, hRl]
          have e3 : (R.extract n (n + 4)).data.toList = (t.drop (k + n)).take 4 := by rw [ext_list, hRl, List.drop_take, List.drop_drop, Nat.add_sub_cancel_left]
          refine .inr (.inr ⟨n, R, by simp only [if_true, hg]; rw [if_neg a1, hR], by omega, by omega, by omega, ?_⟩)
          rw [e2, e3]
          by_cases a2 : t.length < k + n + 4
          · exact .inl ⟨by omega, by simp only [readL, hg, if_true]; rw [if_neg a1, if_pos a2]⟩
          · have hrc := read_cons hg (by omega) (by omega) (by omega)
            rw [hrc]
            by_cases a3 : fourL ((t.drop k).take n) = (t.drop (k + n)).take 4
            · refine .inr (.inr ⟨by omega, a3, ?_⟩)
              rw [if_pos a3]
              dsimp only
              have x1 : s.extract (1 + k) (1 + k + n) = R.extract 0 n := by
                apply ba_list
                rw [e2, ext_list, hl, List.drop_take, Nat.add_comm 1 k, List.drop_succ_cons, Nat.add_sub_cancel_left]
              have x2 : s.extract (1 + k + n + 4) s.size = R.extract (n + 4) R.size := by
                apply ba_list
                rw [ext_list, ext_list, List.take_of_length_le (by simp), List.take_of_length_le (by simp), hRl, hl, List.drop_drop, show 1 + k + n + 4 = (k + (n + 4)) + 1 by omega, List.drop_succ_cons]
              rw [x1, x2]
            · exact .inr (.inl ⟨by omega, a3, by rw [if_neg a3]⟩)
    · exact .inr (.inl ⟨by dsimp only; rw [if_neg h7], by simp [readL, h7]⟩)
theorem headc_val {am af : Addr} {N : Nat} (s : ByteArray) (v : Value) (hv : HeadOut s = v) (hs : s.size ≤ maxLen) (W : World) (hS : SentR am af N W) :
    Calls Tryd.prog 36 #[.string s] W fun e w' => e = .returned v ∧ Below W.heap.size W w' := by
  rw [← hv]
  exact head_any s hs W hS

theorem below_two (w : World) (o p : Obj) : Below w.heap.size w ((w.alloc o).alloc p) := ((Below.refl _ _).alloc (Nat.le_refl _) _).alloc (by simp) _
/-- Two blocks that hold a frame's bytes and what is behind it each. -/
def TwoF (w : World) (a b c d : ByteArray) (V : World) : Prop := HasC V w.heap.size 47 #[.string a, .string b] ∧ HasC V (w.heap.size + 1) 47 #[.string c, .string d] ∧ Below w.heap.size w V
theorem TwoF.on {w V V' : World} {a b c d : ByteArray} (h : TwoF w a b c d V) (hb : Below V.heap.size V V') : TwoF w a b c d V' :=
  ⟨h.1.below hb h.1.lt, h.2.1.below hb h.2.1.lt, h.2.2.trans (hb.mono h.2.2.size)⟩
theorem TwoF.drew {w V : World} {a b c d : ByteArray} (h : TwoF w a b c d V) : TwoF w a b c d V.drew := h.on ((Below.refl _ _).drew)
theorem TwoF.new {w W : World} {a b c d : ByteArray} (hb : Below ((w.alloc (.cells #[.string a, .string b] 47)).alloc (.cells #[.string c, .string d] 47)).heap.size ((w.alloc (.cells #[.string a, .string b] 47)).alloc (.cells #[.string c, .string d] 47)) W) : TwoF w a b c d W :=
  TwoF.on ⟨(HasC.new w _ _).alloc _, HasC.at_ _ _ _ (by simp), below_two w _ _⟩ hb
set_option maxHeartbeats 1000000 in
set_option maxRecDepth 100000 in
theorem rd_any {am af : Addr} {N : Nat} (s : ByteArray) (hs : s.size ≤ maxLen) (w : World) (hS : SentR am af N w) :
    Calls Tryd.prog 26 #[.string s] w fun e w' => e = .returned (RdOut s) ∧ Below w.heap.size w w' := by
  have hsm := hs
  unfold maxLen at hsm
  rcases head_steps s with ⟨hh, ho⟩ | ⟨hh, ho⟩ | ⟨n, R, hh, hn1, hn2, hRs, hrest⟩
  · have HH := Lib.hid (fun W (h : SentR am af N W) => headc_val _ _ hh hs W h)
    rw [ho]
    clear hh ho hs hsm
    go_enter Tryd.func26, Tryd.ntmps26
    go_wp2
    refine wp_scope_out 0 rfl ?_
    go_wp2_with fail
    with_reducible refine (HH.out _ (hS.on (below_two w _ _))).mono ?_
    rintro e w1 ⟨rfl, hb⟩
    have hT := TwoF.new hb
    clear hb
    unfold faultV
    go_wp2_with fail
    apply wp_goto
    refine ⟨rfl, ?_⟩
    have c0 : w1.cell? ⟨w.heap.size, 0, none⟩ = some (.string { data := #[] }) := hT.1.cell 0
    have c1 : w1.cell? ⟨w.heap.size, 1, none⟩ = some (.string { data := #[] }) := hT.1.cell 1
    have z0 := hT.1.frozen 0
    have z1 := hT.1.frozen 1
    have hb := hT.2.2
    clear hT
    go_wp2
    rw [Exit.noGoto_ret]
    refine bodyPost_ret (v := .tuple #[.agg #[.string { data := #[] }, .string s], faultV 20]) ?_ rfl ⟨rfl, (hb.setCell (p := ⟨w.heap.size, 0, none⟩) (Nat.le_refl _) _).setCell (p := ⟨w.heap.size, 1, none⟩) (Nat.le_refl _) _⟩
    simp [results, Tryd.results26, go_sem, c0, c1, faultV]
  · have HH := Lib.hid (fun W (h : SentR am af N W) => headc_val _ _ hh hs W h)
    rw [ho]
    clear hh ho hs hsm
    go_enter Tryd.func26, Tryd.ntmps26
    go_wp2
    refine wp_scope_out 0 rfl ?_
    go_wp2_with fail
    with_reducible refine (HH.out _ (hS.on (below_two w _ _))).mono ?_
    rintro e w1 ⟨rfl, hb⟩
    have hT := TwoF.new hb
    clear hb
    unfold faultV
    go_wp2_with fail
    apply wp_goto
    refine ⟨rfl, ?_⟩
    have c0 : w1.cell? ⟨w.heap.size, 0, none⟩ = some (.string { data := #[] }) := hT.1.cell 0
    have c1 : w1.cell? ⟨w.heap.size, 1, none⟩ = some (.string { data := #[] }) := hT.1.cell 1
    have z0 := hT.1.frozen 0
    have z1 := hT.1.frozen 1
    have hb := hT.2.2
    clear hT
    go_wp2
    rw [Exit.noGoto_ret]
    refine bodyPost_ret (v := .tuple #[.agg #[.string { data := #[] }, .string s], faultV 30]) ?_ rfl ⟨rfl, (hb.setCell (p := ⟨w.heap.size, 0, none⟩) (Nat.le_refl _) _).setCell (p := ⟨w.heap.size, 1, none⟩) (Nat.le_refl _) _⟩
    simp [results, Tryd.results26, go_sem, c0, c1, faultV]
  · have HH := Lib.hid (fun W (h : SentR am af N W) => headc_val _ _ hh hs W h)
    rcases hrest with ⟨hlen, ho⟩ | ⟨hlen, hne4, ho⟩ | ⟨hlen, heq4, ho⟩
    · rw [ho]
      clear hh ho hs
      go_enter Tryd.func26, Tryd.ntmps26
      go_wp2
      refine wp_scope_out 0 rfl ?_
      go_wp2_with fail
      with_reducible refine (HH.out _ (hS.on (below_two w _ _))).mono ?_
      rintro e w1 ⟨rfl, hb⟩
      have hT := TwoF.new hb
      clear hb
      go_wp2_with fail
      apply wp_goto
      refine ⟨rfl, ?_⟩
      have c0 : w1.cell? ⟨w.heap.size, 0, none⟩ = some (.string { data := #[] }) := hT.1.cell 0
      have c1 : w1.cell? ⟨w.heap.size, 1, none⟩ = some (.string { data := #[] }) := hT.1.cell 1
      have z0 := hT.1.frozen 0
      have z1 := hT.1.frozen 1
      have hb := hT.2.2
      clear hT
      go_wp2
      rw [Exit.noGoto_ret]
      refine bodyPost_ret (v := .tuple #[.agg #[.string { data := #[] }, .string s], faultV 20]) ?_ rfl ⟨rfl, (hb.setCell (p := ⟨w.heap.size, 0, none⟩) (Nat.le_refl _) _).setCell (p := ⟨w.heap.size, 1, none⟩) (Nat.le_refl _) _⟩
      simp [results, Tryd.results26, go_sem, c0, c1, faultV]
    · have hXz : (R.extract 0 n).size ≤ 2000 := by simp; omega
      obtain ⟨X, hX⟩ : ∃ X, R.extract 0 n = X := ⟨_, rfl⟩
      obtain ⟨Y, hY⟩ : ∃ Y, R.extract n (n + 4) = Y := ⟨_, rfl⟩
      obtain ⟨Z, hZ⟩ : ∃ Z, R.extract (n + 4) R.size = Z := ⟨_, rfl⟩
      rw [hX, hY] at hne4
      rw [hX] at hXz
      have hck := fun W => check_any' X (by unfold maxLen; omega) W
      have hfo := fun W => spell4_any (checkL X.data.toList) (checkL_lt _) W
      unfold fourL at hne4
      obtain ⟨c, hcc⟩ : ∃ c, checkL X.data.toList = c := ⟨_, rfl⟩
      rw [hcc] at hck hfo hne4
      obtain ⟨Q, hQ⟩ : ∃ Q : ByteArray, ⟨(lowL c 4).toArray⟩ = Q := ⟨_, rfl⟩
      rw [hQ] at hfo
      have hQl : Q.data.toList = lowL c 4 := by rw [← hQ]
      rw [← hQl] at hne4
      have hslX : ∀ W, (Instr.slice 9 (.string R) none (some (.int .i64 (n : Int))) none).run Tryd.prog W = .ok (.string X) W := fun W => by
        have := run_slice_string_h (P := Tryd.prog) W 9 R Tryd.underlying9 .i64 (n : Int) (by omega) (by omega)
        rw [this, ← hX]
        rfl
      have hslY : ∀ W, (Instr.slice 9 (.string R) (some (.int .i64 (n : Int))) (some (.int .i64 ((n : Int) + 4))) none).run Tryd.prog W = .ok (.string Y) W := fun W => by
        rw [run_slice_string (P := Tryd.prog) W 9 R .i64 .i64 n (n + 4) Tryd.underlying9 (by omega) (by omega) (by omega), ← hY]
        rfl
      have hslZ : ∀ W, (Instr.slice 9 (.string R) (some (.int .i64 ((n : Int) + 4))) none none).run Tryd.prog W = .ok (.string Z) W := fun W => by
        rw [run_slice_string_l (P := Tryd.prog) W 9 R Tryd.underlying9 .i64 ((n : Int) + 4) (by omega) (by omega), ← hZ]
        rfl
      have HCK := Lib.hid hck
      have HFO := Lib.hid hfo
      have hneq : ¬ Q.toList = Y.toList := fun e => hne4 (by simpa [ByteArray.toList_eq] using e)
      have hneb : (Q.toList == Y.toList) = false := by simpa using hneq
      rw [ho]
      clear hh ho hs hck hfo hcc hQ hQl hX hY hZ hne4
      go_enter Tryd.func26, Tryd.ntmps26
      go_wp2
      refine wp_scope_out 0 rfl ?_
      go_wp2_with fail
      with_reducible refine (HH.out _ (hS.on (below_two w _ _))).mono ?_
      rintro e w1 ⟨rfl, hb⟩
      have hT := TwoF.new hb
      clear hb
      go_wp2_with fail
      refine region_tail 8 (TwoF w { data := #[] } { data := #[] } { data := #[] } { data := #[] }) (by kernel_rfl) (by kernel_rfl) hT.drew ?_
      intro hne0
      simp only [List.take_succ_cons, List.take_zero, List.drop_succ_cons, List.drop_zero]
      repeat (go_big_quiet_step (fail))
      refine wpQuiet_nil ?_
      clear hne0 hT
      rintro ⟨w3, hT3⟩
      dsimp only
      have d0 : w3.cell? ⟨w.heap.size + 1, 0, none⟩ = some (.string { data := #[] }) := hT3.2.1.cell 0
      have d1 : w3.cell? ⟨w.heap.size + 1, 1, none⟩ = some (.string { data := #[] }) := hT3.2.1.cell 1
      have y0 := hT3.2.1.frozen 0
      have y1 := hT3.2.1.frozen 1
      go_wp2_with fail
      have hT4 : TwoF w { data := #[] } { data := #[] } X Z ((w3.setCell ⟨w.heap.size + 1, 0, none⟩ (.string X)).setCell ⟨w.heap.size + 1, 1, none⟩ (.string Z)) :=
        ⟨(hT3.1.far _ _ (by simp)).far _ _ (by simp), HasC.eq ((hT3.2.1.set 0 _).set 1 _) rfl, (hT3.2.2.setCell (p := ⟨w.heap.size + 1, 0, none⟩) (Nat.le_succ _) _).setCell (p := ⟨w.heap.size + 1, 1, none⟩) (Nat.le_succ _) _⟩
      clear d0 d1 y0 y1 hT3
      refine region_class (TwoF w { data := #[] } { data := #[] } X Z) (by kernel_rfl) (by kernel_rfl) hT4.drew ?_
      intro hne0
      have e0 : ∀ i : InC (TwoF w { data := #[] } { data := #[] } X Z), i.w.cell? ⟨w.heap.size + 1, 0, none⟩ = some (.string X) := fun i => i.h.2.1.cell 0
      repeat (go_big_quiet_step ((first | (go_at_call 16; refine (HCK.out _).mono ?_; rintro e w' ⟨rfl, hb⟩; exact ⟨rfl, ⟨_, TwoF.on (InC.h _) hb⟩, rfl⟩) | (go_at_call 23; refine (HFO.out _).mono ?_; rintro e w' ⟨rfl, hb⟩; exact ⟨rfl, ⟨_, TwoF.on (InC.h _) hb⟩, rfl⟩))))
      refine wpQuiet_nil ?_
      clear e0 hne0 hT4
      rintro ⟨w5, hT⟩
      dsimp only
      go_wp2_with fail
      apply wp_goto
      refine ⟨rfl, ?_⟩
      have c0 : w5.cell? ⟨w.heap.size, 0, none⟩ = some (.string { data := #[] }) := hT.1.cell 0
      have c1 : w5.cell? ⟨w.heap.size, 1, none⟩ = some (.string { data := #[] }) := hT.1.cell 1
      have z0 := hT.1.frozen 0
      have z1 := hT.1.frozen 1
      have hb := hT.2.2
      clear hT
      go_wp2
      rw [Exit.noGoto_ret]
      refine bodyPost_ret (v := .tuple #[.agg #[.string { data := #[] }, .string s], faultV 31]) ?_ rfl ⟨rfl, (hb.setCell (p := ⟨w.heap.size, 0, none⟩) (Nat.le_refl _) _).setCell (p := ⟨w.heap.size, 1, none⟩) (Nat.le_refl _) _⟩
      simp [results, Tryd.results26, go_sem, c0, c1, faultV]
    · have hXz : (R.extract 0 n).size ≤ 2000 := by simp; omega
      obtain ⟨X, hX⟩ : ∃ X, R.extract 0 n = X := ⟨_, rfl⟩
      obtain ⟨Y, hY⟩ : ∃ Y, R.extract n (n + 4) = Y := ⟨_, rfl⟩
      obtain ⟨Z, hZ⟩ : ∃ Z, R.extract (n + 4) R.size = Z := ⟨_, rfl⟩
      rw [hX, hY] at heq4
      rw [hX] at hXz
      rw [hX, hZ] at ho
      have hck := fun W => check_any' X (by unfold maxLen; omega) W
      have hfo := fun W => spell4_any (checkL X.data.toList) (checkL_lt _) W
      unfold fourL at heq4
      obtain ⟨c, hcc⟩ : ∃ c, checkL X.data.toList = c := ⟨_, rfl⟩
      rw [hcc] at hck hfo heq4
      obtain ⟨Q, hQ⟩ : ∃ Q : ByteArray, ⟨(lowL c 4).toArray⟩ = Q := ⟨_, rfl⟩
      rw [hQ] at hfo
      have hQl : Q.data.toList = lowL c 4 := by rw [← hQ]
      rw [← hQl] at heq4
      have hslX : ∀ W, (Instr.slice 9 (.string R) none (some (.int .i64 (n : Int))) none).run Tryd.prog W = .ok (.string X) W := fun W => by
        have := run_slice_string_h (P := Tryd.prog) W 9 R Tryd.underlying9 .i64 (n : Int) (by omega) (by omega)
        rw [this, ← hX]
        rfl
      have hslY : ∀ W, (Instr.slice 9 (.string R) (some (.int .i64 (n : Int))) (some (.int .i64 ((n : Int) + 4))) none).run Tryd.prog W = .ok (.string Y) W := fun W => by
        rw [run_slice_string (P := Tryd.prog) W 9 R .i64 .i64 n (n + 4) Tryd.underlying9 (by omega) (by omega) (by omega), ← hY]
        rfl
      have hslZ : ∀ W, (Instr.slice 9 (.string R) (some (.int .i64 ((n : Int) + 4))) none none).run Tryd.prog W = .ok (.string Z) W := fun W => by
        rw [run_slice_string_l (P := Tryd.prog) W 9 R Tryd.underlying9 .i64 ((n : Int) + 4) (by omega) (by omega), ← hZ]
        rfl
      have HCK := Lib.hid hck
      have HFO := Lib.hid hfo
      have heqq : Q = Y := ba_list heq4
      rw [ho]
      subst heqq
      clear hh ho hs hck hfo hcc hQ hQl hX hY hZ heq4
      go_enter Tryd.func26, Tryd.ntmps26
      go_wp2
      refine wp_scope_out 0 rfl ?_
      go_wp2_with fail
      with_reducible refine (HH.out _ (hS.on (below_two w _ _))).mono ?_
      rintro e w1 ⟨rfl, hb⟩
      have hT := TwoF.new hb
      clear hb
      go_wp2_with fail
      refine region_tail 8 (TwoF w { data := #[] } { data := #[] } { data := #[] } { data := #[] }) (by kernel_rfl) (by kernel_rfl) hT.drew ?_
      intro hne0
      simp only [List.take_succ_cons, List.take_zero, List.drop_succ_cons, List.drop_zero]
      repeat (go_big_quiet_step (fail))
      refine wpQuiet_nil ?_
      clear hne0 hT
      rintro ⟨w3, hT3⟩
      dsimp only
      have d0 : w3.cell? ⟨w.heap.size + 1, 0, none⟩ = some (.string { data := #[] }) := hT3.2.1.cell 0
      have d1 : w3.cell? ⟨w.heap.size + 1, 1, none⟩ = some (.string { data := #[] }) := hT3.2.1.cell 1
      have y0 := hT3.2.1.frozen 0
      have y1 := hT3.2.1.frozen 1
      go_wp2_with fail
      have hT4 : TwoF w { data := #[] } { data := #[] } X Z ((w3.setCell ⟨w.heap.size + 1, 0, none⟩ (.string X)).setCell ⟨w.heap.size + 1, 1, none⟩ (.string Z)) :=
        ⟨(hT3.1.far _ _ (by simp)).far _ _ (by simp), HasC.eq ((hT3.2.1.set 0 _).set 1 _) rfl, (hT3.2.2.setCell (p := ⟨w.heap.size + 1, 0, none⟩) (Nat.le_succ _) _).setCell (p := ⟨w.heap.size + 1, 1, none⟩) (Nat.le_succ _) _⟩
      clear d0 d1 y0 y1 hT3
      refine region_class (TwoF w { data := #[] } { data := #[] } X Z) (by kernel_rfl) (by kernel_rfl) hT4.drew ?_
      intro hne0
      have e0 : ∀ i : InC (TwoF w { data := #[] } { data := #[] } X Z), i.w.cell? ⟨w.heap.size + 1, 0, none⟩ = some (.string X) := fun i => i.h.2.1.cell 0
      repeat (go_big_quiet_step ((first | (go_at_call 16; refine (HCK.out _).mono ?_; rintro e w' ⟨rfl, hb⟩; exact ⟨rfl, ⟨_, TwoF.on (InC.h _) hb⟩, rfl⟩) | (go_at_call 23; refine (HFO.out _).mono ?_; rintro e w' ⟨rfl, hb⟩; exact ⟨rfl, ⟨_, TwoF.on (InC.h _) hb⟩, rfl⟩))))
      refine wpQuiet_nil ?_
      clear e0 hne0 hT4
      rintro ⟨w5, hT⟩
      dsimp only
      have c0 : w5.cell? ⟨w.heap.size, 0, none⟩ = some (.string { data := #[] }) := hT.1.cell 0
      have c1 : w5.cell? ⟨w.heap.size, 1, none⟩ = some (.string { data := #[] }) := hT.1.cell 1
      have z0 := hT.1.frozen 0
      have z1 := hT.1.frozen 1
      have d0 : w5.cell? ⟨w.heap.size + 1, 0, none⟩ = some (.string X) := hT.2.1.cell 0
      have d1 : w5.cell? ⟨w.heap.size + 1, 1, none⟩ = some (.string Z) := hT.2.1.cell 1
      have hb := hT.2.2
      clear hT
      go_wp2
      rw [jmp_ret]
      refine bodyPost_ret (v := .tuple #[.agg #[.string X, .string Z], .nilIface]) ?_ rfl ⟨rfl, (hb.setCell (p := ⟨w.heap.size, 0, none⟩) (Nat.le_refl _) _).setCell (p := ⟨w.heap.size, 1, none⟩) (Nat.le_refl _) _⟩
      simp [results, Tryd.results26, go_sem, c0, c1]
end Go.Proofs.YthbfibnpfdegaaaDoor
