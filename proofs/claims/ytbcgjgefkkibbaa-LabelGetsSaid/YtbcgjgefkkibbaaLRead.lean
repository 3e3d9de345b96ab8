/- Package label: the labels of a text are read. -/
import Derived.Test.YtbcgjgefkkibbaaLSort
import Derived.Test.YtbcgjgefkkibbaaLRuns
namespace Go.Proofs.Ytbcgjgefkkibbaa
open Go.RowKit

theorem rdF_iter {rb it p p' : Nat} {s : RdS} {T : ByteArray} {W : World} (h : RdF rb s W) (hit : W.heap[it]? = some (.stringIter T p)) : RdF rb s (W.iterAt it T p') := by
  obtain ⟨dv, ⟨d, hC, hM⟩, hO⟩ := h
  have hne : ∀ k o, W.heap[k]? = some o → (∀ (t : ByteArray) (q : Nat), o ≠ Obj.stringIter t q) → (W.iterAt it T p').heap[k]? = some o := fun k o hk ho => by
    rw [Lib.iterAt_other W it k T p' (fun e => by subst e; rw [hit] at hk; exact ho _ _ (Option.some.inj hk).symm)]
    exact hk
  have hC2 : HasC (W.iterAt it T p') rb 73 #[.string s.nm, .string s.v, dv, d, meth (othF s.md) rb] := hne _ _ hC (fun _ _ e => by cases e)
  refine ⟨dv, ⟨d, hC2, ?_⟩, hO.1, ?_⟩
  · cases hmd : s.md with
    | name => rw [hmd] at hM; obtain ⟨mb, h1, h2⟩ := hM; exact ⟨mb, h1, hne _ _ h2 (fun _ _ e => by cases e)⟩
    | value => rw [hmd] at hM; obtain ⟨mb, h1, h2⟩ := hM; exact ⟨mb, h1, hne _ _ h2 (fun _ _ e => by cases e)⟩
    | quoted => rw [hmd] at hM; exact hM
  · rcases hO.2 with h | ⟨g, cap, cur, h1, h2, h3, h4⟩
    · exact .inl h
    · exact .inr ⟨g, cap, cur, h1, h2, hne _ _ h3 (fun _ _ e => by cases e), h4⟩
theorem step_size (s : RdS) (c : UInt8) : (stepB s c).nm.size + (stepB s c).v.size + (stepB s c).done.length ≤ s.nm.size + s.v.size + s.done.length + 1 := by
  have hz : ∀ a : ByteArray, (a ++ (⟨#[c]⟩ : ByteArray)).size = a.size + 1 := fun a => by rw [ByteArray.size_append]; rfl
  have h0 : (({ data := #[] } : ByteArray)).size = 0 := rfl
  unfold stepB
  cases s.md with
  | name =>
    dsimp only
    split
    · dsimp only; omega
    · dsimp only; rw [hz]; omega
  | value =>
    dsimp only
    split
    · dsimp only; rw [List.length_append, h0]; simp only [List.length_cons, List.length_nil]; omega
    · split
      · dsimp only; omega
      · dsimp only; rw [hz]; omega
  | quoted => dsimp only; rw [hz]; omega
theorem fold_size : ∀ (l : List UInt8) (s : RdS), (l.foldl stepB s).nm.size + (l.foldl stepB s).v.size + (l.foldl stepB s).done.length ≤ s.nm.size + s.v.size + s.done.length + l.length := by
  intro l
  induction l with
  | nil => intro s; exact Nat.le_refl _
  | cons c l ih =>
    intro s
    have h1 := ih (stepB s c)
    have h2 := step_size s c
    rw [List.foldl_cons, List.length_cons]
    omega
theorem owns_low {B B' n : Nat} {w : World} {v : Value} {xs : List Value} (h : w.ownsRow B 41 2 v n xs) (hB : B' ≤ B) : w.ownsRow B' 41 2 v n xs :=
  ⟨h.1, h.2.imp id fun ⟨g, cap, cur, h1, h2, h3⟩ => ⟨g, cap, cur, h1, Nat.le_trans hB h2, h3⟩⟩
def st0 : RdS := ⟨.name, { data := #[] }, { data := #[] }, []⟩
theorem enc_le (r : Int) : (Utf8.encode r).size ≤ 4 := by
  unfold Utf8.encode
  simp only
  repeat' split
  all_goals (simp [ByteArray.size])
/-- What read answers. -/
def ReadP (s : ByteArray) (w w' : World) (e : Ending) : Prop :=
  (∃ x, e = .returned (.tuple #[.slice none 0 0, .iface 69 (.string x)]) ∧ parseL s.data.toList = none) ∨
  (∃ dv k M, e = .returned (.tuple #[dv, .nilIface]) ∧ cntL s.data.toList = some k ∧ labsO (s.data.toList.length + 2) (44 :: s.data.toList) = some M ∧ M.length ≤ 900 ∧ w'.ownsRow w.heap.size 41 2 dv M.length (cellsL M))

set_option maxHeartbeats 2000000 in
set_option maxRecDepth 100000 in
theorem read_any (s : ByteArray) (hs : s.size ≤ 2000) (w : World) :
    Calls Try.prog 26 #[.string s] w fun e w' => ReadP s w w' e ∧ Below w.heap.size w w' := by
  by_cases h803 : 803 < s.size
  · have hp := parse_len s.data.toList (by rw [lenL]; exact h803)
    have HP := Lib.hid hp
    have h1 : (803 : Int) < s.size := by omega
    clear hp
    go_enter Try.func26, Try.ntmps26
    go_wp2_with fail
    go_ret2
    exact ⟨.inl ⟨_, rfl, HP.out⟩, Below.refl _ _⟩
  · have h1 : ¬ (803 : Int) < s.size := by omega
    have R1 := Lib.hid (fun W => lRunes_any s (by omega) W)
    cases hcn : cntL s.data.toList with
    | none =>
      have hR : RunesOut s = .tuple #[.int .i64 0, .bool false] := by unfold RunesOut; rw [hcn]
      have HP := Lib.hid ((parse_labs s.data.toList).2 hcn)
      rw [hR] at R1
      clear hcn hR
      go_enter Try.func26, Try.ntmps26
      go_wp2_with fail
      with_reducible refine (R1.out _).mono ?_
      rintro e w2 ⟨rfl, hb⟩
      clear R1
      go_wp2_with fail
      go_ret2
      exact ⟨.inl ⟨_, rfl, HP.out⟩, hb⟩
    | some n =>
      have hR : RunesOut s = .tuple #[.int .i64 (n : Int), .bool true] := by unfold RunesOut; rw [hcn]
      have HCN := Lib.hid hcn
      rw [hR] at R1
      obtain ⟨T, hT⟩ : ∃ T, s ++ (⟨#[44]⟩ : ByteArray) = T := ⟨_, rfl⟩
      have hTs : T.size = s.size + 1 := by rw [← hT, ByteArray.size_append]; rfl
      have hTl : T.data.toList = s.data.toList ++ [44] := by rw [← hT, appL]
      have hTc : Hid (∃ n, cntL (T.data.toList.drop 0) = some n) := by
        rw [List.drop_zero, hTl]
        exact ⟨n + 1, by rw [cnt_app [44] (.inr (by decide)), hcn]; rfl⟩
      have HTL := Lib.hid hTl
      clear hcn hR hTl
      go_enter Try.func26, Try.ntmps26
      go_wp2_with fail
      with_reducible refine (R1.out _).mono ?_
      rintro e w1 ⟨rfl, hb1⟩
      clear R1
      go_wp2_with fail
      with_reducible refine (beginName_any w1.heap.size { data := #[] } { data := #[] } (.slice none 0 0) (.map none) .nilFunc _ (HasC.new w1 73 _)).mono ?_
      rintro e w2 ⟨rfl, hR, g2⟩
      have hw1 := hb1.size
      have hsz2 : w1.heap.size + 1 ≤ w2.heap.size := by have := g2.size; simpa using this
      have hb2 : Below w.heap.size w w2 := (hb1.alloc hw1 _).trans ((keepR_grown (by simp) g2).2.mono hw1)
      have hF : RdF w1.heap.size st0 w2 := ⟨_, hR, World.ownsRow_nil _ _ _ _⟩
      clear hR g2 hb1
      obtain ⟨rb, hrb⟩ : ∃ rb, rb = w1.heap.size := ⟨_, rfl⟩
      rw [← hrb] at hF hw1 hsz2 ⊢
      clear hrb
      go_wp2_with fail
      have hF2 : RdF rb st0 (w2.alloc (.stringIter T 0)) := by
        obtain ⟨dv, ⟨d, hC, hM⟩, hO⟩ := hF
        refine ⟨dv, ⟨d, hC.alloc _, ?_⟩, hO.alloc _⟩
        exact mapAt_grown hC hM (World.grownBy_alloc w2 _ _)
      obtain ⟨it, hit0⟩ : ∃ it, it = w2.heap.size := ⟨_, rfl⟩
      have hI2 : (w2.alloc (.stringIter T 0)).heap[it]? = some (.stringIter T 0) := heap_at hit0.symm
      have hb3 := hb2.alloc hb2.size (.stringIter T 0)
      have hrbi : rb < it := by omega
      rw [← hit0]
      clear hit0
      have hT2 : T.size ≤ 2001 := by omega
      go_loopw [] (fun wr => ∃ p : Nat, p ≤ T.size ∧ RdF rb ((T.data.toList.take p).foldl stepB st0) wr ∧ wr.heap[it]? = some (.stringIter T p) ∧ Below w.heap.size w wr ∧ Hid (∃ n, cntL (T.data.toList.drop p) = some n)) (fun wr => T.size - wr.iterPos it)
      case atStart => exact ⟨0, Nat.zero_le _, hF2, hI2, hb3, hTc⟩
      case round =>
        obtain ⟨p, hp, hFp, hit, hbw, HC⟩ := hrel
        by_cases hlt : p < T.size
        · obtain ⟨r, j, hD, hc⟩ := next_shape T p hlt
          obtain ⟨m, hm⟩ := HC.out
          have hne : T.data.toList.drop p ≠ [] := fun e => by have := congrArg List.length e; rw [List.length_drop, lenL] at this; simp at this; omega
          rcases hc with hR | ⟨hz, _⟩
          · have hj := hR.pos
            have hle : p + j ≤ T.size := by have := hR.le; rw [List.length_drop, lenL] at this; omega
            have hn2 : Hid (∃ n, cntL (T.data.toList.drop (p + j)) = some n) := by
              rw [cnt_step (by rw [hR.size]; omega), hR.size, List.drop_drop] at hm
              cases hq : cntL (T.data.toList.drop (p + j)) with
              | none => rw [hq] at hm; cases hm
              | some m => exact ⟨m, rfl⟩
            have hst : (T.data.toList.take (p + j)).foldl stepB st0 = stepR (r : Int) ((T.data.toList.take p).foldl stepB st0) := by
              rw [step_rune hne hR, List.take_add, List.foldl_append]
            have hfs := fold_size (T.data.toList.take p) st0
            have hlp := List.length_take_le p T.data.toList
            have hs0 : st0.nm.size + st0.v.size + st0.done.length = 0 := rfl
            obtain ⟨S, hS⟩ : ∃ S, S = (T.data.toList.take p).foldl stepB st0 := ⟨_, rfl⟩
            rw [← hS] at hFp hst hfs
            have hen := enc_le (r : Int)
            have K1 := Lib.hid (fun W h => take_any rb (r : Int) S W h (by omega) (by omega) (by omega))
            have hnx : ∀ ty, (Instr.next (.pointer (some ⟨it, 0, none⟩)) true ty).run Try.prog wr = .ok (.tuple #[.bool true, .int .i64 (p : Int), .int .i32 (r : Int)]) (wr.iterAt it T (p + j)) := fun ty => by
              have := Lib.run_next_any_at (P := Try.prog) wr it T p ty hit hlt
              rw [hD] at this
              simpa using this
            have hF3 := rdF_iter (p' := p + j) hFp hit
            have hit2 := Lib.iterAt_heap wr it T p (p + j) hit
            have hbw2 := Lib.below_iterAt hbw (k := it) (by omega) T (p + j)
            have HST := Lib.hid hst
            have HIT := Lib.hid hit
            clear hst hS hfs hlp hen hD hm hR hne hFp
            go_wp2_with fail
            with_reducible refine (K1.out _ hF3).mono ?_
            rintro e w5 ⟨rfl, hF5, hK5⟩
            have hit5 := hK5.1 it _ hit2 (fun e => by have := Option.some.inj e; omega) (fun _ _ e => by cases e)
            clear K1
            go_wp2_with fail
            go_roundw
            case rel => exact ⟨p + j, hle, by rw [HST.out]; exact hF5, hit5, hbw2.trans (hK5.2.mono hw1), hn2⟩
            case measure =>
              simp only [World.iterPos, hit5, HIT.out]
              omega
          · rw [cnt_wrong hne hz] at hm
            cases hm
        · have hnx : ∀ ty, (Instr.next (.pointer (some ⟨it, 0, none⟩)) true ty).run Try.prog wr = _ := fun ty => Lib.run_next_end_at wr it T p ty hit hlt
          have htk : T.data.toList.take p = T.data.toList := List.take_of_length_le (by rw [lenL]; omega)
          rw [htk, HTL.out] at hFp
          obtain ⟨m1, m2⟩ := mach (s.data.toList.length + 2) s.data.toList [] (by omega)
          cases ho : labsO (s.data.toList.length + 2) (44 :: s.data.toList) with
          | none =>
            have hq := m2 ho _ rfl
            have HP := Lib.hid (show parseL s.data.toList = none by rw [(parse_labs s.data.toList).1 n HCN.out, ho])
            obtain ⟨S, hS⟩ : ∃ S, S = (s.data.toList ++ [44]).foldl stepB st0 := ⟨_, rfl⟩
            rw [show (⟨.name, { data := #[] }, { data := #[] }, []⟩ : RdS) = st0 from rfl, ← hS] at hq
            rw [← hS] at hFp
            obtain ⟨dv, ⟨d, hC, _⟩, _⟩ := hFp
            have c0 : wr.cell? ⟨rb, 0, none⟩ = some (.string S.nm) := hC.cell 0
            have c1 : wr.cell? ⟨rb, 1, none⟩ = some (.string S.v) := hC.cell 1
            obtain ⟨a, ha⟩ : ∃ a, S.nm = a := ⟨_, rfl⟩
            obtain ⟨b, hb⟩ : ∃ b, S.v = b := ⟨_, rfl⟩
            rw [ha] at c0 hq
            rw [hb] at c1 hq
            clear hS m1 m2 ho htk hC ha hb
            by_cases he : a = { data := #[] }
            · subst he
              have hb1 : b ≠ { data := #[] } := fun e => hq ⟨rfl, e⟩
              have q1 := ba_ne hb1
              have q2 : b.toList.isEmpty = false := by
                cases hl : b.toList with
                | nil => exact absurd (baL (by rw [← ByteArray.toList_eq, hl])) hb1
                | cons => rfl
              clear hq hb1
              go_wp2_with fail
              go_ret2
              exact ⟨.inl ⟨_, rfl, HP.out⟩, hbw⟩
            · have q1 := ba_ne he
              have q2 : a.toList.isEmpty = false := by
                cases hl : a.toList with
                | nil => exact absurd (baL (by rw [← ByteArray.toList_eq, hl])) he
                | cons => rfl
              clear hq he
              go_wp2_with fail
              go_ret2
              exact ⟨.inl ⟨_, rfl, HP.out⟩, hbw⟩
          | some M =>
            have hq := m1 M ho
            rw [show (⟨.name, { data := #[] }, { data := #[] }, []⟩ : RdS) = st0 from rfl] at hq
            rw [hq, List.nil_append] at hFp
            obtain ⟨dv, ⟨d, hC, _⟩, hO⟩ := hFp
            have c0 : wr.cell? ⟨rb, 0, none⟩ = some (.string { data := #[] }) := hC.cell 0
            have c1 : wr.cell? ⟨rb, 1, none⟩ = some (.string { data := #[] }) := hC.cell 1
            have c2 : wr.cell? ⟨rb, 2, none⟩ = some dv := hC.cell 2
            have HO := Lib.hid ho
            have hfs := fold_size (s.data.toList ++ [44]) st0
            rw [hq] at hfs
            have hsl := lenL s
            have hML : M.length ≤ 900 := by
              have h0 : st0.nm.size + st0.v.size + st0.done.length = 0 := rfl
              have h1 : ({ data := #[] } : ByteArray).size = 0 := rfl
              dsimp only at hfs
              simp only [List.nil_append, List.length_append, List.length_cons, List.length_nil] at hfs
              omega
            have hOl := owns_low hO (show w.heap.size ≤ rb + 1 by omega)
            clear hq m1 m2 ho htk hC hfs
            go_wp2_with fail
            go_ret2
            exact ⟨.inr ⟨dv, n, M, rfl, HCN.out, HO.out, hML, hOl⟩, hbw⟩
end Go.Proofs.Ytbcgjgefkkibbaa
