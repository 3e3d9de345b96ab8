/- Package frame: Make. -/
import Derived.Test.YthbfibnpfdegaaaDoorRCheck
import Derived.Test.YthbfibnpfdegaaaDoorRAs
import Derived.Lib.AppendStr
import Derived.OwnWalk
namespace Go.Proofs.YthbfibnpfdegaaaDoor
open Go.RowKit

/-- Bytes as cells. -/
theorem strCells_app (a b : ByteArray) : Lib.strCells a ++ Lib.strCells b = Lib.strCells (a ++ b) := by
  simp [Lib.strCells, ByteArray.data_append]
theorem strCells_bc (s : ByteArray) : Lib.strCells s = s.data.toList.map bc := rfl
theorem mark_cells : [Value.int .u8 167] = Lib.strCells ⟨#[167]⟩ := rfl

set_option maxHeartbeats 1000000 in
set_option maxRecDepth 100000 in
theorem make_any {am af : Addr} {N : Nat} (s : ByteArray) (hs : s.size ≤ maxLen) (w : World) (_hS : SentR am af N w) :
    Calls Tryd.prog 11 #[.string s] w fun e w' => e = .returned (MakeOut s) ∧ Below w.heap.size w w' := by
  unfold maxLen at hs
  by_cases h1 : s.size < 1
  · have ho : MakeOut s = .tuple #[.string { data := #[] }, .int .i64 30] := by unfold MakeOut; rw [if_pos (.inl h1)]
    rw [ho]
    clear ho
    go_enter Tryd.func11, Tryd.ntmps11
    go_wp2_with fail
    go_ret2
    exact ⟨rfl, Below.refl _ _⟩
  · by_cases h2 : 2000 < s.size
    · have ho : MakeOut s = .tuple #[.string { data := #[] }, .int .i64 30] := by unfold MakeOut; rw [if_pos (.inr h2)]
      rw [ho]
      clear ho
      go_enter Tryd.func11, Tryd.ntmps11
      go_wp2_with fail
      go_ret2
      exact ⟨rfl, Below.refl _ _⟩
    · have ho : MakeOut s = .tuple #[.string (frameB s), .int .i64 0] := by unfold MakeOut; rw [if_neg (by omega)]
      rw [ho]
      obtain ⟨i0, hi, hz0, hz1, hz2⟩ := info_parts info5
      have hck := fun W => check_any' s (by unfold maxLen; omega) W
      have hfo := fun W => spell4_any (checkL s.data.toList) (checkL_lt _) W
      have hpt : ∀ (x : Int) W, x = s.size → Calls Tryd.prog 22 #[.int .u64 x] W fun e w' => e = .returned (.string (putB s.size)) ∧ Below W.heap.size W w' := fun x W hx => put_int x s.size hx (by omega) W
      have hp9 := putL_len9 s.size
      rw [← putB_size] at hp9
      have hf4 : (⟨(lowL (checkL s.data.toList) 4).toArray⟩ : ByteArray).size = 4 := by simp [ByteArray.size, lowL_length]
      unfold frameB fourL
      obtain ⟨c, hc⟩ : ∃ c, checkL s.data.toList = c := ⟨_, rfl⟩
      obtain ⟨P, hP⟩ : ∃ P, putB s.size = P := ⟨_, rfl⟩
      rw [hc] at hck hfo hf4 ⊢
      rw [hP] at hpt hp9 ⊢
      obtain ⟨Q, hQ⟩ : ∃ Q : ByteArray, ⟨(lowL c 4).toArray⟩ = Q := ⟨_, rfl⟩
      rw [hQ] at hfo hf4 ⊢
      have hf5 : Q.size ≤ 4 := by omega
      have HCK := Lib.hid hck
      have HFO := Lib.hid hfo
      have HPT := Lib.hid hpt
      clear hck hfo hpt hc hP hQ ho hf4 hs
      go_enter Tryd.func11, Tryd.ntmps11
      go_wp2_with fail
      with_reducible refine (HPT.out _ _ rfl).mono ?_
      rintro e w1 ⟨rfl, hb⟩
      have hb0 := hb.size
      go_wp2_with (at_make; refine wpList_make_own _ rfl _ _ 37 rfl w.heap.size 5 i0 (.int .u8 0) 1 Tryd.underlying37 hi hz0 hz1 _ _ _ (1 + P.size + s.size + 4) rfl rfl (by omega) ?c1 ?c2 ?c3 ?_)
      case c1 => rw [hz2]; omega
      case c2 => unfold maxLen; omega
      case c3 => exact hb0
      intro w2 hown hg
      have hb2 : Below w.heap.size w w2 := hb.grown hg hb0 (fun k hk => by cases hk)
      clear hb hb0 hg
      generalize hV : (Value.slice (some { block := w1.heap.size, off := 0 }) 0 (1 + P.size + s.size + 4)) = V at hown ⊢
      have hs2 := hb2.size
      go_wp2_with (at_builtin; refine wpList_append_own _ rfl _ _ 37 rfl w.heap.size 5 i0 (.int .u8 0) 1 1 Tryd.underlying37 hi hz0 hz1 hz2 rfl (by decide) _ _ _ rfl (hown.alloc _) ⟨w2.heap.size, 0, none⟩ 1 1 [.int .u8 167] rfl rfl ?c1 ?c2 ?c3 ?c4 ?c5 ?_)
      case c1 =>
        intro j u hj
        match j, hj with
        | 0, hj =>
          simp at hj
          subst hj
          simp [Addr.add]
      case c2 => intro u hu; simp at hu; subst hu; rfl
      case c3 => unfold maxLen; omega
      case c4 => omega
      case c5 => simp; omega
      intro v3 w3 hown3 hg3 _
      have hb3 : Below w.heap.size w w3 := (hb2.alloc hs2 _).grown hg3 (by simp; omega) (fun k hk => (hown.lt k hk).1)
      clear hown hg3 hb2 hs2 hV
      have hs3 := hb3.size
      rw [mark_cells] at hown3
      go_wp2_with (at_builtin; refine Lib.wpList_append_own_string _ rfl _ _ 37 9 rfl w.heap.size 5 i0 Tryd.underlying37 Tryd.underlying9 hi hz0 hz1 hz2 _ _ _ rfl hown3 _ rfl ?d1 ?d2 ?d3 ?_)
      case d1 => unfold maxLen; omega
      case d2 => omega
      case d3 => exact hs3
      intro v4 w4 hown4 hg4 _
      have hb4 : Below w.heap.size w w4 := hb3.grown hg4 hs3 (fun k hk => (hown3.lt k hk).1)
      clear hown3 hg4 hb3 hs3
      have hs4 := hb4.size
      rw [strCells_app] at hown4
      go_wp2_with (at_builtin; refine Lib.wpList_append_own_string _ rfl _ _ 37 9 rfl w.heap.size 5 i0 Tryd.underlying37 Tryd.underlying9 hi hz0 hz1 hz2 _ _ _ rfl hown4 _ rfl ?e1 ?e2 ?e3 ?_)
      case e1 => unfold maxLen; omega
      case e2 => omega
      case e3 => exact hs4
      intro v5 w5 hown5 hg5 _
      have hb5 : Below w.heap.size w w5 := hb4.grown hg5 hs4 (fun k hk => (hown4.lt k hk).1)
      clear hown4 hg5 hb4 hs4
      rw [strCells_app] at hown5
      go_wp2_with fail
      with_reducible refine (HCK.out _).mono ?_
      rintro e w6 ⟨rfl, hb6⟩
      have hown6 := hown5.kept (w' := w6) (row := none) ⟨hb6.os, hb6.tape, hb6.output, hb6.size, fun i hi _ => hb6.block i hi⟩ (Classical.em _)
      replace hb5 := hb5.trans (hb6.mono hb5.size)
      clear hown5 hb6
      go_wp2_with fail
      with_reducible refine (HFO.out _).mono ?_
      rintro e w7 ⟨rfl, hb7⟩
      have hown7 := hown6.kept (w' := w7) (row := none) ⟨hb7.os, hb7.tape, hb7.output, hb7.size, fun i hi _ => hb7.block i hi⟩ (Classical.em _)
      replace hb5 := hb5.trans (hb7.mono hb5.size)
      clear hown6 hb7
      have hs7 := hb5.size
      go_wp2_with (at_builtin; refine Lib.wpList_append_own_string _ rfl _ _ 37 9 rfl w.heap.size 5 i0 Tryd.underlying37 Tryd.underlying9 hi hz0 hz1 hz2 _ _ _ rfl hown7 _ rfl ?f1 ?f2 ?f3 ?_)
      case f1 => unfold maxLen; omega
      case f2 => omega
      case f3 => exact hs7
      intro v8 w8 hown8 hg8 _
      have hb8 : Below w.heap.size w w8 := hb5.grown hg8 hs7 (fun k hk => (hown7.lt k hk).1)
      clear hown7 hg8 hb5 hs7
      rw [strCells_app] at hown8
      generalize hR : ({ data := #[167] } ++ P ++ s ++ Q : ByteArray) = R at hown8 ⊢
      have hRs : 1 + P.size + s.size + Q.size = R.size := by rw [← hR]; simp only [ByteArray.size_append]; rfl
      have hRl : R.data.toList.length = R.size := by simp
      rcases hown8.2 with ⟨_, h0⟩ | ⟨g, cap, cur, rfl, _, hg, _, _, _, htk⟩
      · omega
      · have hcv := run_convert_bytes_back (P := Tryd.prog) w8 37 9 5 ⟨g, 0, none⟩ cap R.data.toList Tryd.underlying37 Tryd.underlying5 Tryd.underlying9
          (Lib.bytes_of_row hg (by rw [hRl, bc_map, ← hRs]; simpa [strCells_bc] using htk))
        rw [hRl, ← hRs] at hcv
        have HR := Lib.hid hR
        clear hg htk hown8 hRl hRs hR
        go_wp2
        go_ret2
        exact ⟨by rw [HR.out]; rfl, hb8⟩
end Go.Proofs.YthbfibnpfdegaaaDoor
