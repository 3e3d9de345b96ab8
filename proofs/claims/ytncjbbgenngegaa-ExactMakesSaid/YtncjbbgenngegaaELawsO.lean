/- The statements' walks: ExactOwn. -/
import Derived.Test.YtncjbbgenngegaaELawsR
namespace Go.Proofs.Ytncjbbgenngegaa
open Go.RowKit

theorem merge_none {A : List Nat} (hA : rightN A = true) : mergeP A [] = (A, 0) := by
  have h : ofN (A ++ []) = A := by rw [List.append_nil]; exact of_rise (right_parts hA).1
  rw [mergeP_of hA rfl (by rw [h]; exact (right_parts hA).2), h]
theorem num_nil (W : World) : NumSl W (.slice none 0 0) [] := .inl ⟨none, 0, rfl, fun _ => rfl, rfl⟩
/-- A list of its own, place by place. -/
def Cells (B C : Nat) (yo : Option Addr) (n : Nat) (W : World) : Prop := ∀ j, j < n → ∃ g o, yo = some ⟨g, o, none⟩ ∧ B ≤ g ∧ g < C ∧ (W.cell? ⟨g, o + j, none⟩).isSome = true ∧ W.frozen? ⟨g, o + j, none⟩ = false
theorem NumF.cells {B : Nat} {w : World} {v : Value} {L : List Nat} (h : NumF B w v L) : ∃ yo c, v = .slice yo L.length c ∧ Cells B w.heap.size yo L.length w := by
  rcases h with ⟨a, c, rfl, _, rfl⟩ | ⟨g, o, c, rfl, _, h3, h4, h6⟩
  · exact ⟨_, _, rfl, fun j hj => absurd hj (by simp)⟩
  · exact ⟨_, _, rfl, fun j hj => ⟨g, o, rfl, h3, h4, by rw [(h6 j hj).1]; rfl, (h6 j hj).2⟩⟩
theorem Cells.below {B C n : Nat} {yo : Option Addr} {w W : World} (h : Cells B C yo n w) (hb : Below C w W) : Cells B C yo n W := fun j hj => by
  obtain ⟨g, o, h1, h2, h3, h4, h5⟩ := h j hj
  exact ⟨g, o, h1, h2, h3, by rw [hb.cell (p := ⟨g, o + j, none⟩) h3]; exact h4, (hb.frozen (p := ⟨g, o + j, none⟩) h3).trans h5⟩
theorem Cells.set {B C n : Nat} {yo : Option Addr} {w : World} (h : Cells B C yo n w) (p : Addr) (u : Value) : Cells B C yo n (w.setCell p u) := fun j hj => by
  obtain ⟨g, o, h1, h2, h3, h4, h5⟩ := h j hj
  refine ⟨g, o, h1, h2, h3, ?_, by rw [World.frozen?_setCell]; exact h5⟩
  obtain ⟨v', hv⟩ := Option.isSome_iff_exists.1 h4
  obtain ⟨x, hx⟩ := cell?_setCell_some (p := p) (x := u) hv
  rw [hx]
  rfl
set_option maxHeartbeats 8000000 in
set_option maxRecDepth 100000 in
theorem lawOwn_any (l : List Nat) (v : Value) (w : World) (h : NumSl w v l) (_hn : l.length ≤ maxLen) :
    Calls Try.prog 8 #[v] w fun e w' => e = .returned (.bool true) ∧ Below w.heap.size w w' := by
  obtain ⟨a1, c1, rfl, _⟩ := h.shape
  obtain ⟨n1, hnn1⟩ : ∃ n, n = l.length := ⟨_, rfl⟩
  rw [← hnn1] at _hn ⊢
  unfold maxLen at _hn
  obtain ⟨m1, q1, r1, s1, t1⟩ := min_of 60 60 rfl n1
  obtain ⟨src1, hr1, hs1⟩ := num_take h m1 (by omega)
  rw [← hnn1] at hr1
  have hz1 : (l.take m1).length ≤ 60 := by rw [List.length_take]; omega
  obtain ⟨u1, hu1⟩ : ∃ u, l.take m1 = u := ⟨_, rfl⟩
  rw [hu1] at hs1 hz1
  have HS1 := Lib.hid hs1
  have hof1 := ofP_few (L := u1) (by omega)
  have hrt1 := right_of (L := u1) (by omega)
  have hxl1 : (ofN u1).length ≤ 64 := Nat.le_trans (of_len u1) (by omega)
  obtain ⟨X, hX⟩ : ∃ X, ofN u1 = X := ⟨_, rfl⟩
  rw [hX] at hof1 hrt1 hxl1
  have O1 := Lib.hid (fun W v h => xOf_any u1 v W h (by omega))
  rw [hof1] at O1
  have hself := merge_self hrt1
  have hnone := merge_none hrt1
  have M1 := Lib.hid (fun W va vb hA hB => xMerge_any X [] va vb W hA hB (by omega) (by simp))
  have M2 := Lib.hid (fun W va vb hA hB => xMerge_any X X va vb W hA hB (by omega) (by omega))
  rw [hself] at M2
  rw [hnone] at M1
  have S1 := Lib.hid (fun W va vb hA hB => xSame_any X X va vb W hA hB (by omega) (by omega))
  rw [decide_eq_true rfl] at S1
  clear hof1 hX hu1 hs1 hnn1 h hself hnone hrt1
  go_enter Try.func8, Try.ntmps8
  go_wp2_with fail
  with_reducible refine (shown6_any _).mono ?_
  rintro e w1 ⟨rfl, hk⟩
  go_wp2_with fail
  with_reducible refine (O1.out _ _ (HS1.out.below hk)).mono ?_
  rintro e x1 ⟨⟨y1, rfl, z1⟩, hb⟩
  have hk := hk.trans (hb.mono hk.size)
  obtain ⟨ao1, cc1, rfl, _⟩ := z1.sl.shape
  have zs1 : NumSl x1 (.slice ao1 X.length cc1) X := z1.sl
  obtain ⟨w2, hw2, hb2, at1⟩ := at_new x1 (.slice ao1 X.length cc1) X zs1
  have hk := hk.trans (hb2.mono hk.size)
  clear zs1 z1
  have k1 := at1.cell
  go_wp2_with fail
  with_reducible refine (M1.out _ _ _ at1.sl (num_nil _)).mono ?_
  rintro e x2 ⟨⟨y2, rfl, z2⟩, hb⟩
  have hkB := hb
  have hkW := hk
  have hk := hk.trans (hb.mono hk.size)
  have at1W := at1
  have at1 := at1.on hb
  obtain ⟨yo, cc2, rfl, hcl⟩ := z2.cells
  have zs2 : NumSl x2 (.slice yo X.length cc2) X := z2.sl
  obtain ⟨w3, hw3, hb3, at2⟩ := at_new x2 (.slice yo X.length cc2) X zs2
  have hk := hk.trans (hb3.mono hk.size)
  have hkB := hkB.trans (hb3.mono hkB.size)
  have at1 := at1.on hb3
  have hcl := hcl.below hb3
  have hz3 : x2.heap.size < w3.heap.size := at2.2.2
  clear k1
  clear zs2 z2
  have k1 := at1.cell
  go_wp2_with fail
  with_reducible refine (M2.out _ _ _ at1.sl at1.sl).mono ?_
  rintro e x3 ⟨⟨y3, rfl, z3⟩, hb⟩
  have hk := hk.trans (hb.mono hk.size)
  have hkB := hkB.trans (hb.mono hkB.size)
  have at2c : x3.cell? ⟨x2.heap.size, 0, none⟩ = some (.slice yo X.length cc2) := (hb.cell (p := ⟨x2.heap.size, 0, none⟩) hz3).trans at2.cell
  have hcl := hcl.below (hb.mono (Nat.le_of_lt hz3))
  obtain ⟨ao3, cc3, rfl, _⟩ := z3.sl.shape
  have hzz : w3.heap.size ≤ x3.heap.size := hb.size
  have z3 : NumF w3.heap.size x3 (.slice ao3 X.length cc3) X := z3
  obtain ⟨w4, hw4, hb4, at3⟩ := at_new x3 (.slice ao3 X.length cc3) X z3.sl
  have hk := hk.trans (hb4.mono hk.size)
  have hkB := hkB.trans (hb4.mono hkB.size)
  have z4 : NumF w3.heap.size w4 (.slice ao3 X.length cc3) X := z3.keep hb4.size fun b _ h2 => hb4.block b h2
  have at2c4 : w4.cell? ⟨x2.heap.size, 0, none⟩ = some (.slice yo X.length cc2) := (hb4.cell (p := ⟨x2.heap.size, 0, none⟩) (by simp; omega)).trans at2c
  have hcl := hcl.below (hb4.mono (by omega))
  have at3c := at3.cell
  have hz4 : x3.heap.size < w4.heap.size := at3.2.2
  clear k1 z3 at2 at2c at3 at1 hb hb2 hb3 hb4
  obtain ⟨n, hn⟩ : ∃ n, n = X.length := ⟨_, rfl⟩
  have HN := Lib.hid hn
  have hn64 : n ≤ 64 := by omega
  rw [← hn] at hw3 hw4 at2c4 at3c z4 hcl hw2 at1W ⊢
  clear hn
  go_wp2_with fail
  go_loopw [10] (fun i wr => ∃ k : Nat, k ≤ n ∧ i = .int .i64 k ∧ Below w2.heap.size w2 wr ∧ wr.cell? ⟨x2.heap.size, 0, none⟩ = some (.slice yo n cc2) ∧ wr.cell? ⟨x3.heap.size, 0, none⟩ = some (.slice ao3 n cc3) ∧ NumF w3.heap.size wr (.slice ao3 n cc3) X ∧ x3.heap.size < wr.heap.size ∧ Cells w2.heap.size x2.heap.size yo n wr) (fun i _ => n - (intOf i).toNat)
  case atStart => exact ⟨0, Nat.zero_le _, rfl, hkB, at2c4, at3c, z4, hz4, hcl⟩
  case round =>
    obtain ⟨k, hkn, rfl, hbel, cy, cz, hzf, hzlt, hcl⟩ := hrel
    by_cases hlt : k < n
    · obtain ⟨g, o, rfl, hg1, hg2, hsome, hfr⟩ := hcl k hlt
      have HCL := Lib.hid (hcl.set ⟨g, o + k, none⟩ (.int .u64 7))
      have HB := Lib.hid (hbel.setCell (p := ⟨g, o + k, none⟩) hg1 (.int .u64 7))
      have HC := Lib.hid ((World.cell?_setCell_far wr ⟨g, o + k, none⟩ ⟨x2.heap.size, 0, none⟩ (.int .u64 7) (by simp; omega)).trans cy)
      have HZ := Lib.hid ((World.cell?_setCell_far wr ⟨g, o + k, none⟩ ⟨x3.heap.size, 0, none⟩ (.int .u64 7) (by simp; omega)).trans cz)
      have HF : Hid (NumF w3.heap.size (wr.setCell ⟨g, o + k, none⟩ (.int .u64 7)) (.slice ao3 n cc3) X) := hzf.keep (by simp) fun b h1 h2 => Below.heap_setCell wr ⟨g, o + k, none⟩ _ b (by simp; omega)
      obtain ⟨old, hold⟩ := Option.isSome_iff_exists.1 hsome
      clear hcl hbel hsome hzf
      go_wp2_with fail
      go_roundw
      case rel => exact ⟨k + 1, by omega, by go_num, HB.out, HC.out, HZ.out, HF.out, by simpa using hzlt, HCL.out⟩
      case measure => simp [intOf]; omega
    · have at1 := at1W.on hbel
      have at1c := at1.cell
      have hkk := hkW.trans (hbel.mono hkW.size)
      have hzs := hzf.sl
      have hnl : ¬ (k : Int) < n := by omega
      clear hcl hbel hzf
      go_wp2_with fail
      with_reducible refine (S1.out _ _ _ at1.sl hzs).mono ?_
      rintro e w9 ⟨rfl, hb⟩
      have hkk := hkk.trans (hb.mono hkk.size)
      go_wp2_with fail
      go_ret
      exact ⟨rfl, hkk⟩
end Go.Proofs.Ytncjbbgenngegaa
