/- The statements' walks: shown, few, Few. Wants the contracts of package exact: EC. -/
import Derived.Test.YtncjbbgenngegaaEC
namespace Go.Proofs.Ytncjbbgenngegaa
open Go.RowKit

theorem sh6_a : ofP [5, 3, 5] = ([3, 5], 0) := by decide
theorem sh6_b : addP [3, 5] 4 = ([3, 4, 5], 0) := by decide
theorem sh6_c : addP [2, 1] 4 = ([], 60) := by decide
theorem sh6_d : hasB [3, 4, 5] 4 = true := by decide
theorem sh6_e : countN [3, 4, 5] = 3 := by decide
theorem min_of (b : Nat) (i : Int) (hb : i = b) (n : Nat) : ∃ m : Nat, (if i < (n : Int) then i else (n : Int)) = (m : Int) ∧ m ≤ n ∧ m ≤ b ∧ Hid (m = min b n) := ⟨min b n, by split <;> omega, by omega, by omega, rfl⟩
theorem take_min (L : List Nat) (b : Nat) : L.take (min b L.length) = L.take b := by
  rcases Nat.le_total b L.length with h | h
  · rw [Nat.min_eq_left h]
  · rw [Nat.min_eq_right h, List.take_of_length_le (Nat.le_refl _), List.take_of_length_le h]
set_option maxHeartbeats 2000000 in
set_option maxRecDepth 100000 in
theorem few6_any (L : List Nat) (v : Value) (w : World) (h : NumSl w v L) (_hn : L.length ≤ maxLen) :
    Calls Try.prog 13 #[v] w fun e w' => ∃ v', e = .returned v' ∧ NumSl w v' (L.take 100) ∧ w' = w := by
  have HS := Lib.hid h
  obtain ⟨ao, c, rfl, _⟩ := h.shape
  obtain ⟨n, hnn⟩ : ∃ n, n = L.length := ⟨_, rfl⟩
  rw [← hnn] at _hn ⊢
  unfold maxLen at _hn
  obtain ⟨m, q1, q2, q3, q4⟩ := min_of 100 100 rfl n
  obtain ⟨src, hr, hs⟩ := num_take h m (by omega)
  have HT := Lib.hid hs
  rw [← hnn] at hr
  have h4 : L.take m = L.take 100 := by rw [q4.out, hnn, take_min]
  have H4 := Lib.hid h4
  clear h hs h4 hnn
  go_enter Try.func13, Try.ntmps13
  go_wp2_with fail
  go_ret
  exact ⟨_, rfl, by rw [← H4.out]; exact HT.out, rfl⟩
theorem result_one {fn : Func} {p : Tmp} (h : fn.results = #[.cell p 24]) (tmps : Array Value) (w : World) (g : Nat) (v : Value)
    (hp : tmps.getD p undef = .pointer (some ⟨g, 0, none⟩)) (hg : HasC w g 24 #[v]) : (results fn tmps).run Try.prog w = .ok (.agg #[v]) w :=
  results_cell_row h tmps w g 24 #[v] (0, 0) _ hp hg Try.underlying24 rfl (by kernel_rfl)
set_option maxHeartbeats 2000000 in
set_option maxRecDepth 100000 in
theorem few6x_any (L : List Nat) (v : Value) (w0 : World) (w : World) (h : NumSl w0 v L) (_hn : L.length ≤ maxLen) :
    Calls Try.prog 11 #[.agg #[v]] w fun e w' => (∃ v', e = .returned (.agg #[v']) ∧ NumSl w0 v' (L.take 70)) ∧ Below w.heap.size w w' := by
  obtain ⟨ao, c, rfl, _⟩ := h.shape
  obtain ⟨n, hnn⟩ : ∃ n, n = L.length := ⟨_, rfl⟩
  rw [← hnn] at _hn ⊢
  unfold maxLen at _hn
  obtain ⟨m, q1, q2, q3, q4⟩ := min_of 70 70 rfl n
  obtain ⟨src, hr, hs⟩ := num_take h m (by omega)
  rw [← hnn] at hr
  have h4 : L.take m = L.take 70 := by rw [q4.out, hnn, take_min]
  have hx1 := HasC.new w 24 #[.slice ao n c]
  have hb1 := (Below.refl w.heap.size w).alloc (Nat.le_refl _) (Obj.cells #[.slice ao n c] 24)
  obtain ⟨w1, hw1⟩ : ∃ w1, w.alloc (Obj.cells #[.slice ao n c] 24) = w1 := ⟨_, rfl⟩
  have hz1 : w1.heap.size = w.heap.size + 1 := by rw [← hw1]; simp
  rw [hw1] at hx1 hb1
  have hx2 := HasC.new w1 24 #[.slice none 0 0]
  have hb2 := hb1.alloc (by omega) (Obj.cells #[.slice none 0 0] 24)
  have hy1 := hx1.alloc (Obj.cells #[.slice none 0 0] 24)
  obtain ⟨w2, hw2⟩ : ∃ w2, w1.alloc (Obj.cells #[.slice none 0 0] 24) = w2 := ⟨_, rfl⟩
  rw [hw2] at hx2 hb2 hy1
  rw [hz1] at hx2
  have c0 : w2.cell? ⟨w.heap.size, 0, none⟩ = some (.slice ao n c) := hy1.cell 0
  have c1 : w2.cell? ⟨w.heap.size + 1, 0, none⟩ = some (.slice none 0 0) := hx2.cell 0
  have c2 : w2.frozen? ⟨w.heap.size + 1, 0, none⟩ = false := hx2.frozen 0
  have HX2 := Lib.hid hx2
  have HT := Lib.hid hs
  have HB := Lib.hid hb2
  have H4 := Lib.hid h4
  obtain ⟨ao3, c3, rfl, _⟩ := hs.shape
  rw [List.length_take, Nat.min_eq_left (by omega)] at hr HT
  clear h hs h4 hnn hx1 hx2 hy1 hb1 hb2
  go_enter Try.func11, Try.ntmps11
  go_wp2_with fail
  have hcl2 : HasC (w2.setCell ⟨w.heap.size + 1, 0, none⟩ (.slice ao3 m c3)) (w.heap.size + 1) 24 #[.slice ao3 m c3] := HasC.eq (HX2.out.set 0 _) rfl
  have hb3 := HB.out.setCell (p := ⟨w.heap.size + 1, 0, none⟩) (by simp) (.slice ao3 m c3)
  refine ⟨rfl, _, result_one rfl _ _ (w.heap.size + 1) _ rfl hcl2, ⟨_, rfl, by rw [← H4.out]; exact HT.out⟩, hb3⟩
set_option maxHeartbeats 4000000 in
set_option maxRecDepth 100000 in
theorem shown6_any (w : World) : Calls Try.prog 10 #[] w fun e w' => e = .returned (.bool true) ∧ Below w.heap.size w w' := by
  have O1 := Lib.hid (fun W v h => xOf_any [5, 3, 5] v W h (by decide))
  have A1 : Hid (∀ W v, NumSl W v [3, 5] → Calls Try.prog 23 #[.agg #[v], .int .u64 4] W fun e w' => OfX W.heap.size ([3, 4, 5], 0) e w' ∧ Below W.heap.size W w') := fun W v h => sh6_b ▸ xAdd_any [3, 5] 4 v W h (by decide)
  have A2 : Hid (∀ W v, NumSl W v [2, 1] → Calls Try.prog 23 #[.agg #[v], .int .u64 4] W fun e w' => OfX W.heap.size ([], 60) e w' ∧ Below W.heap.size W w') := fun W v h => sh6_c ▸ xAdd_any [2, 1] 4 v W h (by decide)
  have N1 := Lib.hid (fun W va vb hA hB => eNums_any [3, 5] [3, 5] va vb W hA hB (by decide) (by decide))
  have H1 : Hid (∀ W v, NumSl W v [3, 4, 5] → Calls Try.prog 18 #[.agg #[v], .int .u64 4] W fun e w' => e = .returned (.bool true) ∧ Below W.heap.size W w') := fun W v h => sh6_d ▸ xHas_any [3, 4, 5] 4 v W h (by decide)
  have C1 : Hid (∀ W v, NumSl W v [3, 4, 5] → Calls Try.prog 20 #[.agg #[v]] W fun e w' => e = .returned (.int .u64 3) ∧ Below W.heap.size W w') := fun W v h => by
    have h2 := xCount_any [3, 4, 5] v W h (by decide)
    rw [sh6_e] at h2
    exact h2
  rw [sh6_a] at O1
  rw [decide_eq_true rfl] at N1
  go_enter Try.func10, Try.ntmps10
  go_wp2_with fail
  have hv : NumSl (w.alloc (Obj.cells #[.int .u64 5, .int .u64 3, .int .u64 5] 25)) (.slice (some ⟨w.heap.size, 0, none⟩) 3 3) [5, 3, 5] := num_built w [5, 3, 5] #[nV 5, nV 3, nV 5] rfl 3 rfl
  have hb1 := (Below.refl w.heap.size w).alloc (Nat.le_refl _) (Obj.cells #[.int .u64 5, .int .u64 3, .int .u64 5] 25)
  with_reducible refine (O1.out _ _ hv).mono ?_
  rintro e w2 ⟨⟨v2, rfl, hv2⟩, hb⟩
  have hb2 := hb1.trans (hb.mono hb1.size)
  clear hv hb hb1
  obtain ⟨ao2, c2, rfl, _⟩ := hv2.sl.shape
  have hv2s : NumSl w2 (.slice ao2 2 c2) [3, 5] := hv2.sl
  dsimp only [List.length_cons, List.length_nil]
  obtain ⟨w3, hw3, hb3, hbox3⟩ := box_new w2 (.slice ao2 2 c2) 24
  have hv3 := hv2s.below hb3
  have hbb3 := hb2.trans (hb3.mono hb2.size)
  have HB3 := Lib.hid hbox3
  have c30 := hbox3 w3 (Below.refl _ _)
  have HW3 := Lib.hid hbb3
  clear hv2 hv2s hb2 hb3 hbox3 hbb3
  go_wp2_with fail
  with_reducible refine (A1.out _ _ hv3).mono ?_
  rintro e w4 ⟨⟨v4, rfl, hv4⟩, hb⟩
  have HK4 := Lib.hid hb
  obtain ⟨ao4, c4, rfl, _⟩ := hv4.sl.shape
  have hv4s : NumSl w4 (.slice ao4 3 c4) [3, 4, 5] := hv4.sl
  dsimp only [List.length_cons, List.length_nil]
  have hv34 := hv3.below hb
  obtain ⟨w5, hw5, hb5, hbox5⟩ := box_new w4 (.slice ao4 3 c4) 24
  have hk5 : Below w3.heap.size w3 w5 := hb.trans (hb5.mono hb.size)
  have hv5 := hv4s.below hb5
  have hv35 := hv34.below hb5
  have HB5 := Lib.hid hbox5
  have HK5 := Lib.hid hk5
  clear hv4 hv4s hb hb5 hbox5 hk5 hv3 hv34 c30
  go_wp2_with fail
  have hv6 : NumSl (w5.alloc (Obj.cells #[.int .u64 2, .int .u64 1] 25)) (.slice (some ⟨w5.heap.size, 0, none⟩) 2 2) [2, 1] := num_built w5 [2, 1] #[nV 2, nV 1] rfl 2 rfl
  have hb6 := (Below.refl w5.heap.size w5).alloc (Nat.le_refl _) (Obj.cells #[.int .u64 2, .int .u64 1] 25)
  with_reducible refine (A2.out _ _ hv6).mono ?_
  rintro e w7 ⟨⟨v7, rfl, hv7⟩, hb⟩
  have hb7 := hb6.trans (hb.mono hb6.size)
  obtain ⟨ao7, c7, rfl, _⟩ := hv7.sl.shape
  dsimp only [List.length_cons, List.length_nil]
  obtain ⟨w8, hw8, hb8, hbox8⟩ := box_new w7 (.slice ao7 0 c7) 24
  have hk8 : Below w5.heap.size w5 w8 := hb7.trans (hb8.mono hb7.size)
  have hb38 : Below w3.heap.size w3 w8 := HK5.out.trans (hk8.mono HK5.out.size)
  have c3 := HB3.out w8 hb38
  have c5 := HB5.out w8 hk8
  have hv38 := hv35.below hk8
  have hv58 := hv5.below hk8
  have HK8 := Lib.hid hk8
  have HK38 := Lib.hid hb38
  clear hv6 hb6 hb hb7 hv7 hb8 hbox8 hk8 hb38 hv35 hv5
  go_wp2_with fail
  have hv9 : NumSl (w8.alloc (Obj.cells #[.int .u64 3, .int .u64 5] 25)) (.slice (some ⟨w8.heap.size, 0, none⟩) 2 2) [3, 5] := num_built w8 [3, 5] #[nV 3, nV 5] rfl 2 rfl
  have hb9 := (Below.refl w8.heap.size w8).alloc (Nat.le_refl _) (Obj.cells #[.int .u64 3, .int .u64 5] 25)
  have hv39 := hv38.below hb9
  with_reducible refine (N1.out _ _ _ hv39 hv9).mono ?_
  rintro e w10 ⟨rfl, hb⟩
  have hb10 := hb9.trans (hb.mono hb9.size)
  have hk10 := HK8.out.trans (hb10.mono HK8.out.size)
  have c10 := HB5.out w10 hk10
  have hv10 := hv58.below hb10
  clear hv9 hb9 hv39 hb hb10 c3 c5 hv38 hv58
  go_wp2_with fail
  with_reducible refine (H1.out _ _ hv10).mono ?_
  rintro e w11 ⟨rfl, hb⟩
  have hk11 := hk10.trans (hb.mono hk10.size)
  have c11 := HB5.out w11 hk11
  have hv11 := hv10.below hb
  clear hb c10 hv10 hk10
  go_wp2_with fail
  with_reducible refine (C1.out _ _ hv11).mono ?_
  rintro e w12 ⟨rfl, hb⟩
  have hk12 := hk11.trans (hb.mono hk11.size)
  clear hb c11 hv11 hk11
  go_wp2_with fail
  go_ret
  exact ⟨rfl, HW3.out.trans ((HK5.out.trans (hk12.mono HK5.out.size)).mono HW3.out.size)⟩
end Go.Proofs.Ytncjbbgenngegaa
