/- The statements' walks: shown, few, Few; the contracts at right registers. Wants the contracts of package hll: HC. -/
import Derived.Test.YtnljepnmajcmgaaHC
namespace Go.Proofs.Ytnljepnmajcmgaa
open Go.RowKit

theorem size7 {n : Nat} (h8 : n ≤ 8) (l : List Nat) : (ofR n l).length ≤ 300 := by rw [of_size]; have := pow_le8 h8; omega
theorem kOf {n : Nat} (h3 : 3 ≤ n) (h8 : n ≤ 8) (l : List Nat) (hn : l.length ≤ 200) (hl : ∀ x ∈ l, x < 18446744073709551616) (v : Value) (W : World) (h : NumSl W v l) :
    Calls Try.prog 12 #[.int .i64 (n : Int), v] W fun e w' => e = .returned (.tuple #[.agg #[.int .i64 (n : Int), .string (regS (ofR n l))], .int .i64 0]) ∧ Below W.heap.size W w' := by
  have := hOf_any (n : Int) l v W h hn hl
  rw [ofH_ok h3 h8] at this
  exact this
theorem kOf_bad {b : Int} (hb : okB b = false) (l : List Nat) (hn : l.length ≤ 200) (hl : ∀ x ∈ l, x < 18446744073709551616) (v : Value) (W : World) (h : NumSl W v l) :
    Calls Try.prog 12 #[.int .i64 b, v] W fun e w' => e = .returned (.tuple #[.agg #[.int .i64 0, .string { data := #[] }], .int .i64 70]) ∧ Below W.heap.size W w' := by
  have := hOf_any b l v W h hn hl
  rw [ofH_bad hb] at this
  exact this
theorem kNew {n : Nat} (h3 : 3 ≤ n) (h8 : n ≤ 8) (W : World) :
    Calls Try.prog 19 #[.int .i64 (n : Int)] W fun e w' => e = .returned (.tuple #[.agg #[.int .i64 (n : Int), .string (regS (ofR n []))], .int .i64 0]) ∧ Below W.heap.size W w' := by
  have := hNew_any (n : Int) W
  rw [show newH (n : Int) = (((n : Int), ofR n []), 0) by unfold newH; rw [okB_of h3 h8]; rfl] at this
  exact this
theorem kAdd {n : Nat} (h3 : 3 ≤ n) (h8 : n ≤ 8) (l : List Nat) (x : Nat) (hx : x < 18446744073709551616) (W : World) :
    Calls Try.prog 15 #[.agg #[.int .i64 (n : Int), .string (regS (ofR n l))], nV x] W fun e w' => e = .returned (.tuple #[.agg #[.int .i64 (n : Int), .string (regS (ofR n (l ++ [x])))], .int .i64 0]) ∧ Below W.heap.size W w' := by
  have := hAdd_any (n : Int) (ofR n l) x W (byteL_of l) (size7 h8 l) hx
  rw [addH_of h3 h8] at this
  exact this
theorem kMerge {n : Nat} (h3 : 3 ≤ n) (h8 : n ≤ 8) (l m : List Nat) (W : World) :
    Calls Try.prog 23 #[.agg #[.int .i64 (n : Int), .string (regS (ofR n l))], .agg #[.int .i64 (n : Int), .string (regS (ofR n m))]] W fun e w' => e = .returned (.tuple #[.agg #[.int .i64 (n : Int), .string (regS (ofR n (l ++ m)))], .int .i64 0]) ∧ Below W.heap.size W w' := by
  have := hMerge_any (n : Int) (ofR n l) (n : Int) (ofR n m) W (byteL_of l) (byteL_of m) (size7 h8 l) (size7 h8 m)
  rw [mergeH_of h3 h8] at this
  exact this
theorem kLower {n : Nat} (h4 : 4 ≤ n) (h8 : n ≤ 8) (l : List Nat) (W : World) :
    Calls Try.prog 25 #[.agg #[.int .i64 (n : Int), .string (regS (ofR n l))]] W fun e w' => e = .returned (.tuple #[.agg #[.int .i64 ((n - 1 : Nat) : Int), .string (regS (ofR (n - 1) l))], .int .i64 0]) ∧ Below W.heap.size W w' := by
  have := hLower_any (n : Int) (ofR n l) W (byteL_of l) (size7 h8 l)
  rw [lowerH_of h4 h8] at this
  exact this
theorem kCount {n : Nat} (h8 : n ≤ 8) (l : List Nat) (W : World) :
    Calls Try.prog 27 #[.agg #[.int .i64 (n : Int), .string (regS (ofR n l))]] W fun e w' => e = .returned (nV (countH (n : Int) (ofR n l))) ∧ Below W.heap.size W w' :=
  hCount_any (n : Int) (ofR n l) W (byteL_of l) (size7 h8 l)
theorem kRight {n : Nat} (h3 : 3 ≤ n) (h8 : n ≤ 8) (l : List Nat) (W : World) :
    Calls Try.prog 21 #[.agg #[.int .i64 (n : Int), .string (regS (ofR n l))]] W fun e w' => e = .returned (.bool true) ∧ Below W.heap.size W w' := by
  have := hRight_any (n : Int) (ofR n l) W (byteL_of l) (size7 h8 l)
  rw [right_ofR h3 h8] at this
  exact this
theorem min_of (b : Nat) (i : Int) (hb : i = b) (n : Nat) : ∃ m : Nat, (if i < (n : Int) then i else (n : Int)) = (m : Int) ∧ m ≤ n ∧ m ≤ b ∧ Hid (m = min b n) := ⟨min b n, by split <;> omega, by omega, by omega, rfl⟩
theorem take_min (L : List Nat) (b : Nat) : L.take (min b L.length) = L.take b := by
  rcases Nat.le_total b L.length with h | h
  · rw [Nat.min_eq_left h]
  · rw [Nat.min_eq_right h, List.take_of_length_le (Nat.le_refl _), List.take_of_length_le h]
set_option maxHeartbeats 2000000 in
set_option maxRecDepth 100000 in
theorem few7_any (L : List Nat) (v : Value) (w : World) (h : NumSl w v L) (_hn : L.length ≤ maxLen) :
    Calls Try.prog 13 #[v] w fun e w' => ∃ v', e = .returned v' ∧ NumSl w v' (L.take 100) ∧ w' = w := by
  have HS := Lib.hid h
  obtain ⟨ao, c, rfl, _⟩ := h.shape
  obtain ⟨n, hnn⟩ : ∃ n, n = L.length := ⟨_, rfl⟩
  rw [← hnn] at _hn ⊢
  unfold maxLen at _hn
  obtain ⟨m, q1, q2, q3, q4⟩ := min_of 100 100 rfl n
  have q5 : min (n : Int) 100 = (m : Int) := by have := q4.out; omega
  obtain ⟨src, hr, hs⟩ := num_take h m (by omega)
  have HT := Lib.hid hs
  rw [← hnn] at hr
  have h4 : L.take m = L.take 100 := by rw [q4.out, hnn, take_min]
  have H4 := Lib.hid h4
  clear h hs h4 hnn
  go_enter Try.func13, Try.ntmps13
  go_wp2_with fail
  go_ret
  exact ⟨_, rfl, by rw [← H4.out]; exact HT.out, rfl⟩
theorem num_built (w : World) (L : List Nat) (cs : Array Value) (hcs : cs = (numL L).toArray) (n : Nat) (hn : n = L.length) : NumSl (w.alloc (Obj.cells cs 25)) (.slice (some ⟨w.heap.size, 0, none⟩) n n) L := by
  subst hn hcs
  refine .inr ⟨w.heap.size, 0, L.length, rfl, Nat.le_refl _, by simp, fun j hj => ?_⟩
  rw [Nat.zero_add]
  exact (World.cell?_alloc_at _ _ _ _ rfl).trans (by simp [numL, hj])
/-- A cell that holds registers. -/
def AtH (W : World) (b : Nat) (bits : Int) (s : ByteArray) : Prop := HasC W b 23 #[.int .i64 bits, .string s]
theorem AtH.on {W W' : World} {b : Nat} {bits : Int} {s : ByteArray} (h : AtH W b bits s) (hb : Below W.heap.size W W') : AtH W' b bits s := HasC.below h hb (HasC.lt h)
theorem AtH.c0 {W : World} {b : Nat} {bits : Int} {s : ByteArray} (h : AtH W b bits s) : W.cell? ⟨b, 0, none⟩ = some (.int .i64 bits) := HasC.cell h 0
theorem AtH.c1 {W : World} {b : Nat} {bits : Int} {s : ByteArray} (h : AtH W b bits s) : W.cell? ⟨b, 1, none⟩ = some (.string s) := HasC.cell h 1
theorem atH_new (W : World) (bits : Int) (s : ByteArray) : ∃ W', W.alloc (Obj.cells #[.int .i64 bits, .string s] 23) = W' ∧ Below W.heap.size W W' ∧ AtH W' W.heap.size bits s :=
  ⟨_, rfl, (Below.refl W.heap.size W).alloc (Nat.le_refl _) _, HasC.new W _ _⟩
theorem sh7_a : placeH 3 9223372036854775808 = (4, 62) := by decide +kernel
theorem sh7_b : placeH 3 3458764513820540928 = (1, 1) := by decide +kernel
set_option maxHeartbeats 4000000 in
set_option maxRecDepth 100000 in
theorem shown7_any (w : World) : Calls Try.prog 10 #[] w fun e w' => e = .returned (.bool true) ∧ Below w.heap.size w w' := by
  have P1 : Hid (∀ W, Calls Try.prog 17 #[.int .i64 3, .int .u64 9223372036854775808] W fun e w' => e = .returned (.tuple #[.int .i64 4, .int .i64 62]) ∧ Below W.heap.size W w') := fun W => by
    have := hPlace_any 3 9223372036854775808 W (by decide)
    rw [sh7_a] at this
    exact this
  have P2 : Hid (∀ W, Calls Try.prog 17 #[.int .i64 3, .int .u64 3458764513820540928] W fun e w' => e = .returned (.tuple #[.int .i64 1, .int .i64 1]) ∧ Below W.heap.size W w') := fun W => by
    have := hPlace_any 3 3458764513820540928 W (by decide)
    rw [sh7_b] at this
    exact this
  have N1 : Hid (∀ W, Calls Try.prog 19 #[.int .i64 9] W fun e w' => e = .returned (.tuple #[.agg #[.int .i64 0, .string { data := #[] }], .int .i64 70]) ∧ Below W.heap.size W w') := fun W => by
    have := hNew_any 9 W
    rw [show newH 9 = badR from by decide] at this
    exact this
  obtain ⟨S, hS⟩ : ∃ S, regS (ofR 3 [9223372036854775808]) = S := ⟨_, rfl⟩
  have O1 : Hid (∀ W v, NumSl W v [9223372036854775808] → Calls Try.prog 12 #[.int .i64 3, v] W fun e w' => e = .returned (.tuple #[.agg #[.int .i64 3, .string S], .int .i64 0]) ∧ Below W.heap.size W w') := fun W v h => hS ▸ kOf (n := 3) (by decide) (by decide) [9223372036854775808] (by decide) (by decide) v W h
  have R1 : Hid (∀ W, Calls Try.prog 21 #[.agg #[.int .i64 3, .string S]] W fun e w' => e = .returned (.bool true) ∧ Below W.heap.size W w') := fun W => hS ▸ kRight (n := 3) (by decide) (by decide) [9223372036854775808] W
  clear hS
  go_enter Try.func10, Try.ntmps10
  go_wp2_with fail
  with_reducible refine (P1.out _).mono ?_
  rintro e w1 ⟨rfl, hk⟩
  go_wp2_with fail
  with_reducible refine (P2.out _).mono ?_
  rintro e w2 ⟨rfl, hb⟩
  have hk := hk.trans (hb.mono hk.size)
  go_wp2_with fail
  with_reducible refine (N1.out _).mono ?_
  rintro e w3 ⟨rfl, hb⟩
  have hk := hk.trans (hb.mono hk.size)
  have hb4 := (Below.refl w3.heap.size w3).alloc (Nat.le_refl _) (Obj.cells #[.int .i64 0, .string { data := #[] }] 23)
  have hk := hk.trans (hb4.mono hk.size)
  clear hb
  go_wp2_with fail
  have hz : (w3.alloc (Obj.cells #[.int .i64 0, .string { data := #[] }] 23)).heap.size = w3.heap.size + 1 := World.size_alloc _ _
  generalize w3.alloc (Obj.cells #[.int .i64 0, .string { data := #[] }] 23) = w4 at hb4 hk hz ⊢
  have hv : NumSl (w4.alloc (Obj.cells #[.int .u64 9223372036854775808] 25)) (.slice (some ⟨w3.heap.size + 1, 0, none⟩) 1 1) [9223372036854775808] := by rw [← hz]; exact num_built w4 [9223372036854775808] #[nV 9223372036854775808] rfl 1 rfl
  have hb5 := (Below.refl w4.heap.size w4).alloc (Nat.le_refl _) (Obj.cells #[.int .u64 9223372036854775808] 25)
  have hk := hk.trans (hb5.mono hk.size)
  clear hz
  with_reducible refine (O1.out _ _ hv).mono ?_
  rintro e w5 ⟨rfl, hb⟩
  have hk := hk.trans (hb.mono hk.size)
  obtain ⟨w6, hw6, hb6, at2⟩ := atH_new w5 3 S
  have hk := hk.trans (hb6.mono hk.size)
  have k0 := at2.c0
  have k1 := at2.c1
  clear hb hv
  go_wp2_with fail
  with_reducible refine (R1.out _).mono ?_
  rintro e w7 ⟨rfl, hb⟩
  have hk := hk.trans (hb.mono hk.size)
  go_wp2_with fail
  go_ret
  exact ⟨rfl, hk⟩
end Go.Proofs.Ytnljepnmajcmgaa
