/- The statements' walks, stage 9: the first of the bins, histograms of items; what the calls tell of them. -/
import Derived.Test.YtpdedogdffolnaaGHC
import Derived.TacticsInMore
import Derived.LoopNIn
import Derived.LoopIn
namespace Go.Proofs.Ytpdedogdffolnaa
open Go.RowKit

theorem min_ofG (b : Nat) (i : Int) (hb : i = b) (n : Nat) : ∃ m : Nat, (if i < (n : Int) then i else (n : Int)) = (m : Int) ∧ m ≤ n ∧ m ≤ b ∧ Hid (m = min b n) := ⟨min b n, by split <;> omega, by omega, by omega, rfl⟩
theorem take_minG {α : Type} (L : List α) (b : Nat) : L.take (min b L.length) = L.take b := by
  rcases Nat.le_total b L.length with h | h
  · rw [Nat.min_eq_left h]
  · rw [Nat.min_eq_right h, List.take_of_length_le (Nat.le_refl _), List.take_of_length_le h]
theorem result_hist {fn : Func} {p : Tmp} (h : fn.results = #[.cell p 25]) (tmps : Array Value) (w : World) (g : Nat) (a b : Value)
    (hp : tmps.getD p undef = .pointer (some ⟨g, 0, none⟩)) (hg : HasC w g 25 #[a, b]) : (results fn tmps).run Try.prog w = .ok (.agg #[a, b]) w :=
  results_cell_row h tmps w g 25 #[a, b] (0, 0) _ hp hg Try.underlying25 rfl (by kernel_rfl)
def FewG (w : World) (f : Int) (v : Value) (W : World) : Prop := HasC W w.heap.size 25 #[.int .i64 f, v] ∧ HasC W (w.heap.size + 1) 25 #[.int .i64 0, .slice none 0 0] ∧ Below w.heap.size w W
theorem FewG.new (w : World) (f : Int) (v : Value) : FewG w f v ((w.alloc (Obj.cells #[.int .i64 f, v] 25)).alloc (Obj.cells #[.int .i64 0, .slice none 0 0] 25)).drew :=
  ⟨((HasC.new w _ _).alloc _).drew, (HasC.at_ _ _ _ (by simp)).drew, (((Below.refl w.heap.size w).alloc (Nat.le_refl _) _).alloc (by simp) _).drew⟩
set_option maxHeartbeats 4000000 in
set_option maxRecDepth 100000 in
theorem few9x_any (f : Int) (L : List Bn) (v : Value) (w0 w : World) (h : BinSl w0 v L) (_hn : L.length ≤ maxLen) :
    Calls Try.prog 12 #[hgV f v] w fun e w' => (∃ v', e = .returned (hgV f v') ∧ BinSl w0 v' (L.take 300)) ∧ Below w.heap.size w w' := by
  obtain ⟨ao, cp, rfl, _⟩ := h.shape
  obtain ⟨n, hnn⟩ : ∃ n, n = L.length := ⟨_, rfl⟩
  rw [← hnn] at _hn ⊢
  unfold maxLen at _hn
  obtain ⟨m, q1, q2, q3, q4⟩ := min_ofG 300 300 rfl n
  have q5 : min (n : Int) 300 = (m : Int) := by have := q4.out; omega
  obtain ⟨src, hr, hs⟩ := bin_take h m (by omega)
  rw [← hnn] at hr
  have h4 : L.take m = L.take 300 := by rw [q4.out, hnn, take_minG]
  have H4 := Lib.hid h4
  have HT := Lib.hid hs
  obtain ⟨ao3, c3, rfl, _⟩ := hs.shape
  rw [List.length_take, Nat.min_eq_left (by omega)] at hr HT
  have HF := Lib.hid (FewG.new w f (.slice ao n cp))
  clear h hs h4 hnn
  unfold hgV
  go_enter Try.func12, Try.ntmps12
  go_wp2_with fail
  refine region_tail 10 (FewG w f (.slice ao n cp)) (by kernel_rfl) (by kernel_rfl) HF.out ?_
  intro hne
  have e0 : ∀ i : InC (FewG w f (.slice ao n cp)), i.w.cell? ⟨w.heap.size, 0, none⟩ = some (.int .i64 f) := fun i => i.h.1.cell 0
  have e1 : ∀ i : InC (FewG w f (.slice ao n cp)), i.w.cell? ⟨w.heap.size, 1, none⟩ = some (.slice ao n cp) := fun i => i.h.1.cell 1
  simp only [List.take_succ_cons, List.take_zero, List.drop_succ_cons, List.drop_zero]
  repeat (go_big_quiet_step (fail))
  refine wpQuiet_nil ?_
  clear e0 e1 hne
  rintro ⟨w3, hC3⟩
  dsimp only
  have d0 : w3.cell? ⟨w.heap.size + 1, 0, none⟩ = some (.int .i64 0) := hC3.2.1.cell 0
  have d1 : w3.cell? ⟨w.heap.size + 1, 1, none⟩ = some (.slice none 0 0) := hC3.2.1.cell 1
  have z0 := hC3.2.1.frozen 0
  have z1 := hC3.2.1.frozen 1
  go_wp2_with fail
  have hr6 := ((hC3.2.1.set 0 (.int .i64 f)).set 1 (.slice ao3 m c3)).eq (cs' := #[.int .i64 f, .slice ao3 m c3]) rfl
  refine bodyPost_ret (result_hist rfl _ _ (w.heap.size + 1) _ _ rfl hr6) rfl ?_
  exact ⟨⟨_, rfl, by rw [← H4.out]; exact HT.out⟩, (hC3.2.2.setCell (p := ⟨w.heap.size + 1, 0, none⟩) (by simp) _).setCell (p := ⟨w.heap.size + 1, 1, none⟩) (by simp) _⟩
/-- A cell that holds a histogram. -/
def AtG (W : World) (b : Nat) (f : Int) (v : Value) : Prop := HasC W b 25 #[.int .i64 f, v]
theorem AtG.on {W W' : World} {b : Nat} {f : Int} {v : Value} (h : AtG W b f v) (hb : Below W.heap.size W W') : AtG W' b f v := HasC.below h hb (HasC.lt h)
theorem AtG.c0 {W : World} {b : Nat} {f : Int} {v : Value} (h : AtG W b f v) : W.cell? ⟨b, 0, none⟩ = some (.int .i64 f) := HasC.cell h 0
theorem AtG.c1 {W : World} {b : Nat} {f : Int} {v : Value} (h : AtG W b f v) : W.cell? ⟨b, 1, none⟩ = some v := HasC.cell h 1
theorem AtG.put {W : World} {b : Nat} {f g : Int} {v u : Value} (h : AtG W b f v) : AtG ((W.setCell ⟨b, 0, none⟩ (.int .i64 g)).setCell ⟨b, 1, none⟩ u) b g u := HasC.eq ((HasC.set h 0 (.int .i64 g)).set 1 u) rfl
theorem atG_new (W : World) (f : Int) (v : Value) : ∃ W', W.alloc (Obj.cells #[.int .i64 f, v] 25) = W' ∧ Below W.heap.size W W' ∧ W'.heap.size = W.heap.size + 1 ∧ AtG W' W.heap.size f v :=
  ⟨_, rfl, (Below.refl W.heap.size W).alloc (Nat.le_refl _) _, World.size_alloc _ _, HasC.new W _ _⟩
/-! Histograms of items. -/
def ItOk (l : List (Nat × Nat)) : Prop := l.length ≤ 200 ∧ ∀ x ∈ l, x.1 ≤ topN ∧ x.2 ≤ topN
theorem of_lenG (n : Nat) (l : List (Nat × Nat)) : (ofG n l).length ≤ l.length := by
  have := fold_len (fun i : Nat × Nat => (bktP n i.1 : Int)) (fun i => i.2) l []
  unfold ofG
  simpa using this
theorem okP_le {f a : Nat} (h : okP f a = true) : a ≤ 64 * 2 ^ f := by
  unfold okP at h
  rcases (Bool.or_eq_true _ _).mp h with h | h
  · have := of_decide_eq_true h
    omega
  · exact of_decide_eq_true ((Bool.and_eq_true _ _).mp h).1
theorem gok_of {n : Nat} (hn : n ≤ 3) {l : List (Nat × Nat)} (h : ItOk l) : GOk (n : Int) (ofG n l) := by
  refine ⟨⟨by omega, by omega⟩, Nat.le_trans (of_lenG n l) (by have := h.1; omega), fun x hx => ⟨?_, (of_riseG n fun y hy => (h.2 y hy).2).le x hx⟩⟩
  obtain ⟨h1, h2⟩ := of_ok n (fun y hy => (h.2 y hy).1) x hx
  have h3 := okP_le h2
  have h4 : 2 ^ n ≤ 2 ^ 3 := Nat.pow_le_pow_right (by decide) hn
  exact ⟨by omega, by omega⟩
theorem ItOk.nil : ItOk [] := ⟨Nat.zero_le _, fun x hx => by cases hx⟩
theorem ItOk.sub {l m : List (Nat × Nat)} (h : ItOk l) (hl : m.length ≤ l.length) (hm : ∀ x ∈ m, x ∈ l) : ItOk m := ⟨Nat.le_trans hl h.1, fun x hx => h.2 x (hm x hx)⟩
theorem ItOk.snoc {l : List (Nat × Nat)} (h : ItOk l) (hl : l.length + 1 ≤ 200) {x c : Nat} (hx : x ≤ topN) (hc : c ≤ topN) : ItOk (l ++ [(x, c)]) :=
  ⟨by simpa using hl, fun y hy => by
    rcases List.mem_append.1 hy with hy | hy
    · exact h.2 y hy
    · obtain rfl := List.mem_singleton.1 hy; exact ⟨hx, hc⟩⟩
theorem ItOk.app {l m : List (Nat × Nat)} (h : ItOk l) (h2 : ItOk m) (hl : l.length + m.length ≤ 200) : ItOk (l ++ m) :=
  ⟨by simpa using hl, fun y hy => by
    rcases List.mem_append.1 hy with hy | hy
    · exact h.2 y hy
    · exact h2.2 y hy⟩
section
variable {n : Nat} (hn : n ≤ 3)
include hn
theorem kAdd9 {l : List (Nat × Nat)} (h : ItOk l) (x c : Nat) (hx : x ≤ topN) (hc : c ≤ topN) (v : Value) (W : World) (hv : BinSl W v (ofG n l)) :
    Calls Try.prog 15 #[hgV n v, gV x, gV c] W fun e w' => (∃ v', e = .returned (.tuple #[hgV n v', .int .i64 0]) ∧ BinSl w' v' (ofG n (l ++ [(x, c)]))) ∧ Below W.heap.size W w' := by
  have := gAdd_any n _ v x c W (gok_of hn h) hv hx hc
  rw [addG_of hn h.2] at this
  exact this
theorem kMerge9 {l m : List (Nat × Nat)} (h : ItOk l) (h2 : ItOk m) (v u : Value) (W : World) (hv : BinSl W v (ofG n l)) (hu : BinSl W u (ofG n m)) :
    Calls Try.prog 22 #[hgV n v, hgV n u] W fun e w' => (∃ v', e = .returned (.tuple #[hgV n v', .int .i64 0]) ∧ BinSl w' v' (ofG n (l ++ m))) ∧ Below W.heap.size W w' := by
  have := gMerge_any n _ v n _ u W (gok_of hn h) (gok_of hn h2) hv hu
  rw [mergeG_of hn h.2 h2.2] at this
  exact this
theorem kRank9 {l : List (Nat × Nat)} (h : ItOk l) (x : Nat) (hx : x ≤ topN) (v : Value) (W : World) (hv : BinSl W v (ofG n l)) :
    Calls Try.prog 30 #[hgV n v, gV x] W fun e w' => e = .returned (gV (min (cntG n (fun a => decide (a ≤ (bktP n x : Int))) l) topN)) ∧ Below W.heap.size W w' := by
  have := gRank_any n _ v x W (gok_of hn h) hv hx
  rw [rankG_of hn h.2] at this
  exact this
omit hn in
theorem cnt_allG {l : List (Nat × Nat)} (h : ItOk l) : cntG n (fun a => decide (a ≤ (bktP n topN : Int))) l = cntG n (fun _ => true) l := by
  replace h := h.2
  induction l with
  | nil => rfl
  | cons x t ih =>
    have h1 := bkt_mono (f := n) (h x (List.mem_cons_self ..)).1
    unfold cntG
    rw [ih (fun y hy => h y (List.mem_cons_of_mem _ hy)), decide_eq_true (by omega)]
theorem kTotal9 {l : List (Nat × Nat)} (h : ItOk l) (v : Value) (W : World) (hv : BinSl W v (ofG n l)) :
    Calls Try.prog 28 #[hgV n v] W fun e w' => e = .returned (gV (min (cntG n (fun _ => true) l) topN)) ∧ Below W.heap.size W w' := by
  have := gTotal_any n _ v W (gok_of hn h) hv
  rw [rankG_of hn h.2, cnt_allG h] at this
  exact this
theorem kSame9 {l m : List (Nat × Nat)} (h : ItOk l) (h2 : ItOk m) (hlm : ofG n l = ofG n m) (v u : Value) (W : World) (hv : BinSl W v (ofG n l)) (hu : BinSl W u (ofG n m)) :
    Calls Try.prog 32 #[hgV n v, hgV n u] W fun e w' => e = .returned (.bool true) ∧ Below W.heap.size W w' := by
  have := gSame_any n _ v n _ u W (gok_of hn h) (gok_of hn h2) hv hu
  rw [hlm, sameG_refl] at this
  exact this
theorem kRight9 {l : List (Nat × Nat)} (h : ItOk l) (v : Value) (W : World) (hv : BinSl W v (ofG n l)) :
    Calls Try.prog 19 #[hgV n v] W fun e w' => e = .returned (.bool true) ∧ Below W.heap.size W w' := by
  have := gRight_any n _ v W (gok_of hn h) hv
  rw [right_of hn h.2] at this
  exact this
end
theorem kLower9 {n : Nat} (hn : n + 1 ≤ 3) {l : List (Nat × Nat)} (h : ItOk l) (v : Value) (W : World) (hv : BinSl W v (ofG (n + 1) l)) :
    Calls Try.prog 24 #[hgV ((n + 1 : Nat) : Int) v] W fun e w' => (∃ v', e = .returned (.tuple #[hgV n v', .int .i64 0]) ∧ BinSl w' v' (ofG n l)) ∧ Below W.heap.size W w' := by
  have := gLower_any _ _ v W (gok_of hn h) hv
  rw [lowerG_of hn h.2] at this
  exact this
theorem kBucket9 {n : Nat} (hn : n ≤ 3) (x : Nat) (hx : x ≤ topN) (W : World) :
    Calls Try.prog 17 #[.int .i64 (n : Int), gV x] W fun e w' => e = .returned (.int .i64 (bktP n x : Int)) ∧ Below W.heap.size W w' := by
  have := gBucket_any n x W ⟨by omega, by omega⟩ hx
  have hb : bucketI (n : Int) x = bktP n x := by unfold bucketI; rw [fineB_of hn, if_pos rfl, Int.toNat_natCast]
  rw [hb] at this
  exact this
theorem bounds_bkt {n : Nat} (hn : n ≤ 3) (x : Nat) (hx : x ≤ topN) : boundsI (n : Int) (bktP n x : Int) = (loP n (bktP n x), hiP n (bktP n x), true) := by
  have h1 := (bkt_in (f := n) (v := x) (by have : topN = 2 ^ 64 - 1 := rfl; omega)).1
  unfold boundsI okI
  rw [fineB_of hn, Int.toNat_natCast, Int.toNat_natCast, h1, decide_eq_true (by omega)]
  rfl
end Go.Proofs.Ytpdedogdffolnaa
