/- Package label: labels are sorted by their names: the library's SortFunc at labels. -/
import Derived.Test.YtbcgjgefkkibbaaLShelf
import Derived.Test.YtbcgjgefkkibbaaLApp
import Derived.Test.YtbcgjgefkkibbaaLSort
namespace Go.Proofs.Ytbcgjgefkkibbaa
open Go.RowKit Go.Lib Go.Sort Go.Shelf

def encL (x : Lab) : List Value := [.string x.1, .string x.2]
set_option maxRecDepth 100000 in
theorem closure_any (x y : Lab) (W : World) : Calls Try.prog 28 #[.agg #[.string x.1, .string x.2], .agg #[.string y.1, .string y.2]] W fun e w' => e = .returned (.int .i64 (cfL x y)) ∧ ∃ q os', w' = grow (W.drewN q) os' := by
  have C1 := Lib.hid (fun W => Try.strings_Compare x.1 y.1 W)
  obtain ⟨a, b⟩ := x
  obtain ⟨c, d⟩ := y
  obtain ⟨r, hr⟩ : ∃ r, r = cfL (a, b) (c, d) := ⟨_, rfl⟩
  have hr2 : Lib.compareBytes a.data.toList c.data.toList = r := by rw [hr]; rfl
  rw [← hr]
  dsimp only at C1
  rw [hr2] at C1
  clear hr hr2
  go_enter Try.func28, Try.ntmps28
  go_wp2_with fail
  refine (C1.out _).mono ?_
  rintro e w' ⟨rfl, rfl⟩
  go_wp2_with fail
  go_ret
  exact ⟨rfl, 0, _, by rw [alloc_eq_grow, alloc_eq_grow, grow_grow]; rfl⟩
theorem holds_labels {w : World} {g n : Nat} {M : List Lab} {cap : Nat} {B : Nat} (h : w.ownsRow B 41 2 (.slice (some ⟨g, 0, none⟩) n cap) n (cellsL M)) (_hn : n = M.length) : HoldsK encL 2 w g 0 M.toArray := by
  intro j hj
  rw [size_flatK] at hj
  have hfz : w.frozen? ⟨g, 0 + j, none⟩ = false := by
    rcases h.2 with ⟨hv, _⟩ | ⟨g2, cap2, cur, hv, _, h2, _⟩
    · cases hv
    · cases hv
      exact HasC.frozen (cs := cur) h2 _
  refine ⟨?_, hfz⟩
  rw [get_flatK _ _ _ _ hj]
  have hjs : j < M.length * 2 := by simpa using hj
  have hq : j / 2 < M.length := by omega
  have hM : M.toArray[j / 2]! = M[j / 2] := by simp [getElem!_pos, hq]
  obtain ⟨a1, a2⟩ := cellsL_at M (j / 2) hq
  have hc : (cellsL M)[j]? = some ((encL M[j / 2])[j % 2]!) := by
    rcases Nat.mod_two_eq_zero_or_one j with e | e
    · have : j / 2 * 2 = j := by omega
      rw [this] at a1
      rw [e, a1]
      rfl
    · have : j / 2 * 2 + 1 = j := by omega
      rw [this] at a2
      rw [e, a2]
      rfl
  have := h.cells (g := g) rfl j _ hc
  rw [add_block g j] at this
  rw [hM, Nat.zero_add]
  exact this
theorem below_sorted {B g : Nat} {w : World} (d : Array Lab) (n : Nat) (os : Array Obj) (hB : B ≤ g) (hw : B ≤ w.heap.size) : Below B w (sortWorldK encL 2 w g 0 n d os) := by
  refine ⟨rfl, rfl, rfl, ?_, fun k hk => ?_⟩
  · simp [sortWorldK, grow, putRowK]
  · have h1 : (sortWorldK encL 2 w g 0 n d os).heap[k]? = (putRowK encL 2 (Sort.ahead w n) g 0 d).heap[k]? := by
      show ((putRowK encL 2 (Sort.ahead w n) g 0 d).heap ++ os)[k]? = _
      rw [Array.getElem?_append_left (by simp [putRowK]; omega)]
    rw [h1]
    show ((w.heap.modify g _)[k]?) = _
    rw [Array.getElem?_modify, if_neg (by omega)]
theorem sort_any (M : List Lab) (g cap B : Nat) (w : World) (h : w.ownsRow B 41 2 (.slice (some ⟨g, 0, none⟩) M.length cap) M.length (cellsL M)) (hn : M.length ≤ 2000) :
    Calls Try.prog 27 #[.slice (some ⟨g, 0, none⟩) M.length cap, .func (.func 28) #[] #[]] w fun e w' => e = .returned (.tuple #[]) ∧
      (∃ S : List Lab, S.Perm M ∧ (S.Pairwise fun x y => ¬ cfL y x < 0) ∧ S.length = M.length ∧ LblSl w' (.slice (some ⟨g, 0, none⟩) M.length cap) S) ∧ Below B w w' := by
  have hH := holds_labels h rfl
  have hlt : g < w.heap.size := (h.lt g rfl).2
  have hBg : B ≤ g := (h.lt g rfl).1
  have eg : ∀ args w, (callFunc 28 args).run Try.prog w = .ok (.enter 28 args) w := enters_of Try.func28 (by kernel_rfl) rfl
  have hcon := AnyQ.slices_SortFunc Try.sortL 2 Try.isAgg41 Try.sizeOf41 encL (fun _ => rfl) (fun x v hv => by simp [encL] at hv; rcases hv with rfl | rfl <;> rfl) cfL swoL 28 #[] g 0 cap M.toArray w eg
    (fun _ _ _ _ x y => closure_any x y _) hH hlt (by simp; omega)
  change Calls Try.prog 27 _ _ _ at hcon
  rw [show M.toArray.size = M.length by simp] at hcon
  refine hcon.mono ?_
  rintro e w' ⟨rfl, d', n, os, hp, hs, rfl⟩
  have hds : d'.size = M.length := by simpa using hp.1
  refine ⟨rfl, ⟨d'.toList, ?_, ?_, ?_, ?_⟩, ?_⟩
  · have := hp.2.2
    rw [Array.extract_eq_self_of_le (by omega), Array.extract_eq_self_of_le (by simp)] at this
    exact this
  · rw [List.pairwise_iff_getElem]
    intro i j hi hj hij
    have hj2 : j < d'.size := by simpa using hj
    have := hs i j (Nat.zero_le _) hij (by omega)
    rw [getElem!_pos d' j hj2, getElem!_pos d' i (by omega)] at this
    exact of_decide_eq_false this
  · simpa using hds
  · have hs2 : d'.size = M.toArray.size := hp.1
    have hHK : HoldsK encL 2 (sortWorldK encL 2 w g 0 n d' os) g 0 d' :=
      holdsK_grow encL 2 _ os g 0 d' (by simp [putRowK]; exact hlt) (holdsK_putRowK encL 2 (Sort.ahead w n) g 0 M.toArray d' (holdsK_ahead encL 2 w n g 0 _ hH) hs2)
    refine .inr ⟨g, 0, cap, ?_, ?_, fun j hj => ?_⟩
    · have : d'.toList.length = M.length := by simpa using hds
      rw [this]
    · have := (below_sorted (w := w) d' n os hBg (by omega)).size
      omega
    · have hj2 : j < d'.size := by simpa using hj
      have e0 := (hHK.cell hj2 (show 0 < 2 by decide)).1
      have e1 := (hHK.cell hj2 (show 1 < 2 by decide)).1
      rw [getElem!_pos d' j hj2] at e0 e1
      exact ⟨e0, e1⟩
  · exact below_sorted d' n os hBg (by omega)
end Go.Proofs.Ytbcgjgefkkibbaa
