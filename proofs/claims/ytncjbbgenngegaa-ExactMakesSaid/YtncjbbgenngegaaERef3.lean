
/- The page's own answers for layer 6: Add, Merge. -/
import Derived.Test.YtncjbbgenngegaaERef2
namespace Go.Proofs.Ytncjbbgenngegaa
open Go.RowKit

theorem num_more {w : World} {B n : Nat} {v : Value} {x : Nat} {L : List Nat} (hn : n = L.length) (h : w.ownsRow B 25 1 v (0 + n + 1) ([] ++ numL L ++ numL [x])) : w.ownsRow B 25 1 v (L ++ [x]).length (numL (L ++ [x])) := by
  have e1 : (L ++ [x]).length = 0 + n + 1 := by rw [List.length_append, ← hn]; simp
  have e2 : numL (L ++ [x]) = [] ++ numL L ++ numL [x] := by rw [numL_app]; rfl
  rw [e1, e2]
  exact h
set_option maxHeartbeats 4000000 in
set_option maxRecDepth 100000 in
theorem eAdd_any (L : List Nat) (x : Nat) (v : Value) (w : World) (h : NumSl w v L) (hn : L.length ≤ 800) :
    Calls Try.prog 24 #[.agg #[v], nV x] w fun e w' => OfOut w.heap.size (addP L x) e w' ∧ Below w.heap.size w w' := by
  have R1 := Lib.hid (fun W a h => eRight_any L a W h (by omega))
  have HV0 := Lib.hid h
  obtain ⟨ao, c, rfl, hc⟩ := h.shape
  obtain ⟨n, hnn⟩ : ∃ n, n = L.length := ⟨_, rfl⟩
  have HN := Lib.hid hnn
  rw [← hnn] at hn HV0 ⊢
  have hx1 := HasC.new w 24 #[.slice ao n c]
  have hb1 := (Below.refl w.heap.size w).alloc (Nat.le_refl _) (Obj.cells #[.slice ao n c] 24)
  obtain ⟨w1, hw1⟩ : ∃ w1, w.alloc (Obj.cells #[.slice ao n c] 24) = w1 := ⟨_, rfl⟩
  have hz1 : w1.heap.size = w.heap.size + 1 := by rw [← hw1]; simp
  rw [hw1] at hx1 hb1
  have hx2 := HasC.new w1 24 #[.slice none 0 0]
  have hb2 := hb1.alloc (by omega) (Obj.cells #[.slice none 0 0] 24)
  have hy1 := hx1.alloc (Obj.cells #[.slice none 0 0] 24)
  obtain ⟨w2, hw2⟩ : ∃ w2, w1.alloc (Obj.cells #[.slice none 0 0] 24) = w2 := ⟨_, rfl⟩
  have hz2 : w2.heap.size = w.heap.size + 2 := by rw [← hw2]; simp; omega
  rw [hw2] at hx2 hb2 hy1
  rw [hz1] at hx2
  have hv2 := HV0.out.below hb2
  have c0 : w2.cell? ⟨w.heap.size, 0, none⟩ = some (.slice ao n c) := hy1.cell 0
  obtain ⟨r, hr⟩ : ∃ r, rightN L = r := ⟨_, rfl⟩
  rw [hr] at R1
  have hadd : addP L x = if r then ofP (L ++ [x]) else ([], 60) := by rw [← hr]; rfl
  have HA := Lib.hid hadd
  have HX1 := Lib.hid hy1
  have HX2 := Lib.hid hx2
  have HB2 := Lib.hid hb2
  clear hc hnn h hr hadd hx1 hy1 hx2 hb1 hb2
  go_enter Try.func24, Try.ntmps24
  go_wp2_with fail
  with_reducible refine (R1.out _ _ hv2).mono ?_
  rintro e w3 ⟨rfl, hb⟩
  have hx13 := HX1.out.below hb (by omega)
  have hx23 := HX2.out.below hb (by omega)
  have hb3 := HB2.out.trans (hb.mono HB2.out.size)
  have d0 : w3.cell? ⟨w.heap.size, 0, none⟩ = some (.slice ao n c) := hx13.cell 0
  have d1 : w3.cell? ⟨w.heap.size + 1, 0, none⟩ = some (.slice none 0 0) := hx23.cell 0
  have d2 : w3.frozen? ⟨w.heap.size + 1, 0, none⟩ = false := hx23.frozen 0
  clear c0 hv2
  cases r with
  | false =>
    go_wp2_with fail
    have hcl2 : HasC (w3.setCell ⟨w.heap.size + 1, 0, none⟩ (.slice none 0 0)) (w.heap.size + 1) 24 #[.slice none 0 0] := HasC.eq (hx23.set 0 _) rfl
    refine ⟨rfl, _, results_exact rfl _ _ (w.heap.size + 1) _ rfl hcl2, ⟨_, by rw [HA.out]; rfl, ?_⟩, hb3.setCell (p := ⟨w.heap.size + 1, 0, none⟩) (by simp) _⟩
    rw [HA.out]
    exact World.ownsRow_nil _ _ _ _
  | true =>
    have hs3 : SrcN w3 (.slice ao n c) n (numL L) := by
      have h := SrcN.of_num (HV0.out.below hb3)
      rwa [← HN.out] at h
    have hz3 := hb.size
    have S3 := Lib.hid hs3
    clear hs3 hb
    go_wp2_with (at_builtin; first
        | (refine wpList_appN _ rfl (.tmp 11) (.tmp 13) rfl (w.heap.size + 2) (.slice none 0 0) 0 [] rfl (World.ownsRow_nil _ _ _ _) (.slice ao n c) n (numL L) rfl S3.out (by omega) (by omega) ?_; intro v4 w4 hown4 hgrow4; have hz4 := hgrow4.size; have HB4 : Below (w.heap.size + 2) w3 w4 := (Below.refl _ w3).grown hgrow4 (by omega) (fun k hk => by simp [Value.ownBlock] at hk); have HO4 := Lib.hid hown4; clear hown4 hgrow4)
        | (refine wpList_appN _ rfl (.tmp 14) (.tmp 16) rfl (w.heap.size + 2) v4 (0 + n) ([] ++ numL L) rfl (HO4.out.alloc _) (.slice (some ⟨w4.heap.size, 0, none⟩) 1 1) 1 (numL [x]) rfl (srcN_one w4 x) (by omega) (by simp; omega) ?_; intro v5 w5 hown5 hgrow5; have hz5 := hgrow5.size; have HB5 : Below (w.heap.size + 2) w3 w5 := (HB4.alloc (by omega) _).grown hgrow5 (by simp; omega) (fun k hk => (HO4.out.lt _ hk).1); have HO5 := Lib.hid (num_more HN.out hown5); clear hown5 hgrow5))
    with_reducible refine (eOf_any (L ++ [x]) v5 w5 (numSl_of_owns HO5.out) (by rw [List.length_append, ← HN.out]; simp; omega)).mono ?_
    rintro e w6 ⟨⟨v6, rfl, hown6⟩, hb6⟩
    have HB6 : Below (w.heap.size + 2) w3 w6 := HB5.trans (hb6.mono (by simp at hz5; omega))
    have hx26 := hx23.below HB6 (by omega)
    have e1 : w6.cell? ⟨w.heap.size + 1, 0, none⟩ = some (.slice none 0 0) := hx26.cell 0
    have e2 : w6.frozen? ⟨w.heap.size + 1, 0, none⟩ = false := hx26.frozen 0
    obtain ⟨ao6, c6, rfl, _⟩ := (numSl_of_owns hown6).shape
    have HO6 := Lib.hid hown6
    have HB66 := Lib.hid HB6
    clear hown6 hb6 HB6 d0 d1 d2
    go_wp2_with fail
    have hcl2 : HasC (w6.setCell ⟨w.heap.size + 1, 0, none⟩ (.slice ao6 (ofP (L ++ [x])).1.length c6)) (w.heap.size + 1) 24 #[.slice ao6 (ofP (L ++ [x])).1.length c6] := HasC.eq (hx26.set 0 _) rfl
    refine ⟨rfl, _, results_exact rfl _ _ (w.heap.size + 1) _ rfl hcl2, ⟨_, by rw [HA.out]; rfl, ?_⟩, (hb3.trans (HB66.out.mono (by omega))).setCell (p := ⟨w.heap.size + 1, 0, none⟩) (by simp) _⟩
    rw [HA.out]
    have hk := HO6.out.kept (grownBy_setCell' w6 (w.heap.size + 1) (.slice ao6 (ofP (L ++ [x])).1.length c6)) (.inr (fun e => by have := (HO6.out.lt _ e).1; simp at hz5; omega))
    exact owns_mono hk (by simp at hz5; omega)
end Go.Proofs.Ytncjbbgenngegaa
