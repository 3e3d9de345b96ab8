
/- The statements' Few and cut: the first ten labels, each cut; the first six hundred bytes. -/
import Derived.Test.YtekmdgjkadglmaaLTell
namespace Go.Proofs.Ytekmdgjkadglmaa
open Go.RowKit

def cutLb (x : Lab) : Lab := (x.1.extract 0 (min x.1.size 20), x.2.extract 0 (min x.2.size 120))
def fewLb (L : List Lab) : List Lab := (L.take 10).map cutLb
theorem extr_all (x : ByteArray) {n : Nat} (h : x.size ≤ n) : x.extract 0 (min x.size n) = x := baL (by rw [extL, Nat.min_eq_left h, List.take_of_length_le (by rw [lenL]; exact Nat.le_refl _)]; rfl)
theorem cutLb_gg {x y : ByteArray} (hx : 20 < x.size) (hy : 120 < y.size) : cutLb (x, y) = (x.extract 0 20, y.extract 0 120) := by unfold cutLb; dsimp only; rw [Nat.min_eq_right (by omega), Nat.min_eq_right (by omega)]
theorem cutLb_gl {x y : ByteArray} (hx : 20 < x.size) (hy : y.size ≤ 120) : cutLb (x, y) = (x.extract 0 20, y) := by unfold cutLb; dsimp only; rw [Nat.min_eq_right (by omega), extr_all y hy]
theorem cutLb_lg {x y : ByteArray} (hx : x.size ≤ 20) (hy : 120 < y.size) : cutLb (x, y) = (x, y.extract 0 120) := by unfold cutLb; dsimp only; rw [extr_all x hx, Nat.min_eq_right (by omega)]
theorem cutLb_ll {x y : ByteArray} (hx : x.size ≤ 20) (hy : y.size ≤ 120) : cutLb (x, y) = (x, y) := by unfold cutLb; dsimp only; rw [extr_all x hx, extr_all y hy]
theorem fewLb_len (L : List Lab) : (fewLb L).length ≤ 10 := by unfold fewLb; simp; omega
theorem cutLb_small (x : Lab) : (cutLb x).1.size ≤ 3000 ∧ (cutLb x).2.size ≤ 3000 := by unfold cutLb; simp; omega
theorem fewLb_small (L : List Lab) : smallLb (fewLb L) := fun x hx => by
  unfold fewLb at hx
  obtain ⟨y, _, rfl⟩ := List.mem_map.1 hx
  exact cutLb_small y
def cut600 (s : ByteArray) : ByteArray := s.extract 0 (min s.size 600)
theorem cut600_size (s : ByteArray) : (cut600 s).size ≤ 600 := by unfold cut600; simp; omega

set_option maxHeartbeats 2000000 in
set_option maxRecDepth 100000 in
theorem few4_any (L : List Lab) (v : Value) (w : World) (h : LblSl w v L) (hn : L.length ≤ maxLen) (hz : ∀ x ∈ L, x.1.size ≤ maxLen ∧ x.2.size ≤ maxLen) :
    Calls Try.prog 9 #[v] w fun e w' => (∃ v', e = .returned v' ∧ w'.ownsRow w.heap.size 37 2 v' (fewLb L).length (cellsL (fewLb L))) ∧ Below w.heap.size w w' := by
  obtain ⟨ao, c, rfl, hc⟩ := h.shape
  obtain ⟨n, hnn⟩ : ∃ n, n = L.length := ⟨_, rfl⟩
  have HC := Lib.hid hc
  have HN := Lib.hid hnn
  have HZ := Lib.hid hz
  rw [← hnn] at hn ⊢
  unfold maxLen at hn
  clear hc hnn h hz
  go_enter Try.func9, Try.ntmps9
  go_wp2_with fail
  go_loopw [3, 4] (fun v i wr => ∃ k : Nat, k ≤ n ∧ k ≤ 10 ∧ i = .int .i64 k ∧ wr.ownsRow w.heap.size 37 2 v k (cellsL ((fewLb L).take k)) ∧ Below w.heap.size w wr)
    (fun _ i _ => n - (intOf i).toNat)
  case atStart => exact ⟨0, Nat.zero_le _, by omega, rfl, World.ownsRow_nil _ _ _ _, Below.refl _ _⟩
  case round =>
    obtain ⟨k, hk, hk2, rfl, hown, hbel⟩ := hrel
    by_cases hlt : k < n
    · by_cases hlt2 : k < 10
      · have hkl : k < L.length := by have := HN.out; omega
        obtain ⟨g, o, rfl, hcc⟩ := HC.out k hkl
        obtain ⟨c0, c1⟩ := hcc wr hbel
        obtain ⟨z1, z2⟩ := HZ.out _ (List.getElem_mem hkl)
        obtain ⟨x, y, hxy⟩ : ∃ x y, L[k] = (x, y) := ⟨_, _, rfl⟩
        rw [hxy] at c0 c1 z1 z2 hcc
        dsimp only at c0 c1 z1 z2 hcc
        have HCC := Lib.hid hcc
        unfold maxLen at z1 z2
        have htk : (fewLb L).take (k + 1) = (fewLb L).take k ++ [cutLb (x, y)] := by
          have hkf : k < (fewLb L).length := by unfold fewLb; simp; omega
          rw [List.take_succ_eq_append_getElem hkf]
          congr 2
          simp only [fewLb, List.getElem_map, List.getElem_take, hxy]
        have HTK := Lib.hid htk
        clear htk hxy hcc
        have hd : decide ((k : Int) < 10) = true := by simp; omega
        obtain ⟨m1, q1, l1, k1⟩ : ∃ m1 : Nat, (if (20 : Int) < (x.size : Int) then (20 : Int) else (x.size : Int)) = (m1 : Int) ∧ (m1 : Int) ≤ (x.size : Int) ∧ min x.size 20 = m1 := ⟨min x.size 20, by split <;> omega, by omega, rfl⟩
        obtain ⟨m2, q2, l2, k2⟩ : ∃ m2 : Nat, (if (120 : Int) < (y.size : Int) then (120 : Int) else (y.size : Int)) = (m2 : Int) ∧ (m2 : Int) ≤ (y.size : Int) ∧ min y.size 120 = m2 := ⟨min y.size 120, by split <;> omega, by omega, rfl⟩
        have hXY : cutLb (x, y) = (x.extract 0 m1, y.extract 0 m2) := by unfold cutLb; rw [← k1, ← k2]
        rw [hXY] at HTK
        clear hXY k1 k2
        go_wp2_with fail
        go_region_held_law (fun w' => w'.cell? ⟨g, o + k * 2, none⟩ = some (.string x) ∧ w'.cell? ⟨g, o + k * 2 + 1, none⟩ = some (.string y))
          (first
            | go_keep
            | exact HCC.out _ hb3)
          ((first | (refine step_app _ (by rfl) (.tmp 15) (.tmp 43) (by rfl) w.heap.size u3 k (cellsL ((fewLb L).take k)) (by rfl) ((hown.alloc _).drew) (.slice (some ⟨wr.heap.size, 0, none⟩) 1 1) 1 (cellsL [(x.extract 0 m1, y.extract 0 m2)]) (by rfl) (.inr ⟨_, _, rfl, rfl, World.news_of_block (cs := #[.string (x.extract 0 m1), .string (y.extract 0 m2)]) (t := 37) (fr := (0, 0)) (heap_alloc_new wr _), cellsL_one _⟩) (by omega) (by have := hbel.size; simp; omega) ?_; intro v3 w3 hown' hgrow; have hb3 : Below w.heap.size w w3 := ((hbel.alloc hbel.size _).drew).grown hgrow (by have := hbel.size; simp; omega) (fun k hk => (hown.lt k hk).1)) | fail))
        all_goals
          have hown3 : w3.ownsRow w.heap.size 37 2 v3 (k + 1) (cellsL ((fewLb L).take (k + 1))) := by
            rw [HTK.out, cellsL_app]
            exact hown'
          have HO := Lib.hid hown3
          clear hown' hown3 hown hgrow hbel c0 c1
          go_wp2
          go_roundw
          case rel => exact ⟨k + 1, by omega, by omega, by go_num, HO.out, hb3⟩
          case measure => simp [intOf]; omega
      · have hkk : (fewLb L).take k = fewLb L := List.take_of_length_le (by have := fewLb_len L; omega)
        have hlf : (fewLb L).length = k := by have := HN.out; unfold fewLb; simp; omega
        rw [hkk, ← hlf] at hown
        have HO := Lib.hid hown
        clear hown hkk hlf
        go_wp2
        go_ret
        exact ⟨⟨_, rfl, HO.out⟩, hbel⟩
    · have hlf : (fewLb L).length = k := by have := HN.out; unfold fewLb; simp; omega
      have hkk : (fewLb L).take k = fewLb L := List.take_of_length_le (by omega)
      rw [hkk, ← hlf] at hown
      have HO := Lib.hid hown
      clear hown hkk hlf
      go_wp2
      go_ret
      exact ⟨⟨_, rfl, HO.out⟩, hbel⟩
end Go.Proofs.Ytekmdgjkadglmaa
