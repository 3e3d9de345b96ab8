/- Layer 3's Few: the first eight texts, each cut. -/
import Derived.Test.YthbfibnpfdegaaaDoorFList
import Derived.Deep.RegionHeldLaw
import Derived.Deep.AppendLies
namespace Go.Proofs.YthbfibnpfdegaaaDoor
open Go.RowKit

def cut300 (t : ByteArray) : ByteArray := t.extract 0 (min t.size 300)
theorem cut300_size (t : ByteArray) : (cut300 t).size ≤ 300 := by unfold cut300; simp; omega
/-- The first eight texts, each cut. -/
def fewR (ts : List ByteArray) : List ByteArray := (ts.take 8).map cut300
theorem fewR_len (ts : List ByteArray) : (fewR ts).length ≤ 8 := by unfold fewR; simp; omega

set_option maxHeartbeats 1000000 in
set_option maxRecDepth 100000 in
theorem fewR_some (ts : List ByteArray) (g o c : Nat) (w : World) (hn : ts.length ≤ maxLen) (hg : g < w.heap.size)
    (hc : ∀ j, j < ts.length → w.cell? ⟨g, o + j, none⟩ = some (.string (ts.getD j { data := #[] }))) (hz : ∀ t ∈ ts, t.size ≤ maxLen) :
    Calls Tryd.prog 21 #[.slice (some ⟨g, o, none⟩) ts.length c] w fun e w' => (∃ v, e = .returned v ∧ StrSl w' v (fewR ts)) ∧ Below w.heap.size w w' := by
  obtain ⟨i0, hi, hz0, hz1, hz2⟩ := info_parts info9
  obtain ⟨n, hnn⟩ : ∃ n, n = ts.length := ⟨_, rfl⟩
  have HNN := Lib.hid hnn
  have HC := Lib.hid hc
  have HZ := Lib.hid hz
  rw [← hnn] at hn ⊢
  unfold maxLen at hn
  clear hc hnn hz
  go_enter Tryd.func21, Tryd.ntmps21
  go_wp2_with fail
  go_loopw [3, 4] (fun v i wr => ∃ k : Nat, k ≤ n ∧ k ≤ 8 ∧ i = .int .i64 k ∧ wr.ownsRow w.heap.size 9 1 v k (((fewR ts).take k).map .string) ∧ Below w.heap.size w wr)
    (fun _ i _ => n - (intOf i).toNat)
  case atStart => exact ⟨0, Nat.zero_le _, by omega, rfl, World.ownsRow_nil _ _ _ _, Below.refl _ _⟩
  case round =>
    obtain ⟨k, hk, hk2, rfl, hown, hbel⟩ := hrel
    by_cases hlt : k < n
    · by_cases hlt2 : k < 8
      · obtain ⟨t, ht⟩ : ∃ t, t = ts.getD k { data := #[] } := ⟨_, rfl⟩
        have htl : t.size ≤ maxLen := by
          have hkl : k < ts.length := by have := HNN.out; omega
          rw [ht, List.getD_eq_getElem?_getD, List.getElem?_eq_getElem hkl]
          exact HZ.out _ (List.getElem_mem hkl)
        unfold maxLen at htl
        have hck : ∀ V, Below w.heap.size w V → V.cell? ⟨g, o + k, none⟩ = some (.string t) := fun V hV => by
          rw [ht]
          exact (hV.cell (p := ⟨g, o + k, none⟩) hg).trans (HC.out k (by have := HNN.out; omega))
        have hx : t.extract 0 (min (t.size : Int) 300).toNat = cut300 t := by
          unfold cut300
          rw [show (min (t.size : Int) 300).toNat = min t.size 300 by omega]
        have htk : (fewR ts).take (k + 1) = (fewR ts).take k ++ [cut300 t] := by
          have hkl : k < ts.length := by have := HNN.out; omega
          have hkf : k < (fewR ts).length := by unfold fewR; simp; omega
          rw [List.take_succ_eq_append_getElem hkf]
          congr 2
          rw [ht, List.getD_eq_getElem?_getD, List.getElem?_eq_getElem hkl]
          simp [fewR]
        have HTK := Lib.hid htk
        have HX := Lib.hid hx
        have HCK := Lib.hid hck
        clear htk hx hck ht
        have hd : decide ((k : Int) < 8) = true := by simp; omega
        go_wp2_with fail
        have c0 := HCK.out _ hbel
        have hm1 : min (t.size : Int) 300 ≤ t.size := by omega
        have hm2 : 0 ≤ min (t.size : Int) 300 := by omega
        have lg : g < wr.heap.size := Nat.lt_of_lt_of_le hg hbel.size
        have ag : u3.ownBlock ≠ some g := fun e => by have := (hown.lt _ e).1; omega
        go_region_held_law (fun w' => w'.cell? ⟨g, o + k, none⟩ = some (.string t))
          (first
            | go_keep
            | (rw [hgrow.cell_far _ (by simp; omega) (Ne.symm ag)]; assumption))
          ((refine step_append_lies _ (by rfl) _ _ _ (by rfl) w.heap.size 9 i0 _ 1 16 Tryd.underlying32 hi hz0 hz1 hz2 rfl (by omega) u3 k _ (by rfl) ((hown.alloc _).drew)
                ⟨wr.heap.size, 0, none⟩ 1 1 [.string (t.extract 0 (min (t.size : Int) 300).toNat)] (by rfl) (by rfl) (World.news_of_block (cs := #[.string (t.extract 0 (min (t.size : Int) 300).toNat)]) (t := 9) (fr := (0, 0)) (heap_alloc_new wr _)) (by simp [Value.oneCell'])
                (by omega) (by unfold maxLen; omega) (by omega) (by have := hbel.size; simp; omega) (wr.heap.size + 1) (by simp) ?_; intro gg cap w3 hown' hgrow hat hlt9))
        have hb3 : Below w.heap.size w w3 := ((hbel.alloc hbel.size _).drew).grown hgrow (by have := hbel.size; simp; omega) (fun k hk => (hown.lt k hk).1)
        have hown3 : w3.ownsRow w.heap.size 9 1 (.slice (some ⟨gg, 0, none⟩) (k + 1) cap) (k + 1) (((fewR ts).take (k + 1)).map .string) := by
          rw [HTK.out, List.map_append, ← HX.out]
          exact hown'
        have HO := Lib.hid hown3
        clear hown' hown3 hown hgrow hbel hat c0 ag lg
        go_wp2
        go_roundw
        case rel => exact ⟨k + 1, by omega, by omega, by go_num, HO.out, hb3⟩
        case measure => simp [intOf]; omega
      · have hkk : ((fewR ts).take k) = fewR ts := List.take_of_length_le (by have := fewR_len ts; omega)
        have hlf : (fewR ts).length = k := by have := HNN.out; unfold fewR; simp; omega
        rw [hkk] at hown
        have hs := strSl_of_owns (ts := fewR ts) (by rw [hlf]; exact hown)
        have HSL := Lib.hid hs
        clear hs hown hkk hlf
        go_wp2
        go_ret
        exact ⟨⟨_, rfl, HSL.out⟩, hbel⟩
    · have hlf : (fewR ts).length = k := by have := HNN.out; unfold fewR; simp; omega
      have hkk : ((fewR ts).take k) = fewR ts := List.take_of_length_le (by omega)
      rw [hkk] at hown
      have hs := strSl_of_owns (ts := fewR ts) (by rw [hlf]; exact hown)
      have HSL := Lib.hid hs
      clear hs hown hkk hlf
      go_wp2
      go_ret
      exact ⟨⟨_, rfl, HSL.out⟩, hbel⟩

theorem fewR_none (a : Option Addr) (c : Nat) (w : World) :
    Calls Tryd.prog 21 #[.slice a 0 c] w fun e w' => (∃ v, e = .returned v ∧ StrSl w' v []) ∧ Below w.heap.size w w' := by
  go_enter Tryd.func21, Tryd.ntmps21
  go_wp2_with fail
  refine wp_loop_rounds 1 ?_
  rw [rounds_succ]
  go_wp2
  go_ret
  exact ⟨⟨_, rfl, .inl ⟨none, 0, rfl, rfl⟩⟩, Below.refl _ _⟩
theorem fewR_any (ts : List ByteArray) (v : Value) (w : World) (hn : ts.length ≤ maxLen) (hz : ∀ t ∈ ts, t.size ≤ maxLen) (h : StrSl w v ts) :
    Calls Tryd.prog 21 #[v] w fun e w' => (∃ v', e = .returned v' ∧ StrSl w' v' (fewR ts)) ∧ Below w.heap.size w w' := by
  rcases h with ⟨a, c, rfl, rfl⟩ | ⟨g, o, c, rfl, h2, h3⟩
  · exact fewR_none a c w
  · exact fewR_some ts g o c w hn h2 h3 hz
end Go.Proofs.YthbfibnpfdegaaaDoor
