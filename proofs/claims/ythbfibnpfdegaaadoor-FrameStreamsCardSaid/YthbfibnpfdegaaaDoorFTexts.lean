/- The page's Texts, of two lists that are the same. -/
import Derived.Test.YthbfibnpfdegaaaDoorFPuts
namespace Go.Proofs.YthbfibnpfdegaaaDoor
open Go.RowKit

theorem texts_none (a a' : Option Addr) (c c' : Nat) (w : World) :
    Calls Tryd.prog 20 #[.slice a 0 c, .slice a' 0 c'] w fun e w' => e = .returned (.bool true) ∧ Below w.heap.size w w' := by
  go_enter Tryd.func20, Tryd.ntmps20
  go_wp2_with fail
  refine wp_loop_rounds 1 ?_
  rw [rounds_succ]
  go_wp2
  go_ret
  exact ⟨rfl, Below.refl _ _⟩
set_option maxHeartbeats 400000 in
set_option maxRecDepth 100000 in
theorem texts_some (ts : List ByteArray) (g o c g' o' c' : Nat) (w : World) (hn : ts.length ≤ 1000) (hg : g < w.heap.size) (hg' : g' < w.heap.size)
    (hc : ∀ j, j < ts.length → w.cell? ⟨g, o + j, none⟩ = some (.string (ts.getD j { data := #[] })))
    (hc' : ∀ j, j < ts.length → w.cell? ⟨g', o' + j, none⟩ = some (.string (ts.getD j { data := #[] }))) :
    Calls Tryd.prog 20 #[.slice (some ⟨g, o, none⟩) ts.length c, .slice (some ⟨g', o', none⟩) ts.length c'] w fun e w' => e = .returned (.bool true) ∧ Below w.heap.size w w' := by
  obtain ⟨n, hnn⟩ : ∃ n, n = ts.length := ⟨_, rfl⟩
  have HC := Lib.hid hc
  have HC' := Lib.hid hc'
  rw [← hnn] at hn HC HC' ⊢
  clear hc hc' hnn
  go_enter Tryd.func20, Tryd.ntmps20
  go_wp2_with fail
  go_loopw [5] (fun i wr => ∃ k : Nat, k ≤ n ∧ i = .int .i64 k ∧ Below w.heap.size w wr) (fun i _ => n - (intOf i).toNat)
  case atStart => exact ⟨0, Nat.zero_le _, rfl, Below.refl _ _⟩
  case round =>
    obtain ⟨k, hk, rfl, hbel⟩ := hrel
    by_cases hlt : k < n
    · obtain ⟨t, ht⟩ : ∃ t, t = ts.getD k { data := #[] } := ⟨_, rfl⟩
      have c1 : wr.cell? ⟨g, o + k, none⟩ = some (.string t) := by rw [ht]; exact (hbel.cell (p := ⟨g, o + k, none⟩) hg).trans (HC.out k hlt)
      have c2 : wr.cell? ⟨g', o' + k, none⟩ = some (.string t) := by rw [ht]; exact (hbel.cell (p := ⟨g', o' + k, none⟩) hg').trans (HC'.out k hlt)
      clear ht
      go_wp2_with fail
      go_quiet (fail)
      have hb2 : Below w.heap.size w (wr.drewN nq) := bel_drewN hbel _
      clear c1 c2 hbel
      go_wp2
      go_roundw
      case rel => exact ⟨k + 1, by omega, by go_num, hb2⟩
      case measure => simp [intOf]; omega
    · go_wp2
      go_ret
      exact ⟨rfl, hbel⟩
theorem texts_same (ts : List ByteArray) (v v' : Value) (w : World) (hn : ts.length ≤ 1000) (h : StrSl w v ts) (h' : StrSl w v' ts) :
    Calls Tryd.prog 20 #[v, v'] w fun e w' => e = .returned (.bool true) ∧ Below w.heap.size w w' := by
  rcases h with ⟨a, c, rfl, rfl⟩ | ⟨g, o, c, rfl, h2, h3⟩
  · rcases h' with ⟨a', c', rfl, _⟩ | ⟨g', o', c', rfl, _, _⟩
    · exact texts_none a a' c c' w
    · exact texts_none a _ c c' w
  · rcases h' with ⟨a', c', rfl, rfl⟩ | ⟨g', o', c', rfl, h2', h3'⟩
    · exact texts_none _ a' c c' w
    · exact texts_some ts g o c g' o' c' w hn h2 h2' h3 h3'
end Go.Proofs.YthbfibnpfdegaaaDoor
