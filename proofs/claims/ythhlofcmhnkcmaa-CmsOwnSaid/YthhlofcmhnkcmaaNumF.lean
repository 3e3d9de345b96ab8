/- Lists of numbers of their own. -/
import Derived.Test.YthhlofcmhnkcmaaEBase
import Derived.OwnWalk
import Derived.Laws.OwnMore
namespace Go.Proofs.Ythhlofcmhnkcmaa
open Go.RowKit

/-- A list of numbers in a block from B on, none of it frozen. -/
def NumF (B : Nat) (w : World) (v : Value) (L : List Nat) : Prop :=
  (∃ a c, v = .slice a 0 c ∧ (a = none → c = 0) ∧ L = []) ∨ ∃ g o c, v = .slice (some ⟨g, o, none⟩) L.length c ∧ L.length ≤ c ∧ B ≤ g ∧ g < w.heap.size ∧ ∀ j (hj : j < L.length), w.cell? ⟨g, o + j, none⟩ = some (nV L[j]) ∧ w.frozen? ⟨g, o + j, none⟩ = false
theorem NumF.sl {B : Nat} {w : World} {v : Value} {L : List Nat} (h : NumF B w v L) : NumSl w v L := by
  rcases h with h | ⟨g, o, c, h1, h2, _, h4, h5⟩
  · exact .inl h
  · exact .inr ⟨g, o, c, h1, h2, h4, fun j hj => (h5 j hj).1⟩
theorem NumF.keep {B : Nat} {w w' : World} {v : Value} {L : List Nat} (h : NumF B w v L) (hz : w.heap.size ≤ w'.heap.size) (hb : ∀ b, B ≤ b → b < w.heap.size → w'.heap[b]? = w.heap[b]?) : NumF B w' v L := by
  rcases h with h | ⟨g, o, c, h1, h2, h3, h4, h6⟩
  · exact .inl h
  · refine .inr ⟨g, o, c, h1, h2, h3, by omega, fun j hj => ?_⟩
    have hh := hb g h3 h4
    exact ⟨(World.cell?_of_block (a := ⟨g, o + j, none⟩) hh).trans (h6 j hj).1, (World.frozen?_of_block (a := ⟨g, o + j, none⟩) hh).trans (h6 j hj).2⟩
theorem NumF.below {B : Nat} {w w' : World} {v : Value} {L : List Nat} (h : NumF B w v L) (hb : Below w.heap.size w w') : NumF B w' v L := h.keep hb.size fun b _ h2 => hb.block b h2
theorem NumF.mono {B B' : Nat} {w : World} {v : Value} {L : List Nat} (h : NumF B w v L) (hB : B' ≤ B) : NumF B' w v L := by
  rcases h with h | ⟨g, o, c, h1, h2, h3, h4, h6⟩
  · exact .inl h
  · exact .inr ⟨g, o, c, h1, h2, by omega, h4, h6⟩
theorem NumF.nil (B : Nat) (w : World) : NumF B w (.slice none 0 0) [] := .inl ⟨none, 0, rfl, fun _ => rfl, rfl⟩
theorem NumF.shape {B : Nat} {w : World} {v : Value} {L : List Nat} (h : NumF B w v L) : ∃ a c, v = .slice a L.length c := by
  rcases h with ⟨a, c, rfl, _, rfl⟩ | ⟨g, o, c, rfl, _⟩
  · exact ⟨_, _, rfl⟩
  · exact ⟨_, _, rfl⟩
theorem numF_of_owns {B : Nat} {w : World} {v : Value} {L : List Nat} (h : w.ownsRow B 25 1 v L.length (numL L)) : NumF B w v L := by
  have hs := numSl_of_owns h
  rcases h.2 with ⟨hv, h0⟩ | ⟨g, cap, cur, hv, hB, hg, hc1, hc2, hc3, htk⟩
  · exact .inl ⟨none, 0, hv, fun _ => rfl, List.length_eq_zero_iff.1 h0⟩
  · refine .inr ⟨g, 0, cap, hv, hc1, hB, (Array.getElem?_eq_some_iff.1 hg).1, fun j hj => ⟨?_, ?_⟩⟩
    · rcases hs with ⟨a, c, he, _, h0⟩ | ⟨g', o', c', he, _, _, hcc⟩
      · rw [h0] at hj; simp at hj
      · rw [hv] at he
        simp only [Value.slice.injEq, Option.some.injEq, Addr.mk.injEq] at he
        obtain ⟨⟨rfl, rfl, _⟩, _, _⟩ := he
        exact hcc j hj
    · simp [World.frozen?, hg]
theorem numL_made (m : Nat) : (madeCells (Value.int .u64 0).cells (m * 1)).toList = numL (List.replicate m 0) := by
  show (madeCells #[Value.int .u64 0] (m * 1)).toList = _
  rw [toList_madeCells_one, Nat.mul_one]
  simp [numL]
/-- What owns a row keeps it where its block is as it was. -/
theorem owns_same {w W : World} {B : Nat} {e : TypeId} {sz : Nat} {v : Value} {n : Nat} {xs : List Value} (h : w.ownsRow B e sz v n xs) (hb : ∀ k, B ≤ k → k < w.heap.size → W.heap[k]? = w.heap[k]?) : W.ownsRow B e sz v n xs := by
  rcases h.2 with ⟨hv, h0⟩ | ⟨g, cap, cur, hv, hB, hg, h1⟩
  · exact ⟨h.1, .inl ⟨hv, h0⟩⟩
  · exact ⟨h.1, .inr ⟨g, cap, cur, hv, hB, (hb g hB (Array.getElem?_eq_some_iff.1 hg).1).trans hg, h1⟩⟩
theorem owns_block {w : World} {B : Nat} {e : TypeId} {sz : Nat} {v : Value} {n : Nat} {xs : List Value} (h : w.ownsRow B e sz v n xs) : ∀ k, v.ownBlock = some k → B ≤ k := by
  intro k hk
  rcases h.2 with ⟨hv, _⟩ | ⟨g, cap, cur, hv, hB, _⟩
  · rw [hv] at hk; cases hk
  · rw [hv] at hk; cases hk; exact hB
theorem owns_shape {w : World} {B : Nat} {e : TypeId} {sz : Nat} {v : Value} {n : Nat} {xs : List Value} (h : w.ownsRow B e sz v n xs) : ∃ a c, v = .slice a n c := by
  rcases h.2 with ⟨hv, h0⟩ | ⟨g, cap, cur, hv, _⟩
  · exact ⟨none, 0, by rw [hv, h0]⟩
  · exact ⟨_, _, hv⟩
theorem owns_some {w : World} {B : Nat} {e : TypeId} {sz : Nat} {v : Value} {n : Nat} {xs : List Value} (h : w.ownsRow B e sz v n xs) (hn : 0 < n) : ∃ g c, v = .slice (some ⟨g, 0, none⟩) n c ∧ B ≤ g ∧ g < w.heap.size := by
  rcases h.2 with ⟨_, h0⟩ | ⟨g, cap, cur, hv, hB, hg, _⟩
  · omega
  · exact ⟨g, cap, hv, hB, (Array.getElem?_eq_some_iff.1 hg).1⟩
end Go.Proofs.Ythhlofcmhnkcmaa
