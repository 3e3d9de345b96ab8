
/- What the functions of layer 6 hand out: a list of their own; lists that a law makes. -/
import Derived.Test.YtncjbbgenngegaaERef4
namespace Go.Proofs.Ytncjbbgenngegaa
open Go.RowKit

/-- A list of numbers in a block from B on, none of it frozen. -/
def NumF (B : Nat) (w : World) (v : Value) (L : List Nat) : Prop :=
  (∃ a c, v = .slice a 0 c ∧ (a = none → c = 0) ∧ L = []) ∨ ∃ g o c, v = .slice (some ⟨g, o, none⟩) L.length c ∧ L.length ≤ c ∧ B ≤ g ∧ g < w.heap.size ∧ ∀ j (hj : j < L.length), w.cell? ⟨g, o + j, none⟩ = some (nV L[j]) ∧ w.frozen? ⟨g, o + j, none⟩ = false
theorem NumF.sl {B : Nat} {w : World} {v : Value} {L : List Nat} (h : NumF B w v L) : NumSl w v L := by
  rcases h with h | ⟨g, o, c, h1, h2, _, h4, h5⟩
  · exact .inl h
  · exact .inr ⟨g, o, c, h1, h2, h4, fun j hj => (h5 j hj).1⟩
theorem numF_of_owns {B : Nat} {w : World} {v : Value} {L : List Nat} (h : w.ownsRow B 25 1 v L.length (numL L)) : NumF B w v L := by
  have hs := numSl_of_owns h
  rcases h.2 with ⟨hv, h0⟩ | ⟨g, cap, cur, hv, hB, hg, hc1, hc2, hc3, htk⟩
  · exact .inl ⟨none, 0, hv, fun _ => rfl, List.length_eq_zero_iff.1 h0⟩
  · refine .inr ⟨g, 0, cap, hv, hc1, hB, (Array.getElem?_eq_some_iff.1 hg).1, fun j hj => ⟨?_, ?_⟩⟩
    · rcases hs with ⟨a, c, he, _, h0⟩ | ⟨g', o', c', he, _, _, hcc⟩
      · rw [h0] at hj; simp at hj
      · rw [hv] at he
        simp only [Value.slice.injEq, Option.some.injEq, Addr.mk.injEq] at he
        obtain ⟨⟨rfl, rfl, _⟩, _, _⟩ := he
        exact hcc j hj
    · simp [World.frozen?, hg]
/-- What is handed out: a list of its own, and the error's number. -/
def OfX (B : Nat) (P : List Nat × Nat) (e : Ending) (W : World) : Prop := ∃ v, e = .returned (.tuple #[.agg #[v], .int .i64 (P.2 : Int)]) ∧ NumF B W v P.1
theorem OfOut.x {B : Nat} {P : List Nat × Nat} {e : Ending} {W : World} (h : OfOut B P e W) : OfX B P e W := by
  obtain ⟨v, rfl, ho⟩ := h
  exact ⟨v, rfl, numF_of_owns ho⟩
theorem num_built (w : World) (L : List Nat) (cs : Array Value) (hcs : cs = (numL L).toArray) (n : Nat) (hn : n = L.length) : NumSl (w.alloc (Obj.cells cs 25)) (.slice (some ⟨w.heap.size, 0, none⟩) n n) L := by
  subst hn hcs
  refine .inr ⟨w.heap.size, 0, L.length, rfl, Nat.le_refl _, by simp, fun j hj => ?_⟩
  rw [Nat.zero_add]
  exact (World.cell?_alloc_at _ _ _ _ rfl).trans (by simp [numL, hj])
end Go.Proofs.Ytncjbbgenngegaa
