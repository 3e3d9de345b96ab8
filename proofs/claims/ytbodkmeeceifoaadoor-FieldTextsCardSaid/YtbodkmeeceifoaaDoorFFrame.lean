/- How the statements' premises are opened: the two sentinels, numbers; a witness. -/
import Derived.Test.YtbodkmeeceifoaaDoorFBase
import Derived.Test.YtbodkmeeceifoaaDoorTie
import Derived.Test.YtbodkmeeceifoaaDoorCards
import Derived.ProofKit
import Derived.LaidMore
import Derived.OpenShut
import Derived.Stop.Joined
import Derived.Stop.LaidTwo
import Derived.SevenTiedAt
import Derived.Lib.SmallJoins
namespace Go.Proofs.YtbodkmeeceifoaaDoor
open Go.ChangeShapes Go.WideShapes Go.ChangeAt Go.RowKit Go.Joins

theorem own : ownKnob Tryd.prog.godebug = none := by kernel_rfl
theorem gMore : Tryd.prog.globalNamed "aviary/field.errMore" = some 1 := by kernel_rfl
theorem gField : Tryd.prog.globalNamed "aviary/field.errField" = some 0 := by kernel_rfl
theorem tMore : (Tryd.prog.globals[1]?).map (·.type) = some 51 := by kernel_rfl
theorem tField : (Tryd.prog.globals[0]?).map (·.type) = some 51 := by kernel_rfl
theorem star : "*" ++ "errors.errorString" = "*errors.errorString" := by decide
theorem row102 (u : TypeId) (h : Tryd.prog.typeName? 3 u = some "*errors.errorString") : u = 102 :=
  typeName_ptr_named (nm := "errors.errorString") (by rw [star]; kernel_rfl) (by kernel_rfl) (by decide) u (by rw [star]; exact h)

/-- What the rows list. -/
def laid2 : List (String × DataW Unit) := [("aviary/field.errMore", Rows.laid_aviary_field_errMore), ("aviary/field.errField", Rows.laid_aviary_field_errField)]
theorem door_met (os : Os) (args : Array Value) : laidMetH Tryd.prog laid2 ((World.doorLaid Tryd.prog 47 os).forCall (fun _ _ => 0) ⟨#[], args, []⟩).memory :=
  laidMetH_of_parts3 (fuel := 8) (laidMet_of_run' 8 (by kernel_rfl) (by kernel_rfl)) (by kernel_rfl) (by kernel_rfl)

theorem lt_of_cell {W : World} {b o : Nat} {v : Value} (h : W.cell? ⟨b, o, none⟩ = some v) : b < W.heap.size := by
  rcases Nat.lt_or_ge b W.heap.size with h' | h'
  · exact h'
  · simp [World.cell?, Array.getElem?_eq_none h'] at h
theorem sent_of_laid {W : World} (h : laidMetH Tryd.prog laid2 W) : ∃ am af, Sent am af W.heap.size W := by
  rw [MakeChecks.laidMetH_plain _ _ _ (by kernel_rfl)] at h
  obtain ⟨a0, a1, s0, s1, c0, c1, t0, t1, hv0, hv1, _, _, _, _, _, _, hne, hb0, hb1⟩ := laid_sentinels2 h gMore tMore gField tField Tryd.underlying51 row102 Tryd.underlying102 Tryd.underlying126 rfl rfl Tryd.underlying9 (by kernel_rfl) (by kernel_rfl)
  have h1 : W.cell? ⟨1, 0, none⟩ = some (.iface 102 (.pointer (some a0))) := by simpa using World.var?_cell gMore hv0 0
  have h0 : W.cell? ⟨0, 0, none⟩ = some (.iface 102 (.pointer (some a1))) := by simpa using World.var?_cell gField hv1 0
  exact ⟨a0, a1, h1, h0, hne, ⟨_, _, hb0⟩, ⟨_, _, hb1⟩, lt_of_cell h1, (Array.getElem?_eq_some_iff.1 hb0).1, (Array.getElem?_eq_some_iff.1 hb1).1, Nat.le_refl _⟩

/-- A number of 64 bits without a sign. -/
theorem nat_of_wf {x : Int} (h : (Lit.int .u64 x).wf = true) : ∃ n : Nat, x = n ∧ n < 18446744073709551616 := by
  have hb : 0 ≤ x ∧ x ≤ 18446744073709551615 := by simpa [Lit.wf, IntKind.min, IntKind.max, IntKind.signed, IntKind.bits] using h
  exact ⟨x.toNat, by omega, by omega⟩
end Go.Proofs.YtbodkmeeceifoaaDoor
