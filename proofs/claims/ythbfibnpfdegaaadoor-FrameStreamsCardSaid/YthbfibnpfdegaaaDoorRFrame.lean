/- How the statements' premises are opened: the two sentinels of package field, the type that errors.As reads; numbers; a witness. -/
import Derived.Test.YthbfibnpfdegaaaDoorRAs
import Derived.Test.YthbfibnpfdegaaaDoorTie
import Derived.Test.YthbfibnpfdegaaaDoorCards
import Derived.ProofKit
import Derived.LaidMore
import Derived.LaidHandle
import Derived.OpenShut
import Derived.Stop.Joined
import Derived.Stop.LaidTwo
import Derived.SevenTiedAt
import Derived.Lib.SmallJoins
namespace Go.Proofs.YthbfibnpfdegaaaDoor
open Go.ChangeShapes Go.WideShapes Go.ChangeAt Go.RowKit Go.Joins

theorem own : ownKnob Tryd.prog.godebug = none := by kernel_rfl
theorem gMore : Tryd.prog.globalNamed "aviary/field.errMore" = some 2 := by kernel_rfl
theorem gField : Tryd.prog.globalNamed "aviary/field.errField" = some 1 := by kernel_rfl
theorem gType : Tryd.prog.globalNamed "errors.errorType" = some 0 := by kernel_rfl
theorem tMore : (Tryd.prog.globals[2]?).map (·.type) = some 49 := by kernel_rfl
theorem tField : (Tryd.prog.globals[1]?).map (·.type) = some 49 := by kernel_rfl
theorem star : "*" ++ "errors.errorString" = "*errors.errorString" := by decide
theorem row102 (u : TypeId) (h : Tryd.prog.typeName? 3 u = some "*errors.errorString") : u = 128 :=
  typeName_ptr_named (nm := "errors.errorString") (by rw [star]; kernel_rfl) (by kernel_rfl) (by decide) u (by rw [star]; exact h)
theorem rtRow : (Tryd.prog.cutTypes.find? (·.1 == "internal/reflectlite.rtype")).map (·.2) = some 102 := by kernel_rfl
theorem typesSize : Tryd.prog.types.size = 161 := by kernel_rfl
theorem errorRow : ((List.range 161).filter fun t => Tryd.prog.rowNamed t [101, 114, 114, 111, 114]) = [49] := by kernel_rfl

/-- What the rows list. -/
def laid3 : List (String × DataW Unit) := [("errors.errorType", Rows.laid_errors_errorType), ("aviary/field.errMore", Rows.laid_aviary_field_errMore), ("aviary/field.errField", Rows.laid_aviary_field_errField)]
def laid2 : List (String × DataW Unit) := [("aviary/field.errMore", Rows.laid_aviary_field_errMore), ("aviary/field.errField", Rows.laid_aviary_field_errField)]
theorem door_met (os : Os) (args : Array Value) : laidMetH Tryd.prog laid3 ((World.doorLaid Tryd.prog 54 os).forCall (fun _ _ => 0) ⟨#[], args, []⟩).memory :=
  laidMetH_of_parts3 (fuel := 8) (laidMet_of_run' 8 (by kernel_rfl) (by kernel_rfl)) (by kernel_rfl) (by kernel_rfl)

theorem lt_of_cell {W : World} {b o : Nat} {v : Value} (h : W.cell? ⟨b, o, none⟩ = some v) : b < W.heap.size := by
  rcases Nat.lt_or_ge b W.heap.size with h' | h'
  · exact h'
  · simp [World.cell?, Array.getElem?_eq_none h'] at h
theorem sent_of_laid2 {W : World} (h : laidMet Tryd.prog laid2 W) : ∃ am af, Sent am af W.heap.size W := by
  obtain ⟨a0, a1, s0, s1, c0, c1, t0, t1, hv0, hv1, _, _, _, _, _, _, hne, hb0, hb1⟩ := laid_sentinels2 h gMore tMore gField tField Tryd.underlying49 row102 Tryd.underlying128 Tryd.underlying149 rfl rfl Tryd.underlying9 (by kernel_rfl) (by kernel_rfl)
  have h1 : W.cell? ⟨2, 0, none⟩ = some (.iface 128 (.pointer (some a0))) := by simpa using World.var?_cell gMore hv0 0
  have h0 : W.cell? ⟨1, 0, none⟩ = some (.iface 128 (.pointer (some a1))) := by simpa using World.var?_cell gField hv1 0
  exact ⟨a0, a1, h1, h0, hne, ⟨_, _, hb0⟩, ⟨_, _, hb1⟩, lt_of_cell h1, lt_of_cell h0, (Array.getElem?_eq_some_iff.1 hb0).1, (Array.getElem?_eq_some_iff.1 hb1).1, Nat.le_refl _⟩

theorem sent_of_laid {W : World} (h : laidMetH Tryd.prog laid3 W) : ∃ am af, SentR am af W.heap.size W := by
  have h' : laidMet Tryd.prog laid2 W ∧ handlesMet Tryd.prog [("errors.errorType", Rows.laid_errors_errorType)] W := h
  obtain ⟨am, af, hS⟩ := sent_of_laid2 h'.1
  obtain ⟨name, u, ty, e1, e2, e3, e4, e5⟩ := h'.2 _ (List.mem_singleton.2 rfl)
  have en : name = [101, 114, 114, 111, 114] := (Option.some.inj e1).symm
  subst en
  obtain rfl := Option.some.inj (rtRow.symm.trans e2)
  have hm : ty ∈ (List.range 161).filter fun t => Tryd.prog.rowNamed t [101, 114, 114, 111, 114] := List.mem_filter.2 ⟨List.mem_range.2 (by rw [← typesSize]; exact e3), e4⟩
  rw [errorRow] at hm
  obtain rfl := List.mem_singleton.1 hm
  have hh : typeHandle Tryd.prog 49 = .pointer (some ⟨3, 49, none⟩) := by kernel_rfl
  rw [hh] at e5
  have hc : W.cell? ⟨0, 0, none⟩ = some (.iface 102 (.agg #[.pointer (some ⟨3, 49, none⟩)])) := by simpa using World.var?_cell gType e5 0
  exact ⟨am, af, hS, hc, lt_of_cell hc⟩

/-- A number of 64 bits without a sign. -/
theorem nat_of_wf {x : Int} (h : (Lit.int .u64 x).wf = true) : ∃ n : Nat, x = n ∧ n < 18446744073709551616 := by
  have hb : 0 ≤ x ∧ x ≤ 18446744073709551615 := by simpa [Lit.wf, IntKind.min, IntKind.max, IntKind.signed, IntKind.bits] using h
  exact ⟨x.toNat, by omega, by omega⟩
/-- A byte. -/
theorem byte_of_wf {x : Int} (h : (Lit.int .u8 x).wf = true) : ∃ d : UInt8, x = (d.toNat : Int) := by
  have hb : 0 ≤ x ∧ x ≤ 255 := by simpa [Lit.wf, IntKind.min, IntKind.max, IntKind.signed, IntKind.bits] using h
  exact ⟨UInt8.ofNat x.toNat, by rw [UInt8.toNat_ofNat']; omega⟩
end Go.Proofs.YthbfibnpfdegaaaDoor
