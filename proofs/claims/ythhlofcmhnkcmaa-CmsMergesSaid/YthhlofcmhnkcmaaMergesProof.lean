/- CmsMerges answers true. No condition. -/
import Derived.Test.YthhlofcmhnkcmaaCFrame
import Derived.Test.YthhlofcmhnkcmaaCLawsMg
namespace Go.Proofs.Ythhlofcmhnkcmaa
open Go.ChangeMaps (open_string shut_string)
open Go.ChangeShapes Go.WideShapes Go.ChangeAt Go.RowKit Go.Joins

set_option maxRecDepth 100000 in
theorem merges_lifted (os : Os) (started : os.Started) (H : Type) (enc : TypeId × Value → H) :
    ReturnsInHanded {} Try.checked os 4 .any (Rows.cmsMergesSpec.pre6 enc Try.prog Try.f4 Rows.cmsMergesRow.domain false) (Rows.cmsMergesSpec.post enc Try.prog Try.f4 false true false false) := by
  refine returnsInHanded_of_change (C := Try.checked) ownE started (by kernel_rfl) Try.func4
    (ChangeSpec.witness6 (enc := enc) (C := Try.checked) false ⟨#[], #[.agg #[.int .i64 0, .int .i64 0, .slice none 0 0], .agg #[.int .i64 0, .int .i64 0, .slice none 0 0]], []⟩ 8 (by kernel_rfl) (by kernel_rfl) (by kernel_rfl) (by kernel_rfl)) ?_
  intro W base args ds gs before hval0 hW _ _
  have hval : ∀ (j : Nat) t v, Try.f4.params[j]? = some t → args[j]? = some v → Value.okWide Try.prog W .any base t v := hval0
  have hW' := hW
  obtain ⟨p, q, hA0, hV, rfl, _, _⟩ := hW
  have hA : DataW.TrodAll enc Try.prog W 0 (fun _ => true) true Try.f4.params.toList args.toList ds p := hA0
  rw [Try.params4] at hA hval
  obtain ⟨v0, v1, d0, d1, p0, p1, rfl, rfl, rfl, h0, h1⟩ := trodAll_two hA
  obtain ⟨rfl, rfl⟩ := trodVars_none hV
  obtain ⟨r0, k0, L0, u0, rfl, hl0, hn0, hz0⟩ := open_cms (hval 0 24 v0 rfl rfl) h0
  obtain ⟨r1, k1, L1, u1, rfl, hl1, hn1, hz1⟩ := open_cms (hval 1 24 v1 rfl rfl) h1
  have hlt0 : ∀ x ∈ p0, x.block < W.heap.size := fun x hx => hW'.lt x (by simp [hx])
  have hz0 : ∀ x ∈ L0, x ≤ topN := fun x hx => by have := hz0 x hx; show x ≤ 18446744073709551615; omega
  have hlt1 : ∀ x ∈ p1, x.block < W.heap.size := fun x hx => hW'.lt x (by simp [hx])
  have hz1 : ∀ x ∈ L1, x ≤ topN := fun x hx => by have := hz1 x hx; show x ≤ 18446744073709551615; omega
  clear hA0 hval0
  simp only [List.append_nil] at hW'
  refine (lawMerges8_any r0 k0 L0 u0 r1 k1 L1 u1 W hl0 hn0 hz0 hl1 hn1 hz1).mono fun e W' ⟨he, hb⟩ => ?_
  subst he
  exact ⟨_, rfl, _, _, _, [], _, [], hW', trodAll_mk1 (shut_bool Try.underlying4 _), trodAll_mk2 (shut_cms h0 hb hlt0) (shut_cms h1 hb hlt1), rfl, hb.frame _, fun h => by cases h⟩

theorem merges_holds : Rows.CmsMergesSaid :=
  OpenClaim.holds_of_wide 4 Try.f4 rfl rfl rfl rfl rfl rfl rfl ⟨rfl, rfl, rfl, rfl, rfl⟩ rfl rfl rfl rfl rfl (by kernel_rfl) Try.func4 (by kernel_rfl)
    (of_decide_eq_true (by kernel_rfl)) (by unfold Func.isWrapper; first | (rw [if_pos (by decide +kernel)]; kernel_rfl) | (rw [if_neg (by decide +kernel)]; exact ⟨rfl, rfl⟩))
    (fun os started H enc _ => merges_lifted os started H enc)
end Go.Proofs.Ythhlofcmhnkcmaa
