/- HistMerges answers true. No condition. -/
import Derived.Test.YtpdedogdffolnaaGFrame
import Derived.Test.YtpdedogdffolnaaGLawsM
namespace Go.Proofs.Ytpdedogdffolnaa
open Go.ChangeMaps (open_string shut_string)
open Go.ChangeShapes Go.WideShapes Go.ChangeAt Go.RowKit Go.Joins

set_option maxRecDepth 100000 in
theorem merges_lifted (os : Os) (started : os.Started) (H : Type) (enc : TypeId × Value → H) :
    ReturnsInHanded {} Try.checked os 4 .any (Rows.histMergesSpec.pre6 enc Try.prog Try.f4 Rows.histMergesRow.domain false) (Rows.histMergesSpec.post enc Try.prog Try.f4 false true false false) := by
  refine returnsInHanded_of_change (C := Try.checked) ownE started (by kernel_rfl) Try.func4
    (ChangeSpec.witness6 (enc := enc) (C := Try.checked) false ⟨#[], #[.agg #[.int .i64 0, .slice none 0 0], .agg #[.int .i64 0, .slice none 0 0], .int .u64 0, .int .u64 0], []⟩ 8 (by kernel_rfl) (by kernel_rfl) (by kernel_rfl) (by kernel_rfl)) ?_
  intro W base args ds gs before hval0 hW _ _
  have hval : ∀ (j : Nat) t v, Try.f4.params[j]? = some t → args[j]? = some v → Value.okWide Try.prog W .any base t v := hval0
  have hW' := hW
  obtain ⟨p, q, hA0, hV, rfl, _, _⟩ := hW
  have hA : DataW.TrodAll enc Try.prog W 0 (fun _ => true) true Try.f4.params.toList args.toList ds p := hA0
  rw [Try.params4] at hA hval
  obtain ⟨v0, v1, v2, v3, d0, d1, d2, d3, p0, p1, p2, p3, rfl, rfl, rfl, h0, h1, h2, h3⟩ := trodAll_four hA
  obtain ⟨rfl, rfl⟩ := trodVars_none hV
  obtain ⟨f0, L0, u0, rfl, hf0, hl0, hz0⟩ := open_hist (hval 0 25 v0 rfl rfl) h0
  obtain ⟨f1, L1, u1, rfl, hf1, hl1, hz1⟩ := open_hist (hval 1 25 v1 rfl rfl) h1
  obtain ⟨x2, rfl, rfl, rfl, wx2⟩ := open_int Try.underlying22 (hval 2 22 v2 rfl rfl) h2
  obtain ⟨x3, rfl, rfl, rfl, wx3⟩ := open_int Try.underlying22 (hval 3 22 v3 rfl rfl) h3
  have hlt0 : ∀ x ∈ p0, x.block < W.heap.size := fun x hx => hW'.lt x (by simp [hx])
  have hlt1 : ∀ x ∈ p1, x.block < W.heap.size := fun x hx => hW'.lt x (by simp [hx])
  obtain ⟨n2, rfl, hb2⟩ := nat_of_wf wx2
  have hb2 : n2 ≤ topN := by show n2 ≤ 18446744073709551615; omega
  obtain ⟨n3, rfl, hb3⟩ := nat_of_wf wx3
  have hb3 : n3 ≤ topN := by show n3 ≤ 18446744073709551615; omega
  clear hA0 hval0
  simp only [List.append_nil] at hW'
  refine (lawMerges9_any f0 L0 u0 f1 L1 u1 n2 n3 W hf0 hl0 hz0 hf1 hl1 hz1 hb2 hb3).mono fun e W' ⟨he, hb⟩ => ?_
  subst he
  exact ⟨_, rfl, _, _, _, [], _, [], hW', trodAll_mk1 (shut_bool Try.underlying4 _), trodAll_mk4 (shut_hist h0 hb hlt0) (shut_hist h1 hb hlt1) (shut_int Try.underlying22 wx2) (shut_int Try.underlying22 wx3), rfl, hb.frame _, fun h => by cases h⟩

theorem merges_holds : Rows.HistMergesSaid :=
  OpenClaim.holds_of_wide 4 Try.f4 rfl rfl rfl rfl rfl rfl rfl ⟨rfl, rfl, rfl, rfl, rfl⟩ rfl rfl rfl rfl rfl (by kernel_rfl) Try.func4 (by kernel_rfl)
    (of_decide_eq_true (by kernel_rfl)) (by unfold Func.isWrapper; first | (rw [if_pos (by decide +kernel)]; kernel_rfl) | (rw [if_neg (by decide +kernel)]; exact ⟨rfl, rfl⟩))
    (fun os started H enc _ => merges_lifted os started H enc)
end Go.Proofs.Ytpdedogdffolnaa
