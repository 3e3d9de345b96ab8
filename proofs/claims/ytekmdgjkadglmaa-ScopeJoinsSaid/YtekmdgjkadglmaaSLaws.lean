/- The statements' walks: shown; ScopeTerms; ScopeJoins. Wants the contracts of package scope: SCopC. -/
import Derived.Test.YtekmdgjkadglmaaSCopC
namespace Go.Proofs.Ytekmdgjkadglmaa
open Go.RowKit

def set5 : List Lab := [(⟨#[97]⟩, ⟨#[97, 120, 120, 195, 169, 121]⟩)]
set_option maxRecDepth 100000 in
theorem sh5_a : MeansV ⟨#[97, 61, 97, 42, 195, 169, 63]⟩ set5 = .tuple #[.bool true, .int .i64 0] := by kernel_rfl
set_option maxRecDepth 100000 in
theorem sh5_b : MeansV ⟨#[98, 61, 42]⟩ set5 = .tuple #[.bool false, .int .i64 0] := by kernel_rfl
set_option maxRecDepth 100000 in
theorem sh5_c : fitsB ⟨#[126, 42]⟩ ⟨#[42]⟩ = true := by kernel_rfl
set_option maxRecDepth 100000 in
theorem sh5_d : fitsB ⟨#[126, 42]⟩ ⟨#[120]⟩ = false := by kernel_rfl
theorem sh5_small : smallLb set5 := fun x hx => by
  simp only [set5, List.mem_cons, List.not_mem_nil, or_false] at hx
  rcases hx with rfl; exact ⟨by decide, by decide⟩
theorem lbl_built (w : World) (a b : ByteArray) (T : Nat) : LblSl (w.alloc (Obj.cells #[.string a, .string b] T)) (.slice (some ⟨w.heap.size, 0, none⟩) 1 1) [(a, b)] := by
  refine .inr ⟨w.heap.size, 0, 1, rfl, by simp, fun j hj => ?_⟩
  obtain rfl : j = 0 := by simpa using hj
  exact ⟨World.cell?_alloc_at _ _ _ _ rfl, World.cell?_alloc_at _ _ _ _ rfl⟩
set_option maxHeartbeats 2000000 in
set_option maxRecDepth 100000 in
theorem shown5_any (w : World) : Calls Try.prog 5 #[] w fun e w' => e = .returned (.bool true) ∧ Below w.heap.size w w' := by
  have M1 := Lib.hid (fun W v h => sMeans_any ⟨#[97, 61, 97, 42, 195, 169, 63]⟩ set5 v W (by decide) h (by decide) sh5_small)
  have M2 := Lib.hid (fun W v h => sMeans_any ⟨#[98, 61, 42]⟩ set5 v W (by decide) h (by decide) sh5_small)
  have F1 := Lib.hid (fun W => sFits_any ⟨#[126, 42]⟩ ⟨#[42]⟩ (by decide) (by decide) W)
  have F2 := Lib.hid (fun W => sFits_any ⟨#[126, 42]⟩ ⟨#[120]⟩ (by decide) (by decide) W)
  rw [sh5_a] at M1
  rw [sh5_b] at M2
  rw [sh5_c] at F1
  rw [sh5_d] at F2
  go_enter Try.func5, Try.ntmps5
  go_wp2_with fail
  have hv := lbl_built w ⟨#[97]⟩ ⟨#[97, 120, 120, 195, 169, 121]⟩ 37
  have hb1 := (Below.refl w.heap.size w).alloc (Nat.le_refl _) (Obj.cells #[.string ⟨#[97]⟩, .string ⟨#[97, 120, 120, 195, 169, 121]⟩] 37)
  with_reducible refine (M1.out _ _ hv).mono ?_
  rintro e w2 ⟨rfl, hb⟩
  have hv2 := hv.below hb
  have hb2 := hb1.trans (hb.mono hb1.size)
  clear hb hv hb1
  go_wp2_with fail
  with_reducible refine (M2.out _ _ hv2).mono ?_
  rintro e w3 ⟨rfl, hb⟩
  have hb3 := hb2.trans (hb.mono hb2.size)
  clear hb hv2 hb2
  go_wp2_with fail
  with_reducible refine (F1.out _).mono ?_
  rintro e w4 ⟨rfl, hb⟩
  have hb4 := hb3.trans (hb.mono hb3.size)
  clear hb hb3
  go_wp2_with fail
  with_reducible refine (F2.out _).mono ?_
  rintro e w5 ⟨rfl, hb⟩
  have hb5 := hb4.trans (hb.mono hb4.size)
  clear hb hb4
  go_wp2_with fail
  go_ret
  exact ⟨rfl, hb5⟩
end Go.Proofs.Ytekmdgjkadglmaa
