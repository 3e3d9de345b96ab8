
/- The statements' walks: shown; LabelRunes; LabelOrders. Wants the contracts of package label: LabC. -/
import Derived.Test.YtbcgjgefkkibbaaLabC
namespace Go.Proofs.Ytbcgjgefkkibbaa
open Go.RowKit

def set0 : List Lab := [(⟨#[97]⟩, ⟨#[195, 169, 44]⟩), (⟨#[98]⟩, ⟨#[120, 121]⟩)]
theorem sh_parse : parseL [98, 61, 120, 92, 121, 44, 97, 61, 195, 169, 92, 44] = some set0 := by kernel_rfl
theorem sh_text : TextV set0 = .tuple #[.string ⟨#[97, 61, 195, 169, 92, 44, 44, 98, 61, 120, 121]⟩, .int .i64 0] := by kernel_rfl
theorem sh_wrong : parseL [97, 61, 49, 44, 97, 61, 50] = none := by kernel_rfl
theorem sh_runes : RunesOut ⟨#[195, 169, 44]⟩ = .tuple #[.int .i64 2, .bool true] := by kernel_rfl
theorem sh_small : smallLb set0 := fun x hx => by
  simp only [set0, List.mem_cons, List.not_mem_nil, or_false] at hx
  rcases hx with rfl | rfl <;> exact ⟨by decide, by decide⟩
theorem parseP_get {s : ByteArray} {w' : World} {e : Ending} {L : List Lab} (h : ParseP s w' e) (hp : parseL s.data.toList = some L) : ∃ v, e = .returned (.tuple #[v, .int .i64 0]) ∧ LblSl w' v L := by
  unfold ParseP at h
  rw [hp] at h
  exact h
theorem parseP_no {s : ByteArray} {w' : World} {e : Ending} (h : ParseP s w' e) (hp : parseL s.data.toList = none) : e = .returned (.tuple #[.slice none 0 0, .int .i64 40]) := by
  unfold ParseP at h
  rw [hp] at h
  exact h
set_option maxHeartbeats 1000000 in
set_option maxRecDepth 100000 in
theorem shown4_any (w : World) : Calls Try.prog 10 #[] w fun e w' => e = .returned (.bool true) ∧ Below w.heap.size w w' := by
  go_enter Try.func10, Try.ntmps10
  go_wp2_with fail
  with_reducible refine (lParse_any _ (by decide) _).mono ?_
  rintro e w2 ⟨hp, hb2⟩
  obtain ⟨v, rfl, hv⟩ := parseP_get hp sh_parse
  clear hp
  go_wp2_with fail
  with_reducible refine (lText_any set0 v _ hv (by decide) sh_small).mono ?_
  rintro e w3 ⟨rfl, hb3⟩
  rw [sh_text]
  have hb4 := hb2.trans (hb3.mono hb2.size)
  clear hb2 hb3 hv
  go_wp2_with fail
  with_reducible refine (lParse_any _ (by decide) _).mono ?_
  rintro e w5 ⟨hp, hb5⟩
  obtain rfl := parseP_no hp sh_wrong
  have hb6 := hb4.trans (hb5.mono hb4.size)
  clear hp hb4 hb5
  go_wp2_with fail
  with_reducible refine (lRunes_any _ (by decide) _).mono ?_
  rintro e w7 ⟨rfl, hb7⟩
  rw [sh_runes]
  have hb8 := hb6.trans (hb7.mono hb6.size)
  clear hb6 hb7
  go_wp2_with fail
  go_ret
  exact ⟨rfl, hb8⟩
end Go.Proofs.Ytbcgjgefkkibbaa
