
/- The statements' walks: LabelOrders. -/
import Derived.Test.YtbcgjgefkkibbaaLLaws
namespace Go.Proofs.Ytbcgjgefkkibbaa
open Go.RowKit

set_option maxHeartbeats 4000000 in
set_option maxRecDepth 100000 in
theorem lawOrders_any (K M : List Lab) (va vb : Value) (w : World) (hA : LblSl w va K) (hB : LblSl w vb M) (hna : K.length ≤ maxLen) (hnb : M.length ≤ maxLen)
    (za : ∀ x ∈ K, x.1.size ≤ maxLen ∧ x.2.size ≤ maxLen) (zb : ∀ x ∈ M, x.1.size ≤ maxLen ∧ x.2.size ≤ maxLen) :
    Calls Try.prog 7 #[va, vb] w fun e w' => e = .returned (.bool true) ∧ Below w.heap.size w w' := by
  have F1 := Lib.hid (fun W h => few4_any K va W h hna za)
  have F2 := Lib.hid (fun W h => few4_any M vb W h hnb zb)
  have sa := fewLb_small K
  have sb := fewLb_small M
  have la := fewLb_len K
  have lb := fewLb_len M
  obtain ⟨A, hAe⟩ : ∃ A, fewLb K = A := ⟨_, rfl⟩
  obtain ⟨B, hBe⟩ : ∃ B, fewLb M = B := ⟨_, rfl⟩
  rw [hAe] at F1 sa la
  rw [hBe] at F2 sb lb
  have hcs := less_cases A B
  obtain ⟨p, hp⟩ : ∃ p, lessLb A B = p := ⟨_, rfl⟩
  obtain ⟨q, hq⟩ : ∃ q, lessLb B A = q := ⟨_, rfl⟩
  obtain ⟨r, hr⟩ : ∃ r, decide (A = B) = r := ⟨_, rfl⟩
  have hcs2 : (p = true ∧ q = false ∧ r = false) ∨ (p = false ∧ q = true ∧ r = false) ∨ (p = false ∧ q = false ∧ r = true) := by
    rw [hp, hq] at hcs
    rcases hcs with ⟨h1, h2, h3⟩ | ⟨h1, h2, h3⟩ | ⟨h1, h2, h3⟩
    · exact .inl ⟨h1, h2, by rw [← hr]; simpa using h3⟩
    · exact .inr (.inl ⟨h1, h2, by rw [← hr]; simpa using h3⟩)
    · exact .inr (.inr ⟨h1, h2, by rw [← hr]; simpa using h3⟩)
  have L1 := Lib.hid (fun W a b h1 h2 => lLess_any A B a b W h1 h2 (by omega) (by omega) sa sb)
  have L2 := Lib.hid (fun W a b h1 h2 => lLess_any B A a b W h1 h2 (by omega) (by omega) sb sa)
  have L3 := Lib.hid (fun W a b h1 h2 => refLess_any4 A B a b W h1 h2 (by omega) (by omega) sa sb)
  have L4 := Lib.hid (fun W a b h1 h2 => refSame_any4 A B a b W h1 h2 (by omega) (by omega))
  rw [hp] at L1 L3
  rw [hq] at L2
  rw [hr] at L4
  clear hcs hp hq hr hAe hBe hna hnb za zb sa sb la lb
  go_enter Try.func7, Try.ntmps7
  go_wp2_with fail
  with_reducible refine (shown4_any _).mono ?_
  rintro e w1 ⟨rfl, hb1⟩
  go_wp2_with fail
  with_reducible refine (F1.out _ (hA.below hb1)).mono ?_
  rintro e w2 ⟨⟨v1, rfl, ho⟩, hb⟩
  have hv1 := lblSl_of_owns ho
  have hb2 := hb1.trans (hb.mono hb1.size)
  clear hb1 hb ho
  go_wp2_with fail
  with_reducible refine (F2.out _ (hB.below hb2)).mono ?_
  rintro e w3 ⟨⟨v2, rfl, ho⟩, hb⟩
  have hv2 := lblSl_of_owns ho
  have hv1 := hv1.below hb
  have hb3 := hb2.trans (hb.mono hb2.size)
  clear hb2 hb ho
  go_wp2_with fail
  with_reducible refine (L1.out _ _ _ hv1 hv2).mono ?_
  rintro e w4 ⟨rfl, hb⟩
  have hv1 := hv1.below hb
  have hv2 := hv2.below hb
  have hb4 := hb3.trans (hb.mono hb3.size)
  clear hb3 hb
  go_wp2_with fail
  with_reducible refine (L2.out _ _ _ hv2 hv1).mono ?_
  rintro e w5 ⟨rfl, hb⟩
  have hv1 := hv1.below hb
  have hv2 := hv2.below hb
  have hb5 := hb4.trans (hb.mono hb4.size)
  clear hb4 hb
  go_wp2_with fail
  with_reducible refine (L3.out _ _ _ hv1 hv2).mono ?_
  rintro e w6 ⟨rfl, hb⟩
  have hv1 := hv1.below hb
  have hv2 := hv2.below hb
  have hb6 := hb5.trans (hb.mono hb5.size)
  clear hb5 hb
  rcases hcs2 with ⟨rfl, rfl, rfl⟩ | ⟨rfl, rfl, rfl⟩ | ⟨rfl, rfl, rfl⟩
  all_goals
    go_wp2_with fail
    with_reducible refine (L4.out _ _ _ hv1 hv2).mono ?_
    rintro e w7 ⟨rfl, hb⟩
    have hb7 := hb6.trans (hb.mono hb6.size)
    clear hb6 hb
    go_wp2_with fail
    go_ret
    exact ⟨rfl, hb7⟩
end Go.Proofs.Ytbcgjgefkkibbaa
