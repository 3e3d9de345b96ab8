/- The statements' walks, stage 9: how long told lists are; the page's own. -/
import Derived.Test.YtpdedogdffolnaaGItm
namespace Go.Proofs.Ytpdedogdffolnaa
open Go.RowKit

theorem addG_len (f : Int) (L : List Bn) (v n : Nat) (h : L.length ≤ 300) : (addG f L v n).1.2.length ≤ 1000 := by
  unfold addG
  split
  · have := putBn_len L (bktP f.toNat v : Int) n
    show (putBn L _ n).length ≤ 1000
    omega
  · exact Nat.zero_le _
theorem mergeGH_len (f : Int) (L : List Bn) (g : Int) (M : List Bn) (h : L.length ≤ 300) (h2 : M.length ≤ 300) : (mergeGH f L g M).1.2.length ≤ 1000 := by
  unfold mergeGH
  split
  · have := merge_lenG L M
    show (mergeG L M).length ≤ 1000
    omega
  · exact Nat.zero_le _
theorem lowerGH_len (f : Int) (L : List Bn) (h : L.length ≤ 300) : (lowerGH f L).1.2.length ≤ 1000 := by
  unfold lowerGH
  split
  · have := low_lenG f.toNat L
    show (lowG f.toNat L).length ≤ 1000
    omega
  · exact Nat.zero_le _
theorem gok_take {f : Int} {L : List Bn} (hf : smallI f) (h : binsOk L) : GOk f (L.take 300) ∧ (L.take 300).length ≤ 300 :=
  ⟨⟨hf, by rw [List.length_take]; omega, fun x hx => h.2 x (List.mem_of_mem_take hx)⟩, by rw [List.length_take]; omega⟩
theorem pBounds_bel (f a : Int) (W : World) : Calls Try.prog 14 #[.int .i64 f, .int .i64 a] W fun e w' => e = .returned (bndV (boundsI f a)) ∧ Below W.heap.size W w' :=
  (pBounds_any f a W).mono fun _ _ ⟨h1, k, h2⟩ => ⟨h1, by rw [h2]; exact bel_drewN (Below.refl _ _) k⟩
theorem pBucket_bel (f : Int) (v : Nat) (W : World) (hv : v ≤ topN) : Calls Try.prog 18 #[.int .i64 f, gV v] W fun e w' => e = .returned (.int .i64 (bucketI f v : Int)) ∧ Below W.heap.size W w' :=
  (pBucket_any f v W hv).mono fun _ _ ⟨h1, h2⟩ => ⟨h1, by rw [h2]; exact Below.refl _ _⟩
theorem pSame9_refl (f : Int) (L : List Bn) (hl : L.length ≤ 1000) (u v : Value) (W : World) (hu : BinSl W u L) (hv : BinSl W v L) :
    Calls Try.prog 21 #[hgV f u, hgV f v] W fun e w' => e = .returned (.bool true) ∧ Below W.heap.size W w' := by
  have h := pSame9_any f L u f L v W hu hv hl hl
  rw [sameG_refl] at h
  exact h
end Go.Proofs.Ytpdedogdffolnaa
