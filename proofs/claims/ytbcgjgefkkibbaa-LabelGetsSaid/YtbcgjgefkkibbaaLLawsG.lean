
/- The statements' walks: LabelGets. -/
import Derived.Test.YtbcgjgefkkibbaaLLaws
namespace Go.Proofs.Ytbcgjgefkkibbaa
open Go.RowKit

def inB (L : List Lab) (nm : ByteArray) : Bool := decide (∃ x ∈ L, x.1 = nm)
theorem inB_snoc (L : List Lab) (x : Lab) (nm : ByteArray) : inB (L ++ [x]) nm = (inB L nm || decide (x.1 = nm)) := by
  unfold inB
  rw [← Bool.decide_or]
  refine decide_eq_decide.2 ⟨?_, ?_⟩
  · rintro ⟨y, hy, he⟩
    rcases List.mem_append.1 hy with h | h
    · exact .inl ⟨y, h, he⟩
    · obtain rfl : y = x := by simpa using h
      exact .inr he
  · rintro (⟨y, h, he⟩ | he)
    · exact ⟨y, List.mem_append_left _ h, he⟩
    · exact ⟨x, List.mem_append_right _ (List.mem_cons_self ..), he⟩
set_option maxHeartbeats 8000000 in
set_option maxRecDepth 100000 in
theorem lawGets_any (K : List Lab) (va : Value) (nm : ByteArray) (w : World) (hA : LblSl w va K) (hna : K.length ≤ maxLen)
    (za : ∀ x ∈ K, x.1.size ≤ maxLen ∧ x.2.size ≤ maxLen) :
    Calls Try.prog 9 #[va, .string nm] w fun e w' => e = .returned (.bool true) ∧ Below w.heap.size w w' := by
  have F1 := Lib.hid (fun W h => few4_any K va W h hna za)
  have sa := fewLb_small K
  have la := fewLb_len K
  obtain ⟨A, hAe⟩ : ∃ A, fewLb K = A := ⟨_, rfl⟩
  rw [hAe] at F1 sa la
  have G1 := Lib.hid (fun W a m h => lGet_any A a m W h (by omega))
  have R1 := Lib.hid (fun W a h => lRight_any A a W h (by omega) sa)
  clear hAe hna za sa
  cases hr : rightB A with
  | false =>
    rw [hr] at R1
    clear hr
    go_enter Try.func9, Try.ntmps9
    go_wp2_with fail
    with_reducible refine (shown4_any _).mono ?_
    rintro e w1 ⟨rfl, hb1⟩
    go_wp2_with fail
    with_reducible refine (F1.out _ (hA.below hb1)).mono ?_
    rintro e w2 ⟨⟨v1, rfl, ho⟩, hb⟩
    have hv1 := lblSl_of_owns ho
    have hb2 := hb1.trans (hb.mono hb1.size)
    clear hb1 hb ho
    go_wp2_with fail
    with_reducible refine (R1.out _ _ hv1).mono ?_
    rintro e w3 ⟨rfl, hb⟩
    have hb3 := hb2.trans (hb.mono hb2.size)
    clear hb2 hb
    go_wp2_with fail
    go_ret
    exact ⟨rfl, hb3⟩
  | true =>
    rw [hr] at R1
    have hrise := (right_good hr).2
    have HG := Lib.hid (get_in A hrise)
    clear hr hrise
    go_enter Try.func9, Try.ntmps9
    go_wp2_with fail
    with_reducible refine (shown4_any _).mono ?_
    rintro e w1 ⟨rfl, hb1⟩
    go_wp2_with fail
    with_reducible refine (F1.out _ (hA.below hb1)).mono ?_
    rintro e w2 ⟨⟨v1, rfl, ho⟩, hb⟩
    have hv1 := lblSl_of_owns ho
    have hb2 := hb1.trans (hb.mono hb1.size)
    clear hb1 hb ho
    go_wp2_with fail
    with_reducible refine (R1.out _ _ hv1).mono ?_
    rintro e w3 ⟨rfl, hb⟩
    have hv1 := hv1.below hb
    have hb3 := hb2.trans (hb.mono hb2.size)
    clear hb2 hb
    obtain ⟨ao, c, rfl, hc⟩ := hv1.shape
    obtain ⟨n, hnn⟩ : ∃ n, n = A.length := ⟨_, rfl⟩
    rw [← hnn] at la hv1 ⊢
    have HC := Lib.hid hc
    have HN := Lib.hid hnn
    have HV := Lib.hid hv1
    clear hc hnn hv1
    go_wp2_with fail
    go_loopw [6, 7] (fun b i wr => ∃ k : Nat, k ≤ n ∧ i = .int .i64 k ∧ b = .bool (inB (A.take k) nm) ∧ Below w3.heap.size w3 wr) (fun _ i _ => n - (intOf i).toNat)
    case atStart => exact ⟨0, Nat.zero_le _, rfl, by simp [inB], Below.refl _ _⟩
    case round =>
      obtain ⟨k, hk, rfl, rfl, hbel⟩ := hrel
      by_cases hlt : k < n
      · have hkl : k < A.length := by have := HN.out; omega
        obtain ⟨g, o, rfl, hcc⟩ := HC.out k hkl
        have hget := HG.out A[k] (List.getElem_mem hkl)
        obtain ⟨x, y, hxy⟩ : ∃ x y, A[k] = (x, y) := ⟨_, _, rfl⟩
        have htk : A.take (k + 1) = A.take k ++ [(x, y)] := by rw [List.take_succ_eq_append_getElem hkl, hxy]
        have hin : inB (A.take (k + 1)) nm = (inB (A.take k) nm || decide (x = nm)) := by rw [htk, inB_snoc]
        rw [hxy] at hcc hget
        dsimp only at hcc hget
        have hgv : GetV A x = .tuple #[.string y, .bool true] := by unfold GetV; rw [hget]
        have GX := Lib.hid (fun W a h => G1.out W a x h)
        rw [hgv] at GX
        have HCC := Lib.hid hcc
        have c0 := (hcc wr hbel).1
        have HIN := Lib.hid hin
        have byy := ba_eq (rfl : y = y)
        have hvr := (HV.out).below hbel
        clear htk hin hget hgv hxy hcc
        obtain ⟨b, hb⟩ : ∃ b, inB (A.take k) nm = b := ⟨_, rfl⟩
        rw [hb] at HIN ⊢
        clear hb
        go_wp2_with fail
        with_reducible refine (GX.out _ _ hvr).mono ?_
        rintro e w4 ⟨rfl, hb⟩
        have hbel4 := hbel.trans (hb.mono hbel.size)
        have c1 := (HCC.out w4 hbel4).1
        have c2 := (HCC.out w4 hbel4).2
        clear hb hbel c0 hvr
        cases b with
        | true =>
          go_wp2_with fail
          go_roundw
          case rel => exact ⟨k + 1, by omega, by go_num, by rw [HIN.out]; rfl, hbel4⟩
          case measure => simp [intOf]; omega
        | false =>
          by_cases he : x = nm
          · have be := ba_eq he
            have hi2 : Hid (inB (A.take (k + 1)) nm = true) := by show inB _ nm = true; rw [HIN.out]; simp [he]
            clear he
            go_wp2_with fail
            go_roundw
            case rel => exact ⟨k + 1, by omega, by go_num, by rw [hi2.out], hbel4⟩
            case measure => simp [intOf]; omega
          · have be := ba_ne he
            have hi2 : Hid (inB (A.take (k + 1)) nm = false) := by show inB _ nm = false; rw [HIN.out]; simp [he]
            clear he
            go_wp2_with fail
            go_roundw
            case rel => exact ⟨k + 1, by omega, by go_num, by rw [hi2.out], hbel4⟩
            case measure => simp [intOf]; omega
      · have hkk : A.take k = A := List.take_of_length_le (by have := HN.out; omega)
        rw [hkk]
        have hsome := get_some A nm
        have GX := Lib.hid (fun W a h => G1.out W a nm h)
        have hvr := (HV.out).below hbel
        have hb5 := hb3.trans (hbel.mono hb3.size)
        cases hg : getLb A nm with
        | some y =>
          have hi : inB A nm = true := by unfold inB; rw [← hsome, hg]; rfl
          have hgv : GetV A nm = .tuple #[.string y, .bool true] := by unfold GetV; rw [hg]
          rw [hgv] at GX
          rw [hi]
          clear hi hgv hg hsome hkk
          go_wp2_with fail
          with_reducible refine (GX.out _ _ hvr).mono ?_
          rintro e w4 ⟨rfl, hb⟩
          have hb6 := hb5.trans (hb.mono hb5.size)
          clear hb hb5 hb3 hbel
          go_wp2_with fail
          go_ret
          exact ⟨rfl, hb6⟩
        | none =>
          have hi : inB A nm = false := by unfold inB; rw [← hsome, hg]; rfl
          have hgv : GetV A nm = .tuple #[.string { data := #[] }, .bool false] := by unfold GetV; rw [hg]
          rw [hgv] at GX
          rw [hi]
          clear hi hgv hg hsome hkk
          go_wp2_with fail
          with_reducible refine (GX.out _ _ hvr).mono ?_
          rintro e w4 ⟨rfl, hb⟩
          have hb6 := hb5.trans (hb.mono hb5.size)
          clear hb hb5 hb3 hbel
          go_wp2_with fail
          go_ret
          exact ⟨by first | rfl | simp, hb6⟩
end Go.Proofs.Ytbcgjgefkkibbaa
