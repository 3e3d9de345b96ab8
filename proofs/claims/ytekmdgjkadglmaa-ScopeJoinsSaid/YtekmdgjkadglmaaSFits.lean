/- Package scope: whether a pattern stands for a value; IsPattern, Fits. -/
import Derived.Test.YtekmdgjkadglmaaSStep
namespace Go.Proofs.Ytekmdgjkadglmaa
open Go.RowKit

set_option maxHeartbeats 2000000 in
set_option maxRecDepth 100000 in
theorem fits_any (P : List Tok) (v : Value) (s : ByteArray) (V : List ByteArray) (w : World) (hP : P.length ≤ 3000) (hR : RuneT P) (hv : PatSl w v P) (hV : runesL s.data.toList = some V) :
    Calls Try.prog 15 #[v, .string s] w fun e w' => e = .returned (.bool (fitsT P V)) ∧ Below w.heap.size w w' := by
  obtain ⟨ao, cp, rfl, hat⟩ := hv.at_
  obtain ⟨m, hm⟩ : ∃ m, m = P.length := ⟨_, rfl⟩
  have HM := Lib.hid hm
  have R1 := Lib.hid (fun nb W hv hnb hM => reach_any P ao cp w.heap.size nb 0 (fun _ => False) W (Nat.zero_le _) hP hv hnb hM)
  have S1 := Lib.hid (fun mb c S z W hz hc hv hn0 hM => step_any P ao cp w.heap.size mb c S z W hz hP hR hc hv hn0 hM)
  have hL := at_last P V
  rw [← hm] at R1 S1 hP hL ⊢
  have HV := Lib.hid hat
  have HL := Lib.hid hL
  have hV0 := hV
  rw [← List.drop_zero (l := s.data.toList)] at hV0
  have HV0 := Lib.hid hV0
  have hmm := @run_makeMap Try.prog
  have hz0 : ((0 : Nat) : Int) = 0 := rfl
  rw [hz0] at R1
  clear hv hm hat hL hV0 hV hR hz0
  go_enter Try.func15, Try.ntmps15
  go_wp2_with fail
  have hb1 := (Below.refl w.heap.size w).alloc (Nat.le_refl _) (.map #[] 0)
  have hp1 := HV.out.kept ((World.grownBy_alloc w (.map #[] 0) none).but (some w.heap.size)) (Nat.le_refl _)
  with_reducible refine (R1.out _ _ hp1 (Nat.le_refl _) (plM_made w m)).mono ?_
  rintro e w2 ⟨rfl, hM2, hg2⟩
  have hM3 : PlM w2 w.heap.size m (atP P []) := hM2.congr fun k _ => by rw [at_first]; simp
  have hb2 := hb1.grown hg2 (by simp) (fun k e => by have := Option.some.inj e; omega)
  have hp2 := hp1.kept hg2 (Nat.le_refl _)
  have HP2 := Lib.hid hp2
  have HM3 := Lib.hid hM3
  have HB2 := Lib.hid hb2
  have hsz2 : w.heap.size + 1 ≤ w2.heap.size := by have := hg2.size; simpa using this
  clear R1 hM2 hb1 hg2 hp1 hp2 hM3 hb2 hmm
  go_wp2_with fail
  go_loopw [5] (fun sa wr => ∃ (b p : Nat) (A B : List ByteArray), p ≤ s.size ∧ .map (some b) = sa ∧ w.heap.size ≤ b ∧ PlM wr b m (atP P A) ∧ Hid (runesL (s.data.toList.drop p) = some B) ∧ Hid (V = A ++ B) ∧ wr.heap[w2.heap.size]? = some (.stringIter s p) ∧ PatAt w.heap.size ao P wr ∧ Below w.heap.size w wr ∧ b ≠ w2.heap.size) (fun _ wr => s.size - wr.iterPos w2.heap.size)
  case atStart =>
    exact ⟨_, 0, [], V, Nat.zero_le _, rfl, Nat.le_refl _, HM3.out.alloc _, HV0.out, rfl, World.iter_heap w2 s 0, HP2.out.kept ((World.grownBy_alloc w2 _ none).but (some w.heap.size)) (Nat.le_refl _), HB2.out.alloc (by omega) _, by omega⟩
  case round =>
    obtain ⟨b, p, A, B, hp, rfl, hbn, hMr, HB, HAB, hit, hpr, hbw, hbi⟩ := hrel
    have hsz : w2.heap.size < wr.heap.size := (Array.getElem?_eq_some_iff.1 hit).1
    have HIT := Lib.hid hit
    have HMR := Lib.hid hMr
    have HPR := Lib.hid hpr
    have HBW := Lib.hid hbw
    by_cases hlt : p < s.size
    · obtain ⟨c, B', k, rfl, hD, hk1, hk2, hB', hcr, hctop⟩ := rune_next s p hlt HB.out
      obtain ⟨ri, hri⟩ : ∃ ri : Int, ri = (rnum c : Int) := ⟨_, rfl⟩
      have hnx : ∀ ty, (Instr.next (.pointer (some ⟨w2.heap.size, 0, none⟩)) true ty).run Try.prog wr = .ok (.tuple #[.bool true, .int .i64 (p : Int), .int .i32 ri]) (wr.iterAt w2.heap.size s (p + k)) := fun ty => by
        have := Lib.run_next_any_at (P := Try.prog) wr w2.heap.size s p ty hit hlt
        rw [hD] at this
        rw [hri]
        simpa using this
      have hgi := grown_iterAt (w := wr) (k := w2.heap.size) s (p + k)
      have hM4 := hMr.kept hgi (by intro e; exact hbi (Option.some.inj e))
      have hp4 := hpr.kept hgi (by omega)
      have hit4 := Lib.iterAt_heap wr w2.heap.size s p (p + k) hit
      have hbw4 := Lib.below_iterAt hbw (k := w2.heap.size) (by omega) s (p + k)
      have hsz4 : w2.heap.size < (wr.iterAt w2.heap.size s (p + k)).heap.size := by rw [Lib.iterAt_size]; exact hsz
      have S2 := Lib.hid (S1.out b c (atP P A) ri (wr.iterAt w2.heap.size s (p + k)) hri hcr hp4 (by omega) hM4)
      have hAB : V = (A ++ [c]) ++ B' := by rw [HAB.out, List.append_assoc]; rfl
      have HAB2 := Lib.hid hAB
      have HB2' := Lib.hid hB'
      have HP4 := Lib.hid hp4
      have HI4 := Lib.hid hit4
      have HBW4 := Lib.hid hbw4
      clear hD hri hgi hM4 hp4 hit4 hbw4 hAB hB' hit hMr hpr hbw
      go_wp2_with fail
      with_reducible refine S2.out.mono ?_
      rintro e w5 ⟨⟨nb, rfl, hnb, hM5⟩, hg5⟩
      have hM6 : PlM w5 nb m (atP P (A ++ [c])) := hM5.congr fun q _ => by rw [at_step, ← HM.out]
      have hit6 : w5.heap[w2.heap.size]? = some (.stringIter s (p + k)) := by rw [hg5.block _ hsz4 (by simp)]; exact HI4.out
      have hp6 := HP4.out.kept (hg5.but (some w.heap.size)) (Nat.le_refl _)
      have hb6 := HBW4.out.grown hg5 (by omega) (fun j e => by cases e)
      have hnbi : nb ≠ w2.heap.size := fun e => by
        obtain ⟨D, ⟨es, ck, hh, _⟩, _⟩ := hM6
        rw [e, hit6] at hh
        cases hh
      have HM6 := Lib.hid hM6
      have HI6 := Lib.hid hit6
      have HP6 := Lib.hid hp6
      have HB6 := Lib.hid hb6
      clear hM5 hg5 hM6 hit6 hp6 hb6 S2
      go_wp2_with (at_len; refine wpList_len_pl (by rfl) (.tmp 23) (by rfl) (by rfl) HM6.out ?_ ?_)
      · intro hnone
        have hF : fitsT P V = false := by
          rw [← Bool.not_eq_true, ← HL.out, HAB2.out]
          exact at_none (fun q hq => hnone q (by have := hq.1; rw [HM.out]; exact this) hq) _ _
        have HF := Lib.hid hF
        clear hnone hF
        go_wp2_with fail
        go_ret
        exact ⟨by rw [HF.out]; rfl, HB6.out⟩
      · intro z hz
        have hz2 : (z == 0) = false := by simpa using hz
        clear hz
        go_wp2_with fail
        go_roundw
        case rel => exact ⟨nb, p + k, A ++ [c], B', hk2, rfl, hnb, HM6.out, HB2', HAB2, HI6.out, HP6.out, HB6.out, hnbi⟩
        case measure =>
          simp only [World.iterPos, HI6.out, HIT.out]
          omega
    · have hnx : ∀ ty, (Instr.next (.pointer (some ⟨w2.heap.size, 0, none⟩)) true ty).run Try.prog wr = _ := fun ty => Lib.run_next_end_at wr w2.heap.size s p ty hit hlt
      obtain rfl := rune_end s p hlt HB.out
      have hVA : V = A := by have := HAB.out; rwa [List.append_nil] at this
      have HVA := Lib.hid hVA
      clear hVA hMr hpr hbw
      go_wp2_with (at_lookup; refine wpList_look_pl (by rfl) (.tmp 27) (.tmp 29) (by rfl) (by rfl) HMR.out m (by rfl) (Nat.le_refl _) (by omega) ?_; intro q hq)
      have hF : fitsT P V = q := by
        rw [Bool.eq_iff_iff, ← HL.out, hq, HVA.out]
      have HF := Lib.hid hF
      clear hF hq
      go_wp2_with fail
      go_ret
      exact ⟨by rw [HF.out]; rfl, HBW.out.alloc (by omega) _⟩

set_option maxRecDepth 100000 in
theorem sPat_any (p : ByteArray) (hp : p.size ≤ 3000) (w : World) : Calls Try.prog 7 #[.string p] w fun e w' => e = .returned (.bool (isPatB p)) ∧ Below w.heap.size w w' := by
  have P1 := Lib.hid (parse_any p hp w)
  go_enter Try.func7, Try.ntmps7
  go_wp2_with fail
  with_reducible refine P1.out.mono ?_
  rintro e w2 ⟨⟨v, rfl, _⟩, hb⟩
  go_wp2_with fail
  go_ret
  exact ⟨rfl, hb⟩
theorem runes_outV {v : ByteArray} : RunesOut v = .tuple #[.int .i64 ((cntL v.data.toList).getD 0 : Nat), .bool (cntL v.data.toList).isSome] := by
  unfold RunesOut
  cases cntL v.data.toList <;> rfl
set_option maxHeartbeats 1000000 in
set_option maxRecDepth 100000 in
theorem sFits_any (p v : ByteArray) (hp : p.size ≤ 3000) (hv : v.size ≤ 3000) (w : World) : Calls Try.prog 8 #[.string p, .string v] w fun e w' => e = .returned (.bool (fitsB p v)) ∧ Below w.heap.size w w' := by
  have R1 := Lib.hid (lRunes_any v hv w)
  have P1 := Lib.hid (fun W => parse_any p hp W)
  rw [runes_outV] at R1
  have hso := runes_some_iff v.data.toList
  obtain ⟨q, hq⟩ : ∃ q, q = (cntL v.data.toList).isSome := ⟨_, rfl⟩
  obtain ⟨n, hn⟩ : ∃ n, n = ((cntL v.data.toList).getD 0 : Nat) := ⟨_, rfl⟩
  rw [← hq] at R1 hso
  rw [← hn] at R1
  have HSO := Lib.hid hso
  clear hso hq hn
  go_enter Try.func8, Try.ntmps8
  go_wp2_with fail
  with_reducible refine R1.out.mono ?_
  rintro e w2 ⟨rfl, hb⟩
  clear R1
  cases q with
  | false =>
    have hF : fitsB p v = false := by
      unfold fitsB
      cases hr : runesL v.data.toList with
      | none => simp
      | some _ => rw [hr] at HSO; exact absurd HSO.out (by simp)
    have HF := Lib.hid hF
    clear hF
    go_wp2_with fail
    go_ret
    exact ⟨by rw [HF.out]; rfl, hb⟩
  | true =>
    obtain ⟨V, hV⟩ := Option.isSome_iff_exists.1 HSO.out
    have HV := Lib.hid hV
    clear hV
    go_wp2_with fail
    with_reducible refine (P1.out _).mono ?_
    rintro e w3 ⟨⟨pv, rfl, hpv⟩, hb3⟩
    have hbb := hb.trans (hb3.mono hb.size)
    clear hb hb3 P1
    have hFF : fitsB p v = (isPatB p && fitsT ((tokL (runes0 p)).getD []) V) := by unfold fitsB; rw [HV.out]
    have HFF := Lib.hid hFF
    have HPV := Lib.hid hpv
    clear hFF hpv
    obtain ⟨ip, hip⟩ : ∃ ip, ip = isPatB p := ⟨_, rfl⟩
    rw [← hip] at HFF HPV ⊢
    clear hip
    cases ip with
    | false =>
      go_wp2_with fail
      go_ret
      exact ⟨by rw [HFF.out]; rfl, hbb⟩
    | true =>
      obtain ⟨R, P, hps, hR, hT⟩ := HPV.out rfl
      have h0 : runes0 p = R := by unfold runes0; rw [hR]; rfl
      have hrt : RuneT P := by
        have h1 := tokS_rune R (runes_are _ _ hR)
        have h2 := (tokS_end R).1
        have h3 := (tokS_end R).2
        rw [hT] at h2 h3
        have h4 : (tokS R).2 = false := by cases hq : (tokS R).2 with
          | false => rfl
          | true => rw [hq] at h2; exact absurd h2 (by simp)
        rw [← h3 h4] at h1
        exact h1
      have hlen : P.length ≤ 3000 := by
        have h2 := (tokS_end R).1
        have h3 := (tokS_end R).2
        rw [hT] at h2 h3
        have h4 : (tokS R).2 = false := by cases hq : (tokS R).2 with
          | false => rfl
          | true => rw [hq] at h2; exact absurd h2 (by simp)
        have h5 := tokS_len R
        rw [← h3 h4] at h5
        have h6 := runes0_len p
        rw [h0] at h6
        have h7 : (some P : Option (List Tok)).getD [] = P := rfl
        rw [h7] at h5
        omega
      have F1 := Lib.hid (fits_any P pv v V w3 hlen hrt hps HV.out)
      have hEE : fitsB p v = fitsT P V := by rw [HFF.out, h0, hT]; rfl
      have HEE := Lib.hid hEE
      clear hEE hrt hlen hps hR hT h0
      go_wp2_with fail
      with_reducible refine F1.out.mono ?_
      rintro e w4 ⟨rfl, hb4⟩
      have hbc := hbb.trans (hb4.mono hbb.size)
      clear hb4 hbb F1
      go_wp2_with fail
      go_ret
      exact ⟨by rw [HEE.out]; rfl, hbc⟩
end Go.Proofs.Ytekmdgjkadglmaa
