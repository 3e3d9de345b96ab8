/- Package label: Parse. -/
import Derived.Test.YtbcgjgefkkibbaaLRead
import Derived.Test.YtbcgjgefkkibbaaLSortC
import Derived.Test.YtbcgjgefkkibbaaLCheck
namespace Go.Proofs.Ytbcgjgefkkibbaa
open Go.RowKit

theorem labs_small : ∀ (n : Nat) (l : List UInt8) (M : List Lab), labsO n l = some M → ∀ x ∈ M, x.1.size ≤ l.length ∧ x.2.size ≤ l.length := by
  intro n
  induction n with
  | zero => intro l M h; simp [labsO] at h
  | succ n ih =>
    intro l M h
    cases l with
    | nil => simp [labsO] at h; subst h; intro x hx; simp at hx
    | cons c t =>
      have hdef : labsO (n + 1) (c :: t) = match oneL t with | none => none | some (x, y, r) => (labsO n r).map ((⟨x.toArray⟩, ⟨y.toArray⟩) :: ·) := rfl
      rw [hdef] at h
      cases ho : oneL t with
      | none => rw [ho] at h; simp at h
      | some q =>
        obtain ⟨x, y, r⟩ := q
        rw [ho] at h
        dsimp only at h
        have hl := one_len ho
        cases hr : labsO n r with
        | none => rw [hr] at h; simp at h
        | some M' =>
          rw [hr] at h
          simp at h
          subst h
          intro z hz
          rcases List.mem_cons.1 hz with rfl | hz
          · have e1 : (⟨x.toArray⟩ : ByteArray).size = x.length := by simp [ByteArray.size]
            have e2 : (⟨y.toArray⟩ : ByteArray).size = y.length := by simp [ByteArray.size]
            rw [List.length_cons]
            dsimp only
            omega
          · have := ih r M' hr z hz
            rw [List.length_cons]
            omega
theorem labsO_pos {n : Nat} {l : List UInt8} {M : List Lab} (h : labsO n (44 :: l) = some M) : 0 < M.length := by
  cases n with
  | zero => simp [labsO] at h
  | succ n =>
    have hdef : labsO (n + 1) (44 :: l) = match oneL l with | none => none | some (x, y, r) => (labsO n r).map ((⟨x.toArray⟩, ⟨y.toArray⟩) :: ·) := rfl
    rw [hdef] at h
    cases ho : oneL l with
    | none => rw [ho] at h; simp at h
    | some q =>
      obtain ⟨x, y, r⟩ := q
      rw [ho] at h
      dsimp only at h
      cases hr : labsO n r with
      | none => rw [hr] at h; simp at h
      | some M' => rw [hr] at h; simp at h; subst h; simp

set_option maxHeartbeats 1000000 in
set_option maxRecDepth 100000 in
theorem lParse_any (s : ByteArray) (hs : s.size ≤ 2000) (w : World) :
    Calls Try.prog 11 #[.string s] w fun e w' => ParseP s w' e ∧ Below w.heap.size w w' := by
  have R1 := Lib.hid (read_any s hs w)
  have HSZ := Lib.hid hs
  clear hs
  go_enter Try.func11, Try.ntmps11
  go_wp2_with fail
  with_reducible refine R1.out.mono ?_
  rintro e w1 ⟨hP, hb1⟩
  clear R1
  rcases hP with ⟨x, rfl, hp⟩ | ⟨dv, k, M, rfl, hk, ho, hML, hO⟩
  · have HP := Lib.hid hp
    have E1 := Lib.hid (errno_bad x)
    clear hp
    go_wp2_with fail
    with_reducible refine (E1.out _).mono ?_
    rintro e w3 ⟨rfl, rfl⟩
    go_wp2_with fail
    go_ret2
    exact ⟨parseP_none HP.out, hb1⟩
  · have hM0 := labsO_pos ho
    have hsm := labs_small _ _ _ ho
    obtain ⟨g, cap, rfl, _, _⟩ := hO.form hM0
    obtain ⟨s1, s2⟩ := parse_labs s.data.toList
    have hpl := s1 k hk
    rw [ho] at hpl
    dsimp only at hpl
    have HPL := Lib.hid hpl
    have S1 := Lib.hid (sort_any M g cap w.heap.size w1 hO (by omega))
    have HML := Lib.hid hML
    have HSM := Lib.hid hsm
    clear hpl s1 s2 hk ho hO hsm hML
    go_wp2_with fail
    with_reducible refine S1.out.mono ?_
    rintro e w2 ⟨rfl, ⟨S, hp, hpw, hlen, hL⟩, hb2⟩
    clear S1
    have hsS : smallLb S := fun z hz => by
      have := HSM.out z (hp.subset hz)
      have h2 := HSZ.out
      have h3 := lenL s
      simp only [List.length_cons] at this
      omega
    have hbw2 := hb1.trans hb2
    have C1 := Lib.hid (check_any S _ w2 hL (by have := HML.out; omega) hsS)
    obtain ⟨q1, q2⟩ := sorted_right hp (hpw.imp fun h => Int.not_lt.2 h)
    have Q1 := Lib.hid q1
    have Q2 := Lib.hid q2
    have HL := Lib.hid hL
    obtain ⟨m, hm⟩ : ∃ m, m = M.length := ⟨_, rfl⟩
    rw [← hm] at C1 HL ⊢
    clear hp hpw hlen hsS q1 q2 hL hb1 hb2 hm hM0
    go_wp2_with fail
    with_reducible refine C1.out.mono ?_
    rintro e w3 ⟨⟨u, rfl, hu⟩, hb3⟩
    clear C1
    rcases hu with ⟨hr, rfl⟩ | ⟨hr, x, rfl⟩
    · have E1 := Lib.hid errno_ok
      have HP := Lib.hid (show parseL s.data.toList = some S by rw [HPL.out, ← Q1.out hr, if_pos hr])
      clear hr
      go_wp2_with fail
      with_reducible refine (E1.out _).mono ?_
      rintro e w4 ⟨rfl, rfl⟩
      go_wp2_with fail
      go_ret2
      exact ⟨parseP_some HP.out (HL.out.below hb3), hbw2.trans (hb3.mono hbw2.size)⟩
    · have E1 := Lib.hid (errno_bad x)
      have HP := Lib.hid (show parseL s.data.toList = none by rw [HPL.out, if_neg (by rw [Q2.out hr]; decide)])
      clear hr
      go_wp2_with fail
      with_reducible refine (E1.out _).mono ?_
      rintro e w4 ⟨rfl, rfl⟩
      go_wp2_with fail
      go_ret2
      exact ⟨parseP_none HP.out, hbw2.trans (hb3.mono hbw2.size)⟩
end Go.Proofs.Ytbcgjgefkkibbaa
