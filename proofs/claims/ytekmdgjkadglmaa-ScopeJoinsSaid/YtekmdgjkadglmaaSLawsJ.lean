/- The statements' walks: ScopeJoins. -/
import Derived.Test.YtekmdgjkadglmaaSLaws
import Derived.Test.YtekmdgjkadglmaaLRuns
namespace Go.Proofs.Ytekmdgjkadglmaa
open Go.RowKit

theorem runes_out (s : ByteArray) : ∃ n : Nat, RunesOut s = .tuple #[.int .i64 (n : Int), .bool (runesL s.data.toList).isSome] := by
  rw [runes_some_iff]
  unfold RunesOut
  cases cntL s.data.toList with
  | none => exact ⟨0, rfl⟩
  | some n => exact ⟨n, rfl⟩
def lB (p v : ByteArray) (i : Nat) : Bool := (runesL (v.extract 0 i).data.toList).isSome && fitsB p (v.extract 0 i)
def rB (q v : ByteArray) (k : Nat) : Bool := (runesL (v.extract k v.size).data.toList).isSome && fitsB q (v.extract k v.size)
def inG (q v : ByteArray) (i : Nat) : Nat → Bool
  | 0 => false
  | j + 1 => inG q v i j || (decide (i ≤ j) && rB q v j)
def outG (p q v : ByteArray) : Nat → Bool
  | 0 => false
  | i + 1 => outG p q v i || (lB p v i && inG q v i (v.size + 1))
theorem inG_self (q v : ByteArray) (i : Nat) : ∀ j, j ≤ i → inG q v i j = false := by
  intro j
  induction j with
  | zero => intro _; rfl
  | succ j ih =>
    intro h
    unfold inG
    rw [ih (by omega), decide_eq_false (by omega)]
    rfl
theorem inG_iff (q v : ByteArray) (i : Nat) : ∀ j, inG q v i j = true ↔ ∃ k, i ≤ k ∧ k < j ∧ rB q v k = true := by
  intro j
  induction j with
  | zero => exact ⟨fun h => (nomatch h), fun ⟨k, _, h, _⟩ => absurd h (by omega)⟩
  | succ j ih =>
    unfold inG
    rw [Bool.or_eq_true, Bool.and_eq_true, decide_eq_true_iff, ih]
    constructor
    · rintro (⟨k, h1, h2, h3⟩ | ⟨h1, h2⟩)
      · exact ⟨k, h1, by omega, h3⟩
      · exact ⟨j, h1, by omega, h2⟩
    · rintro ⟨k, h1, h2, h3⟩
      by_cases h : k = j
      · subst h; exact .inr ⟨h1, h3⟩
      · exact .inl ⟨k, h1, by omega, h3⟩
theorem outG_iff (p q v : ByteArray) : ∀ j, outG p q v j = true ↔ ∃ i, i < j ∧ lB p v i = true ∧ ∃ k, i ≤ k ∧ k ≤ v.size ∧ rB q v k = true := by
  intro j
  induction j with
  | zero => exact ⟨fun h => (nomatch h), fun ⟨k, h, _⟩ => absurd h (by omega)⟩
  | succ j ih =>
    unfold outG
    rw [Bool.or_eq_true, Bool.and_eq_true, ih, inG_iff]
    constructor
    · rintro (⟨i, h1, h2⟩ | ⟨h1, k, h2, h3, h4⟩)
      · exact ⟨i, by omega, h2⟩
      · exact ⟨j, by omega, h1, k, h2, by omega, h4⟩
    · rintro ⟨i, h1, h2, k, h3, h4, h5⟩
      by_cases h : i = j
      · subst h; exact .inr ⟨h2, k, h3, by omega, h5⟩
      · exact .inl ⟨i, by omega, h2, k, h3, h4, h5⟩
theorem joined {p q v : ByteArray} (hp : isPatB p = true) (hq : isPatB q = true) (ha : isPatB (p ++ starS ++ q) = true) (hv : (runesL v.data.toList).isSome = true) :
    fitsB (p ++ starS ++ q) v = outG p q v (v.size + 1) := by
  obtain ⟨V, hV⟩ := Option.isSome_iff_exists.1 hv
  rw [Bool.eq_iff_iff, fits_joined hp hq ha hV, outG_iff]
  constructor
  · rintro ⟨i, k, h1, h2, h3, h4, h5, h6⟩
    exact ⟨i, by omega, by unfold lB; rw [h3, h4]; rfl, k, h1, h2, by unfold rB; rw [h5, h6]; rfl⟩
  · rintro ⟨i, h1, h2, k, h3, h4, h5⟩
    unfold lB at h2
    unfold rB at h5
    rw [Bool.and_eq_true] at h2 h5
    exact ⟨i, k, h3, h4, h2.1, h2.2, h5.1, h5.2⟩
theorem min60 (x : ByteArray) : ∃ m : Nat, (if (60 : Int) < (x.size : Int) then (60 : Int) else (x.size : Int)) = (m : Int) ∧ (m : Int) ≤ (x.size : Int) ∧ m ≤ 60 := ⟨min x.size 60, by split <;> omega, by omega, by omega⟩
set_option maxHeartbeats 8000000 in
set_option maxRecDepth 100000 in
theorem lawJoins_any (p0 q0 v0 : ByteArray) (_hp0 : p0.size ≤ maxLen) (_hq0 : q0.size ≤ maxLen) (_hv0 : v0.size ≤ maxLen) (w : World) :
    Calls Try.prog 3 #[.string p0, .string q0, .string v0] w fun e w' => e = .returned (.bool true) ∧ Below w.heap.size w w' := by
  unfold maxLen at _hp0 _hq0 _hv0
  obtain ⟨a1, a2, a3, a4⟩ := min60 p0
  obtain ⟨b1, b2, b3, b4⟩ := min60 q0
  obtain ⟨c1, c2, c3, c4⟩ := min60 v0
  obtain ⟨p, hp⟩ : ∃ p, p0.extract 0 a1 = p := ⟨_, rfl⟩
  obtain ⟨q, hq⟩ : ∃ q, q0.extract 0 b1 = q := ⟨_, rfl⟩
  obtain ⟨v, hv⟩ : ∃ v, v0.extract 0 c1 = v := ⟨_, rfl⟩
  have zp : p.size ≤ 60 := by rw [← hp]; simp; omega
  have zq : q.size ≤ 60 := by rw [← hq]; simp; omega
  have zv : v.size ≤ 60 := by rw [← hv]; simp; omega
  obtain ⟨al, hal⟩ : ∃ al, p ++ starS ++ q = al := ⟨_, rfl⟩
  have zal : al.size ≤ 121 := by rw [← hal, ByteArray.size_append, ByteArray.size_append]; have : starS.size = 1 := rfl; omega
  have HJ := Lib.hid (fun h1 h2 h3 h4 => joined (p := p) (q := q) (v := v) h1 h2 h3 h4)
  rw [hal] at HJ
  unfold starS at hal
  obtain ⟨n, hn⟩ : ∃ n, n = v.size := ⟨_, rfl⟩
  have R0 := Lib.hid (fun W => lRunes_any v (by omega) W)
  obtain ⟨cv, hcv⟩ := runes_out v
  rw [hcv] at R0
  have R1 := Lib.hid (fun W k => lRunes_any (v.extract 0 k) (by simp; omega) W)
  have R2 := Lib.hid (fun W k => lRunes_any (v.extract k v.size) (by simp; omega) W)
  have P1 := Lib.hid (fun W => sPat_any p (by omega) W)
  have P2 := Lib.hid (fun W => sPat_any q (by omega) W)
  have P3 := Lib.hid (fun W => sPat_any al (by omega) W)
  have F1 := Lib.hid (fun W k => sFits_any p (v.extract 0 k) (by omega) (by simp; omega) W)
  have F2 := Lib.hid (fun W k => sFits_any q (v.extract k v.size) (by omega) (by simp; omega) W)
  have F3 := Lib.hid (fun W => sFits_any al v (by omega) (by omega) W)
  obtain ⟨ok, hok⟩ : ∃ ok, (runesL v.data.toList).isSome = ok := ⟨_, rfl⟩
  obtain ⟨i1, hi1⟩ : ∃ x, isPatB p = x := ⟨_, rfl⟩
  obtain ⟨i2, hi2⟩ : ∃ x, isPatB q = x := ⟨_, rfl⟩
  obtain ⟨i3, hi3⟩ : ∃ x, isPatB al = x := ⟨_, rfl⟩
  rw [hok] at R0 HJ
  rw [hi1] at P1 HJ
  rw [hi2] at P2 HJ
  rw [hi3] at P3 HJ
  have HN := Lib.hid hn
  clear hok hi1 hi2 hi3 hcv hn zal
  go_enter Try.func3, Try.ntmps3
  go_wp2_with fail
  with_reducible refine (shown5_any _).mono ?_
  rintro e w1 ⟨rfl, hb1⟩
  go_wp2_with fail
  with_reducible refine (R0.out _).mono ?_
  rintro e w2 ⟨rfl, hb⟩
  have hb2 := hb1.trans (hb.mono hb1.size)
  clear hb hb1
  cases ok with
  | false =>
    go_wp2_with fail
    go_ret
    exact ⟨rfl, hb2⟩
  | true =>
    go_wp2_with fail
    with_reducible refine (P1.out _).mono ?_
    rintro e w3 ⟨rfl, hb⟩
    have hb3 := hb2.trans (hb.mono hb2.size)
    clear hb hb2
    cases i1 with
    | false =>
      go_wp2_with fail
      go_ret
      exact ⟨rfl, hb3⟩
    | true =>
      go_wp2_with fail
      with_reducible refine (P2.out _).mono ?_
      rintro e w4 ⟨rfl, hb⟩
      have hb4 := hb3.trans (hb.mono hb3.size)
      clear hb hb3
      cases i2 with
      | false =>
        go_wp2_with fail
        go_ret
        exact ⟨rfl, hb4⟩
      | true =>
        go_wp2_with fail
        with_reducible refine (P3.out _).mono ?_
        rintro e w5 ⟨rfl, hb⟩
        have hb5 := hb4.trans (hb.mono hb4.size)
        clear hb hb4
        cases i3 with
        | false =>
          go_wp2_with fail
          go_ret
          exact ⟨rfl, hb5⟩
        | true =>
          have HK := Lib.hid (HJ.out (by simp) (by simp) (by simp) (by simp))
          clear HJ
          rw [← HN.out] at R2 F2 HK
          have HW5 := Lib.hid hb5
          have zn : n ≤ 60 := by have := HN.out; omega
          have hvn : v.size = n := HN.out.symm
          clear hb5
          go_wp2_with fail
          go_loopw [11, 12] (fun b i wr => ∃ k : Nat, k ≤ n + 1 ∧ i = .int .i64 k ∧ b = .bool (outG p q v k) ∧ Below w5.heap.size w5 wr) (fun _ i _ => n + 1 - (intOf i).toNat)
          case atStart => exact ⟨0, Nat.zero_le _, rfl, rfl, Below.refl _ _⟩
          case round =>
            obtain ⟨k, hk, rfl, rfl, hbel⟩ := hrel
            by_cases hlt : k ≤ n
            · obtain ⟨vk, hvk⟩ : ∃ vk, v.extract 0 k = vk := ⟨_, rfl⟩
              obtain ⟨cl, hcl⟩ := runes_out vk
              have R1k := Lib.hid (fun W => R1.out W k)
              have F1k := Lib.hid (fun W => F1.out W k)
              obtain ⟨lk, hlk⟩ : ∃ x, (runesL vk.data.toList).isSome = x := ⟨_, rfl⟩
              obtain ⟨fk, hfk⟩ : ∃ x, fitsB p vk = x := ⟨_, rfl⟩
              rw [hvk, hcl, hlk] at R1k
              rw [hvk, hfk] at F1k
              have hst : outG p q v (k + 1) = (outG p q v k || ((lk && fk) && inG q v k (n + 1))) := by
                show (outG p q v k || (lB p v k && inG q v k (v.size + 1))) = _
                unfold lB
                rw [hvk, hlk, hfk, hvn]
              obtain ⟨ok, hok⟩ : ∃ x, outG p q v k = x := ⟨_, rfl⟩
              rw [hok] at hst ⊢
              have HS := Lib.hid hst
              clear hst hok hcl hlk hfk
              go_wp2_with fail
              with_reducible refine (R1k.out _).mono ?_
              rintro e w6 ⟨rfl, hb⟩
              have hb6 := hbel.trans (hb.mono hbel.size)
              clear hb hbel
              cases lk with
              | false =>
                go_wp2_with fail
                go_roundw
                case rel => exact ⟨k + 1, by omega, by go_num, by rw [HS.out]; cases ok <;> rfl, hb6⟩
                case measure => simp [intOf]; omega
              | true =>
                go_wp2_with fail
                with_reducible refine (F1k.out _).mono ?_
                rintro e w7 ⟨rfl, hb⟩
                have hb7 := hb6.trans (hb.mono hb6.size)
                clear hb hb6
                cases fk with
                | false =>
                  go_wp2_with fail
                  go_roundw
                  case rel => exact ⟨k + 1, by omega, by go_num, by rw [HS.out]; cases ok <;> rfl, hb7⟩
                  case measure => simp [intOf]; omega
                | true =>
                  have h00 : (ok || inG q v k k) = ok := by rw [inG_self q v k k (Nat.le_refl _), Bool.or_false]
                  have H00 := Lib.hid h00
                  have HW7 := Lib.hid hb7
                  clear h00 hb7
                  go_wp2_with fail
                  go_loopw [11, 15] (fun b i wr => ∃ j : Nat, k ≤ j ∧ j ≤ n + 1 ∧ i = .int .i64 j ∧ b = .bool (ok || inG q v k j) ∧ Below w7.heap.size w7 wr) (fun _ i _ => n + 1 - (intOf i).toNat)
                  case atStart => exact ⟨k, Nat.le_refl _, by omega, rfl, by rw [H00.out], Below.refl _ _⟩
                  case round =>
                    obtain ⟨j, hkj, hj, rfl, rfl, hbel⟩ := hrel
                    by_cases hlj : j ≤ n
                    · obtain ⟨vj, hvj⟩ : ∃ vj, v.extract j n = vj := ⟨_, rfl⟩
                      obtain ⟨cr, hcr⟩ := runes_out vj
                      have R2k := Lib.hid (fun W => R2.out W j)
                      have F2k := Lib.hid (fun W => F2.out W j)
                      obtain ⟨rk, hrk⟩ : ∃ x, (runesL vj.data.toList).isSome = x := ⟨_, rfl⟩
                      obtain ⟨gk, hgk⟩ : ∃ x, fitsB q vj = x := ⟨_, rfl⟩
                      rw [hvj, hcr, hrk] at R2k
                      rw [hvj, hgk] at F2k
                      have hst : inG q v k (j + 1) = (inG q v k j || (rk && gk)) := by
                        show (inG q v k j || (decide (k ≤ j) && rB q v j)) = _
                        unfold rB
                        rw [hvn, hvj, hrk, hgk, decide_eq_true hkj, Bool.true_and]
                      have hst2 : (ok || inG q v k (j + 1)) = ((ok || inG q v k j) || (rk && gk)) := by rw [hst, Bool.or_assoc]
                      obtain ⟨bb, hbb⟩ : ∃ x, (ok || inG q v k j) = x := ⟨_, rfl⟩
                      rw [hbb] at hst2 ⊢
                      have HS2 := Lib.hid hst2
                      clear hst hst2 hbb hcr hrk hgk
                      go_wp2_with fail
                      with_reducible refine (R2k.out _).mono ?_
                      rintro e w8 ⟨rfl, hb⟩
                      have hb8 := hbel.trans (hb.mono hbel.size)
                      clear hb hbel
                      cases bb with
                      | true =>
                        go_wp2_with fail
                        go_roundw
                        case rel => exact ⟨j + 1, by omega, by omega, by go_num, by rw [HS2.out]; rfl, hb8⟩
                        case measure => simp [intOf]; omega
                      | false =>
                        cases rk with
                        | false =>
                          go_wp2_with fail
                          go_roundw
                          case rel => exact ⟨j + 1, by omega, by omega, by go_num, by rw [HS2.out]; rfl, hb8⟩
                          case measure => simp [intOf]; omega
                        | true =>
                          go_wp2_with fail
                          with_reducible refine (F2k.out _).mono ?_
                          rintro e w9 ⟨rfl, hb⟩
                          have hb9 := hb8.trans (hb.mono hb8.size)
                          clear hb hb8
                          go_wp2_with fail
                          go_roundw
                          case rel => exact ⟨j + 1, by omega, by omega, by go_num, by rw [HS2.out]; rfl, hb9⟩
                          case measure => simp [intOf]; omega
                    · obtain rfl : j = n + 1 := by omega
                      have hb10 := HW7.out.trans (hbel.mono HW7.out.size)
                      have hv2 : (ok || inG q v k (n + 1)) = outG p q v (k + 1) := by rw [HS.out]; rfl
                      rw [hv2]
                      clear hv2 hbel
                      go_wp2_with fail
                      go_roundw
                      case rel => exact ⟨k + 1, by omega, by go_num, rfl, hb10⟩
                      case measure => simp [intOf]; omega
            · obtain rfl : k = n + 1 := by omega
              have hb11 := HW5.out.trans (hbel.mono HW5.out.size)
              have F3k := Lib.hid (fun W => F3.out W)
              rw [HK.out] at F3k
              obtain ⟨ok, hok⟩ : ∃ x, outG p q v (n + 1) = x := ⟨_, rfl⟩
              rw [hok] at F3k ⊢
              clear hok hbel
              go_wp2_with fail
              with_reducible refine (F3k.out _).mono ?_
              rintro e w12 ⟨rfl, hb⟩
              have hb12 := hb11.trans (hb.mono hb11.size)
              clear hb hb11
              go_wp2_with fail
              go_ret
              exact ⟨by simp, hb12⟩
end Go.Proofs.Ytekmdgjkadglmaa
