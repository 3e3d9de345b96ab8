
/- The statements' walks: LabelBack. -/
import Derived.Test.YtbcgjgefkkibbaaLLaws
namespace Go.Proofs.Ytbcgjgefkkibbaa
open Go.RowKit

theorem join_tiny : ∀ M : List Lab, M ≠ [] → (∀ x ∈ M, x.1.size ≤ 20 ∧ x.2.size ≤ 120) → (joinL M).length + 1 ≤ 262 * M.length := by
  intro M
  induction M with
  | nil => intro h; exact absurd rfl h
  | cons x M ih =>
    intro _ h
    obtain ⟨h1, h2⟩ := h x (List.mem_cons_self ..)
    have h4 := esc_len x.2.data.toList
    have h5 : (labL x).length ≤ 261 := by
      unfold labL
      rw [List.length_append, List.length_cons, lenL]
      rw [lenL] at h4
      omega
    by_cases hM : M = []
    · subst hM
      show (labL x).length + 1 ≤ _
      simp
      omega
    · have h3 := ih hM fun z hz => h z (List.mem_cons_of_mem _ hz)
      rw [join_cons x M hM, List.length_append, List.length_cons, List.length_cons]
      omega
theorem textB_list (L : List Lab) : (textB L).data.toList = joinL L := by unfold textB; simp
theorem textB_len {L : List Lab} (h : L.length ≤ 6) (hs : ∀ x ∈ L, x.1.size ≤ 20 ∧ x.2.size ≤ 120) : (textB L).size ≤ 1571 := by
  rw [← lenL, textB_list]
  by_cases hL : L = []
  · subst hL
    simp [joinL]
  · have := join_tiny L hL hs
    omega
theorem fewLb_tiny (K : List Lab) : ∀ x ∈ fewLb K, x.1.size ≤ 20 ∧ x.2.size ≤ 120 := fun x hx => by
  unfold fewLb at hx
  obtain ⟨y, _, rfl⟩ := List.mem_map.1 hx
  unfold cutLb
  simp
  omega
/-- A value of a set has at most ninety-six bytes. -/
theorem cnt_bytes : ∀ (l : List UInt8) (n : Nat), cntL l = some n → l.length ≤ 4 * n := by
  refine cnt_ind _ ?_ ?_ ?_
  · intro n _; simp
  · intro l hl hs n h; rw [cnt_wrong hl hs] at h; cases h
  · intro l hs ih n h
    rw [cnt_step hs] at h
    cases hc : cntL (l.drop (sizeL l)) with
    | none => rw [hc] at h; cases h
    | some m =>
      rw [hc] at h
      have h1 := ih m hc
      have h2 : m + 1 = n := by simpa using h
      have h3 : sizeL l ≤ 4 := by
        unfold sizeL
        split
        · omega
        · split
          · omega
          · split
            · omega
            · rename_i h8 _
              exact (decodeN_cont l.length (l.getD 0 0).toNat (l.getD 1 0).toNat (l.getD 2 0).toNat (l.getD 3 0).toNat (by omega)).1
      rw [List.length_drop] at h1
      omega
theorem right_tiny {L : List Lab} (h : rightB L = true) : ∀ x ∈ L, x.1.size ≤ 20 ∧ x.2.size ≤ 120 := fun x hx => by
  have h1 := (right_good h).1 x hx
  unfold goodB nameB valueB fewB at h1
  simp only [Bool.and_eq_true, decide_eq_true_eq] at h1
  obtain ⟨⟨_, _, h2⟩, _, h3⟩ := h1
  rw [lenL] at h2
  refine ⟨by omega, ?_⟩
  cases hc : cntL x.2.data.toList with
  | none => rw [hc] at h3; simp at h3
  | some n =>
    rw [hc] at h3
    have := cnt_bytes _ _ hc
    rw [lenL] at this
    have h4 : n ≤ 24 := by simpa using h3
    omega
theorem small_of_tiny {L : List Lab} (h : ∀ x ∈ L, x.1.size ≤ 20 ∧ x.2.size ≤ 120) : smallLb L := fun x hx => by
  have := h x hx
  omega
/-- What Parse answers of a set's text. -/
theorem parse_textB {L : List Lab} (h : rightB L = true) {w' : World} {e : Ending} (hp : ParseP (textB L) w' e) : ∃ v, e = .returned (.tuple #[v, .int .i64 0]) ∧ LblSl w' v L :=
  parseP_get hp (by rw [textB_list]; exact parse_text h)
theorem text_right {L : List Lab} (h : rightB L = true) : TextV L = .tuple #[.string (textB L), .int .i64 0] := by unfold TextV; rw [if_pos h]
theorem text_wrong {L : List Lab} (h : rightB L = false) : TextV L = .tuple #[.string { data := #[] }, .int .i64 40] := by unfold TextV; rw [if_neg (by rw [h]; decide)]
theorem parseP_any (s : ByteArray) : ∃ n : Nat, ∀ (w' : World) (e : Ending), ParseP s w' e → ∃ v L, e = .returned (.tuple #[v, .int .i64 (n : Int)]) ∧ LblSl w' v L := by
  cases h : parseL s.data.toList with
  | some L => exact ⟨0, fun w' e hp => by obtain ⟨v, h1, h2⟩ := parseP_get hp h; exact ⟨v, L, h1, h2⟩⟩
  | none => exact ⟨40, fun w' e hp => ⟨_, [], parseP_no hp h, .inl ⟨_, _, rfl, rfl⟩⟩⟩

set_option maxHeartbeats 8000000 in
set_option maxRecDepth 100000 in
theorem lawBack_any (K : List Lab) (va : Value) (s : ByteArray) (w : World) (hA : LblSl w va K) (hna : K.length ≤ maxLen)
    (za : ∀ x ∈ K, x.1.size ≤ maxLen ∧ x.2.size ≤ maxLen) (hs : s.size ≤ maxLen) :
    Calls Try.prog 5 #[va, .string s] w fun e w' => e = .returned (.bool true) ∧ Below w.heap.size w w' := by
  have F1 := Lib.hid (fun W h => few4_any K va W h hna za)
  have sa := fewLb_small K
  have ta := fewLb_tiny K
  have la := fewLb_len K
  obtain ⟨A, hAe⟩ : ∃ A, fewLb K = A := ⟨_, rfl⟩
  rw [hAe] at F1 sa la ta
  have T1 := Lib.hid (fun W a h => lText_any A a W h (by omega) sa)
  have z1 := cut600_size s
  have C1 := Lib.hid (fun W => cut4_any s hs W)
  obtain ⟨B, hB⟩ : ∃ B, cut600 s = B := ⟨_, rfl⟩
  rw [hB] at C1 z1
  have P1 := Lib.hid (fun W => lParse_any B (by omega) W)
  obtain ⟨n0, hE0⟩ := parseP_any { data := #[] }
  have HE := Lib.hid hE0
  have P0 := Lib.hid (fun W => lParse_any { data := #[] } (by decide) W)
  unfold maxLen at hs
  clear hAe hna za hB hE0
  go_enter Try.func5, Try.ntmps5
  go_wp2_with fail
  with_reducible refine (shown4_any _).mono ?_
  rintro e w1 ⟨rfl, hb1⟩
  go_wp2_with fail
  with_reducible refine (F1.out _ (hA.below hb1)).mono ?_
  rintro e w2 ⟨⟨v1, rfl, ho⟩, hb⟩
  have hv1 := lblSl_of_owns ho
  have hb2 := hb1.trans (hb.mono hb1.size)
  clear hb1 hb ho
  cases hr : rightB A with
  | true =>
    have h6 := (right_len hr).2
    have PT := Lib.hid (fun W => lParse_any (textB A) (by have := textB_len h6 ta; omega) W)
    have HT := Lib.hid (fun w' e (hp : ParseP (textB A) w' e) => parse_textB hr hp)
    rw [text_right hr] at T1
    obtain ⟨X, hX⟩ : ∃ X, textB A = X := ⟨_, rfl⟩
    rw [hX] at T1 PT HT
    have S1 := Lib.hid (fun W a c h1 h2 => refSame_any4 A A a c W h1 h2 (by omega) (by omega))
    rw [show decide (A = A) = true by simp] at S1
    clear hX hr ta sa
    go_wp2_with fail
    with_reducible refine (T1.out _ _ hv1).mono ?_
    rintro e w3 ⟨rfl, hb⟩
    have hv1 := hv1.below hb
    have hb3 := hb2.trans (hb.mono hb2.size)
    clear hb2 hb
    go_wp2_with fail
    with_reducible refine (PT.out _).mono ?_
    rintro e w4 ⟨hp, hb⟩
    obtain ⟨v4, rfl, hv4⟩ := HT.out _ _ hp
    have hv1 := hv1.below hb
    have hb4 := hb3.trans (hb.mono hb3.size)
    clear hb3 hb hp
    go_wp2_with fail
    with_reducible refine (S1.out _ _ _ hv4 hv1).mono ?_
    rintro e w5 ⟨rfl, hb⟩
    have hb5 := hb4.trans (hb.mono hb4.size)
    clear hb4 hb hv1 hv4 PT HT S1
    cases hq : parseL B.data.toList with
    | some M =>
      have hR := parse_right hq
      have h7 := (right_len hR).2
      have HQ := Lib.hid (fun w' e (hp : ParseP B w' e) => parseP_get hp hq)
      have tm := right_tiny hR
      have sm := small_of_tiny tm
      have T2 := Lib.hid (fun W a h => lText_any M a W h (by omega) sm)
      rw [text_right hR] at T2
      have PT2 := Lib.hid (fun W => lParse_any (textB M) (by have := textB_len h7 tm; omega) W)
      have HT2 := Lib.hid (fun w' e (hp : ParseP (textB M) w' e) => parse_textB hR hp)
      have RR := Lib.hid (fun W a h => lRight_any M a W h (by omega) sm)
      rw [hR] at RR
      have S2 := Lib.hid (fun W a c h1 h2 => refSame_any4 M M a c W h1 h2 (by omega) (by omega))
      rw [show decide (M = M) = true by simp] at S2
      obtain ⟨Y, hY⟩ : ∃ Y, textB M = Y := ⟨_, rfl⟩
      rw [hY] at T2 PT2 HT2
      clear hY hR hq tm sm
      go_wp2_with fail
      with_reducible refine (C1.out _).mono ?_
      rintro e w6 ⟨rfl, hb⟩
      have hb6 := hb5.trans (hb.mono hb5.size)
      clear hb5 hb
      go_wp2_with fail
      with_reducible refine (P1.out _).mono ?_
      rintro e w7 ⟨hp, hb⟩
      obtain ⟨v7, rfl, hv7⟩ := HQ.out _ _ hp
      have hb7 := hb6.trans (hb.mono hb6.size)
      clear hb6 hb hp
      go_wp2_with fail
      with_reducible refine (T2.out _ _ hv7).mono ?_
      rintro e w8 ⟨rfl, hb⟩
      have hv7 := hv7.below hb
      have hb8 := hb7.trans (hb.mono hb7.size)
      clear hb7 hb
      go_wp2_with fail
      with_reducible refine (PT2.out _).mono ?_
      rintro e w9 ⟨hp, hb⟩
      obtain ⟨v9, rfl, hv9⟩ := HT2.out _ _ hp
      have hv7 := hv7.below hb
      have hb9 := hb8.trans (hb.mono hb8.size)
      clear hb8 hb hp
      go_wp2_with fail
      with_reducible refine (RR.out _ _ hv7).mono ?_
      rintro e w10 ⟨rfl, hb⟩
      have hv7 := hv7.below hb
      have hv9 := hv9.below hb
      have hb10 := hb9.trans (hb.mono hb9.size)
      clear hb9 hb
      go_wp2_with fail
      with_reducible refine (S2.out _ _ _ hv9 hv7).mono ?_
      rintro e w11 ⟨rfl, hb⟩
      have hb11 := hb10.trans (hb.mono hb10.size)
      clear hb10 hb
      go_wp2_with fail
      go_ret
      exact ⟨rfl, hb11⟩
    | none =>
      have HQ := Lib.hid (fun w' e (hp : ParseP B w' e) => parseP_no hp hq)
      have T2 := Lib.hid (fun W => lText_any [] (.slice none 0 0) W (.inl ⟨_, _, rfl, rfl⟩) (by simp) (fun x hx => by simp at hx))
      rw [text_wrong (L := []) rfl] at T2
      clear hq
      go_wp2_with fail
      with_reducible refine (C1.out _).mono ?_
      rintro e w6 ⟨rfl, hb⟩
      have hb6 := hb5.trans (hb.mono hb5.size)
      clear hb5 hb
      go_wp2_with fail
      with_reducible refine (P1.out _).mono ?_
      rintro e w7 ⟨hp, hb⟩
      obtain rfl := HQ.out _ _ hp
      have hb7 := hb6.trans (hb.mono hb6.size)
      clear hb6 hb hp
      go_wp2_with fail
      with_reducible refine (T2.out _).mono ?_
      rintro e w8 ⟨rfl, hb⟩
      have hb8 := hb7.trans (hb.mono hb7.size)
      clear hb7 hb
      go_wp2_with fail
      with_reducible refine (P0.out _).mono ?_
      rintro e w9 ⟨hp, hb⟩
      obtain ⟨v9, L9, rfl, _⟩ := HE.out _ _ hp
      have hb9 := hb8.trans (hb.mono hb8.size)
      clear hb8 hb hp
      go_wp2_with fail
      go_ret
      exact ⟨rfl, hb9⟩
  | false =>
    rw [text_wrong hr] at T1
    clear hr ta sa
    go_wp2_with fail
    with_reducible refine (T1.out _ _ hv1).mono ?_
    rintro e w3 ⟨rfl, hb⟩
    have hb3 := hb2.trans (hb.mono hb2.size)
    clear hb2 hb
    go_wp2_with fail
    with_reducible refine (P0.out _).mono ?_
    rintro e w5 ⟨hp, hb⟩
    obtain ⟨v4, L4, rfl, _⟩ := HE.out _ _ hp
    have hb5 := hb3.trans (hb.mono hb3.size)
    clear hb3 hb hp hv1
    cases hq : parseL B.data.toList with
    | some M =>
      have hR := parse_right hq
      have h7 := (right_len hR).2
      have HQ := Lib.hid (fun w' e (hp : ParseP B w' e) => parseP_get hp hq)
      have tm := right_tiny hR
      have sm := small_of_tiny tm
      have T2 := Lib.hid (fun W a h => lText_any M a W h (by omega) sm)
      rw [text_right hR] at T2
      have PT2 := Lib.hid (fun W => lParse_any (textB M) (by have := textB_len h7 tm; omega) W)
      have HT2 := Lib.hid (fun w' e (hp : ParseP (textB M) w' e) => parse_textB hR hp)
      have RR := Lib.hid (fun W a h => lRight_any M a W h (by omega) sm)
      rw [hR] at RR
      have S2 := Lib.hid (fun W a c h1 h2 => refSame_any4 M M a c W h1 h2 (by omega) (by omega))
      rw [show decide (M = M) = true by simp] at S2
      obtain ⟨Y, hY⟩ : ∃ Y, textB M = Y := ⟨_, rfl⟩
      rw [hY] at T2 PT2 HT2
      clear hY hR hq tm sm
      go_wp2_with fail
      with_reducible refine (C1.out _).mono ?_
      rintro e w6 ⟨rfl, hb⟩
      have hb6 := hb5.trans (hb.mono hb5.size)
      clear hb5 hb
      go_wp2_with fail
      with_reducible refine (P1.out _).mono ?_
      rintro e w7 ⟨hp, hb⟩
      obtain ⟨v7, rfl, hv7⟩ := HQ.out _ _ hp
      have hb7 := hb6.trans (hb.mono hb6.size)
      clear hb6 hb hp
      go_wp2_with fail
      with_reducible refine (T2.out _ _ hv7).mono ?_
      rintro e w8 ⟨rfl, hb⟩
      have hv7 := hv7.below hb
      have hb8 := hb7.trans (hb.mono hb7.size)
      clear hb7 hb
      go_wp2_with fail
      with_reducible refine (PT2.out _).mono ?_
      rintro e w9 ⟨hp, hb⟩
      obtain ⟨v9, rfl, hv9⟩ := HT2.out _ _ hp
      have hv7 := hv7.below hb
      have hb9 := hb8.trans (hb.mono hb8.size)
      clear hb8 hb hp
      go_wp2_with fail
      with_reducible refine (RR.out _ _ hv7).mono ?_
      rintro e w10 ⟨rfl, hb⟩
      have hv7 := hv7.below hb
      have hv9 := hv9.below hb
      have hb10 := hb9.trans (hb.mono hb9.size)
      clear hb9 hb
      go_wp2_with fail
      with_reducible refine (S2.out _ _ _ hv9 hv7).mono ?_
      rintro e w11 ⟨rfl, hb⟩
      have hb11 := hb10.trans (hb.mono hb10.size)
      clear hb10 hb
      go_wp2_with fail
      go_ret
      exact ⟨rfl, hb11⟩
    | none =>
      have HQ := Lib.hid (fun w' e (hp : ParseP B w' e) => parseP_no hp hq)
      have T2 := Lib.hid (fun W => lText_any [] (.slice none 0 0) W (.inl ⟨_, _, rfl, rfl⟩) (by simp) (fun x hx => by simp at hx))
      rw [text_wrong (L := []) rfl] at T2
      clear hq
      go_wp2_with fail
      with_reducible refine (C1.out _).mono ?_
      rintro e w6 ⟨rfl, hb⟩
      have hb6 := hb5.trans (hb.mono hb5.size)
      clear hb5 hb
      go_wp2_with fail
      with_reducible refine (P1.out _).mono ?_
      rintro e w7 ⟨hp, hb⟩
      obtain rfl := HQ.out _ _ hp
      have hb7 := hb6.trans (hb.mono hb6.size)
      clear hb6 hb hp
      go_wp2_with fail
      with_reducible refine (T2.out _).mono ?_
      rintro e w8 ⟨rfl, hb⟩
      have hb8 := hb7.trans (hb.mono hb7.size)
      clear hb7 hb
      go_wp2_with fail
      with_reducible refine (P0.out _).mono ?_
      rintro e w9 ⟨hp, hb⟩
      obtain ⟨v9, L9, rfl, _⟩ := HE.out _ _ hp
      have hb9 := hb8.trans (hb.mono hb8.size)
      clear hb8 hb hp
      go_wp2_with fail
      go_ret
      exact ⟨rfl, hb9⟩
end Go.Proofs.Ytbcgjgefkkibbaa
