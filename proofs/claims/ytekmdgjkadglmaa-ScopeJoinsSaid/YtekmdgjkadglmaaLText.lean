
/- Plain mathematics: a set's text tells the set; the same labels in the opposite order; which labels stand ahead; names. -/
import Derived.Test.YtekmdgjkadglmaaLRefParse
namespace Go.Proofs.Ytekmdgjkadglmaa
open Go.RowKit

theorem cnt_ascii {c : UInt8} (h : c.toNat < 128) (t : List UInt8) : cntL (c :: t) = (cntL t).map (· + 1) := by
  have hs : sizeL (c :: t) = 1 := by
    unfold sizeL
    rw [if_neg (by simp), if_pos (by simpa using h)]
  rw [cnt_step (by rw [hs]; omega), hs]
  rfl
theorem cnt_asciis : ∀ (l t : List UInt8) (n : Nat), (∀ c ∈ l, c.toNat < 128) → cntL t = some n → ∃ m, cntL (l ++ t) = some m := by
  intro l
  induction l with
  | nil => intro t n _ h; exact ⟨n, h⟩
  | cons c l ih =>
    intro t n hc h
    obtain ⟨m, hm⟩ := ih t n (fun d hd => hc d (List.mem_cons_of_mem _ hd)) h
    exact ⟨m + 1, by rw [List.cons_append, cnt_ascii (hc c (List.mem_cons_self ..)), hm]; rfl⟩
/-- A rune's bytes behind the first go on; and it is read off its own bytes. -/
theorem decodeN_cont (n b0 b1 b2 b3 : Nat) (_h : 128 ≤ b0) :
    (Lib.decodeN n b0 b1 b2 b3).2 ≤ 4 ∧ (1 < (Lib.decodeN n b0 b1 b2 b3).2 → b1 / 64 = 2) ∧ (2 < (Lib.decodeN n b0 b1 b2 b3).2 → b2 / 64 = 2) ∧ (3 < (Lib.decodeN n b0 b1 b2 b3).2 → b3 / 64 = 2) := by
  unfold Lib.decodeN
  repeat' split
  all_goals simp only
  all_goals omega
theorem decodeN_cut (n b0 b1 b2 b3 n' c1 c2 c3 : Nat) (h : 128 ≤ b0) (hw : (Lib.decodeN n b0 b1 b2 b3).2 ≠ 1) (hn : (Lib.decodeN n b0 b1 b2 b3).2 ≤ n')
    (e1 : 1 < (Lib.decodeN n b0 b1 b2 b3).2 → c1 = b1) (e2 : 2 < (Lib.decodeN n b0 b1 b2 b3).2 → c2 = b2) (e3 : 3 < (Lib.decodeN n b0 b1 b2 b3).2 → c3 = b3) :
    (Lib.decodeN n' b0 c1 c2 c3).2 = (Lib.decodeN n b0 b1 b2 b3).2 := by
  by_cases k1 : b0 / 32 = 6 ∧ (1 < n ∧ b1 / 64 = 2)
  · have hd : Lib.decodeN n b0 b1 b2 b3 = if b0 % 32 * 64 + b1 % 64 ≥ 128 then (b0 % 32 * 64 + b1 % 64, 2) else (65533, 1) := by
      unfold Lib.decodeN
      rw [if_neg (by omega), if_pos k1]
    rw [hd] at hw hn e1 ⊢
    split at hw
    · rename_i q
      rw [if_pos q] at hn e1 ⊢
      simp only at hn e1 ⊢
      obtain rfl := e1 (by omega)
      unfold Lib.decodeN
      rw [if_neg (by omega), if_pos ⟨k1.1, by omega, k1.2.2⟩, if_pos q]
    · exact absurd rfl hw
  · by_cases k2 : b0 / 16 = 14 ∧ (1 < n ∧ b1 / 64 = 2) ∧ (2 < n ∧ b2 / 64 = 2)
    · have hd := Eq.refl (Lib.decodeN n b0 b1 b2 b3)
      conv at hd => rhs; unfold Lib.decodeN; rw [if_neg (by omega), if_neg k1, if_pos k2]
      rw [hd] at hw hn e1 e2 ⊢
      split at hw
      · rename_i q
        rw [if_pos q] at hn e1 e2 ⊢
        simp only at hn e1 e2 ⊢
        obtain rfl := e1 (by omega)
        obtain rfl := e2 (by omega)
        unfold Lib.decodeN
        rw [if_neg (by omega), if_neg (fun k => by omega), if_pos ⟨k2.1, ⟨by omega, k2.2.1.2⟩, by omega, k2.2.2.2⟩, if_pos q]
      · exact absurd rfl hw
    · by_cases k3 : b0 / 8 = 30 ∧ (1 < n ∧ b1 / 64 = 2) ∧ (2 < n ∧ b2 / 64 = 2) ∧ (3 < n ∧ b3 / 64 = 2)
      · have hd := Eq.refl (Lib.decodeN n b0 b1 b2 b3)
        conv at hd => rhs; unfold Lib.decodeN; rw [if_neg (by omega), if_neg k1, if_neg k2, if_pos k3]
        rw [hd] at hw hn e1 e2 e3 ⊢
        split at hw
        · rename_i q
          rw [if_pos q] at hn e1 e2 e3 ⊢
          simp only at hn e1 e2 e3 ⊢
          obtain rfl := e1 (by omega)
          obtain rfl := e2 (by omega)
          obtain rfl := e3 (by omega)
          unfold Lib.decodeN
          rw [if_neg (by omega), if_neg (fun k => by omega), if_neg (fun k => by omega), if_pos ⟨k3.1, ⟨by omega, k3.2.1.2⟩, ⟨by omega, k3.2.2.1.2⟩, by omega, k3.2.2.2.2⟩, if_pos q]
        · exact absurd rfl hw
      · have hd : Lib.decodeN n b0 b1 b2 b3 = (65533, 1) := by
          unfold Lib.decodeN
          rw [if_neg (by omega), if_neg k1, if_neg k2, if_neg k3]
        rw [hd] at hw
        exact absurd rfl hw
theorem take_getD (l : List UInt8) (z k : Nat) (h : k < z) : (l.take z).getD k 0 = l.getD k 0 := by
  rw [List.getD_eq_getElem?_getD, List.getD_eq_getElem?_getD, List.getElem?_take, if_pos h]
/-- The rune that bytes begin with, by itself: one rune; if its first byte is no ASCII, none of its bytes is. -/
theorem size_take {l : List UInt8} (h : sizeL l ≠ 0) : sizeL (l.take (sizeL l)) = sizeL l ∧ (128 ≤ (l.getD 0 0).toNat → ∀ c ∈ l.take (sizeL l), 128 ≤ c.toNat) := by
  have hle := sizeL_le l
  have hl : l ≠ [] := fun e => h (by rw [e]; rfl)
  by_cases h8 : (l.getD 0 0).toNat < 128
  · have hs : sizeL l = 1 := by unfold sizeL; rw [if_neg hl, if_pos h8]
    rw [hs]
    refine ⟨?_, fun h => by omega⟩
    unfold sizeL
    rw [if_neg (by cases l with | nil => exact absurd rfl hl | cons c l => simp), take_getD _ _ _ (by omega), if_pos h8]
  · have hs : sizeL l = (decL l).2 ∧ (decL l).2 ≠ 1 := by
      unfold sizeL at h ⊢
      rw [if_neg hl, if_neg h8] at h ⊢
      split at h
      · exact absurd rfl h
      · rename_i q
        rw [if_neg q]
        exact ⟨rfl, q⟩
    obtain ⟨z, hz⟩ : ∃ z, sizeL l = z := ⟨_, rfl⟩
    rw [hz] at hs hle h ⊢
    have hlen : (l.take z).length = z := by rw [List.length_take]; omega
    have h0 : (l.take z).getD 0 0 = l.getD 0 0 := take_getD _ _ _ (by omega)
    have hd : (decL (l.take z)).2 = z := by
      have hc := decodeN_cut l.length (l.getD 0 0).toNat (l.getD 1 0).toNat (l.getD 2 0).toNat (l.getD 3 0).toNat (l.take z).length ((l.take z).getD 1 0).toNat ((l.take z).getD 2 0).toNat ((l.take z).getD 3 0).toNat (by omega) hs.2
        (by rw [hlen]; exact Nat.le_of_eq hs.1.symm) (fun k => by rw [take_getD _ _ _ (by rw [hs.1]; exact k)]) (fun k => by rw [take_getD _ _ _ (by rw [hs.1]; exact k)]) (fun k => by rw [take_getD _ _ _ (by rw [hs.1]; exact k)])
      unfold decL
      rw [h0, hc]
      exact hs.1.symm
    obtain ⟨k4, k1, k2, k3⟩ := decodeN_cont l.length (l.getD 0 0).toNat (l.getD 1 0).toNat (l.getD 2 0).toNat (l.getD 3 0).toNat (by omega)
    constructor
    · unfold sizeL
      rw [if_neg (fun e => by rw [e] at hlen; simp at hlen; omega), h0, if_neg h8, if_neg (by rw [hd, hs.1]; exact hs.2), hd]
    · intro _ c hc
      obtain ⟨j, hj, rfl⟩ := List.mem_iff_getElem.1 hc
      rw [hlen] at hj
      have e : (l.take z)[j] = l.getD j 0 := by rw [← take_getD l z j hj, List.getD_eq_getElem?_getD, List.getElem?_eq_getElem (by omega)]; rfl
      rw [e]
      have hs1 : (Lib.decodeN l.length (l.getD 0 0).toNat (l.getD 1 0).toNat (l.getD 2 0).toNat (l.getD 3 0).toNat).2 = z := hs.1.symm
      rw [hs1] at k4 k1 k2 k3
      match j, hj with
      | 0, _ => omega
      | 1, hj => have := k1 (by omega); omega
      | 2, hj => have := k2 (by omega); omega
      | 3, hj => have := k3 (by omega); omega
      | j + 4, hj => omega
theorem esc_app (a b : List UInt8) : escL (a ++ b) = escL a ++ escL b := by simp [escL]
theorem esc_high : ∀ l : List UInt8, (∀ c ∈ l, 128 ≤ c.toNat) → escL l = l := by
  intro l
  induction l with
  | nil => intro _; rfl
  | cons c l ih =>
    intro h
    have h1 := h c (List.mem_cons_self ..)
    have : escL (c :: l) = escC c ++ escL l := by simp [escL]
    rw [this, ih fun d hd => h d (List.mem_cons_of_mem _ hd)]
    unfold escC
    rw [if_neg (fun e => by rcases e with rfl | rfl <;> simp at h1)]
    rfl
/-- A value's bytes in a text are right where the value's are. -/
theorem cnt_esc : ∀ (v : List UInt8) (n : Nat), cntL v = some n → ∃ m, cntL (escL v) = some m := by
  refine cnt_ind _ ?_ ?_ ?_
  · intro n _
    exact ⟨0, rfl⟩
  · intro l hl hs n h
    rw [cnt_wrong hl hs] at h
    cases h
  · intro l hs ih n h
    rw [cnt_step hs] at h
    cases hc : cntL (l.drop (sizeL l)) with
    | none => rw [hc] at h; cases h
    | some q =>
      obtain ⟨m, hm⟩ := ih q hc
      have hl : l ≠ [] := fun e => hs (by rw [e]; rfl)
      obtain ⟨ht, hh⟩ := size_take hs
      have e : escL l = escL (l.take (sizeL l)) ++ escL (l.drop (sizeL l)) := by rw [← esc_app, List.take_append_drop]
      by_cases h8 : (l.getD 0 0).toNat < 128
      · have h1 : sizeL l = 1 := by unfold sizeL; rw [if_neg hl, if_pos h8]
        rw [e, h1]
        rw [h1] at hm
        cases l with
        | nil => exact absurd rfl hl
        | cons c l =>
          have hc8 : c.toNat < 128 := by simpa using h8
          have e1 : escL ((c :: l).take 1) = escC c := by simp [escL]
          rw [e1]
          refine cnt_asciis _ _ _ ?_ hm
          intro d hd
          unfold escC at hd
          split at hd
          · rcases List.mem_cons.1 hd with rfl | hd
            · decide
            · obtain rfl : d = c := by simpa using hd
              exact hc8
          · obtain rfl : d = c := by simpa using hd
            exact hc8
      · rw [e, esc_high _ (hh (by omega))]
        have hz : sizeL (l.take (sizeL l) ++ escL (l.drop (sizeL l))) = sizeL l := by rw [sizeL_app _ _ (by rw [ht]; exact hs), ht]
        refine ⟨m + 1, ?_⟩
        rw [cnt_step (by rw [hz]; exact hs), hz, List.drop_left' (by rw [List.length_take]; have := sizeL_le l; omega), hm]
        rfl
end Go.Proofs.Ytekmdgjkadglmaa
