
/- The page's own answers for layer 4: Parse. -/
import Derived.Test.YtekmdgjkadglmaaLRefPut
namespace Go.Proofs.Ytekmdgjkadglmaa
open Go.RowKit

theorem cut_len : ∀ (l a b : List UInt8), cutEq l = some (a, b) → a.length + b.length + 1 = l.length := by
  intro l
  induction l with
  | nil => intro a b h; simp [cutEq] at h
  | cons c t ih =>
    intro a b h
    unfold cutEq at h
    split at h
    · simp at h
      obtain ⟨rfl, rfl⟩ := h
      simp
    · cases hc : cutEq t with
      | none => rw [hc] at h; simp at h
      | some r =>
        rw [hc] at h
        simp at h
        obtain ⟨rfl, rfl⟩ := h
        have := ih r.1 r.2 hc
        simp
        omega
theorem valL_cons2 (c d : UInt8) (t : List UInt8) : valL (c :: d :: t) = if c = 44 then some ([], c :: d :: t) else if c = 92 then (valL t).map fun r => (d :: r.1, r.2) else (valL (d :: t)).map fun r => (c :: r.1, r.2) := by rw [valL]
theorem valL_one (c : UInt8) : valL [c] = if c = 44 then some ([], [c]) else if c = 92 then none else some ([c], []) := by rw [valL]
theorem val_lenN : ∀ (n : Nat) (l y r : List UInt8), l.length ≤ n → valL l = some (y, r) → y.length + r.length ≤ l.length := by
  intro n
  induction n with
  | zero =>
    intro l y r hl h
    obtain rfl : l = [] := List.length_eq_zero_iff.1 (by omega)
    simp [valL] at h
    obtain ⟨rfl, rfl⟩ := h
    simp
  | succ n ih =>
    intro l y r hl h
    match l, hl, h with
    | [], _, h =>
      simp [valL] at h
      obtain ⟨rfl, rfl⟩ := h
      simp
    | [c], _, h =>
      rw [valL_one] at h
      split at h
      · simp at h; obtain ⟨rfl, rfl⟩ := h; simp
      · split at h
        · simp at h
        · simp at h; obtain ⟨rfl, rfl⟩ := h; simp
    | c :: d :: t, hl, h =>
      simp only [List.length_cons] at hl
      rw [valL_cons2] at h
      split at h
      · simp at h
        obtain ⟨rfl, rfl⟩ := h
        simp
      · split at h
        · cases hc : valL t with
          | none => rw [hc] at h; simp at h
          | some q =>
            rw [hc] at h
            simp at h
            obtain ⟨rfl, rfl⟩ := h
            have := ih t q.1 q.2 (by omega) hc
            simp
            omega
        · cases hc : valL (d :: t) with
          | none => rw [hc] at h; simp at h
          | some q =>
            rw [hc] at h
            simp at h
            obtain ⟨rfl, rfl⟩ := h
            have := ih (d :: t) q.1 q.2 (by simp; omega) hc
            simp at this ⊢
            omega
theorem val_len (l y r : List UInt8) (h : valL l = some (y, r)) : y.length + r.length ≤ l.length := val_lenN _ l y r (Nat.le_refl _) h
theorem one_len {l x y r : List UInt8} (h : oneL l = some (x, y, r)) : x.length + y.length + r.length + 1 ≤ l.length := by
  unfold oneL at h
  cases hc : cutEq l with
  | none => rw [hc] at h; simp at h
  | some p =>
    rw [hc] at h
    simp only [Option.bind_some] at h
    cases hv : valL p.2 with
    | none => rw [hv] at h; simp at h
    | some q =>
      rw [hv] at h
      simp at h
      obtain ⟨rfl, rfl, rfl⟩ := h
      have h1 := cut_len l p.1 p.2 hc
      have h2 := val_len p.2 q.1 q.2 hv
      omega
theorem insL_mem {L : List Lab} {x z : Lab} (h : z ∈ insL L x) : z = x ∨ z ∈ L := by
  induction L with
  | nil => exact .inl (by simpa [insL] using h)
  | cons a L ih =>
    unfold insL at h
    split at h
    · rcases List.mem_cons.1 h with h | h
      · exact .inr (h ▸ List.mem_cons_self ..)
      · exact (ih h).imp id (List.mem_cons_of_mem _)
    · exact List.mem_cons.1 h
theorem insL_small {L : List Lab} {x : Lab} (h : smallLb L) (hx : x.1.size ≤ 3000 ∧ x.2.size ≤ 3000) : smallLb (insL L x) := fun z hz => by
  rcases insL_mem hz with rfl | hz
  · exact hx
  · exact h z hz

/-- Label for label: what stands ahead of each is one byte. -/
def labsL : Nat → List UInt8 → List Lab → Option (List Lab)
  | 0, _, _ => none
  | _ + 1, [], A => some A
  | n + 1, _ :: t, A => match oneL t with
    | none => none
    | some (x, y, r) => labsL n r (insL A (⟨x.toArray⟩, ⟨y.toArray⟩))
def doneL : Option (List Lab) → Option (List Lab)
  | none => none
  | some L => if rightB L = true then some L else none
/-- What a text tells. -/
def parseL (l : List UInt8) : Option (List Lab) := match cntL l with
  | none => none
  | some _ => doneL (labsL (l.length + 2) (44 :: l) [])
def ParseP (s : ByteArray) (w' : World) (e : Ending) : Prop := match parseL s.data.toList with
  | some L => ∃ v, e = .returned (.tuple #[v, .int .i64 0]) ∧ LblSl w' v L
  | none => e = .returned (.tuple #[.slice none 0 0, .int .i64 40])
theorem ba_mk (x : ByteArray) : (⟨x.data.toList.toArray⟩ : ByteArray) = x := rfl
theorem ba_nil {x : ByteArray} (h : x.data.toList = []) : x = { data := #[] } := baL (by rw [h])

theorem parseP_none {s : ByteArray} {w' : World} (h : parseL s.data.toList = none) : ParseP s w' (.returned (.tuple #[.slice none 0 0, .int .i64 40])) := by unfold ParseP; rw [h]
theorem parseP_some {s : ByteArray} {w' : World} {v : Value} {L : List Lab} (h : parseL s.data.toList = some L) (hv : LblSl w' v L) : ParseP s w' (.returned (.tuple #[v, .int .i64 0])) := by unfold ParseP; rw [h]; exact ⟨v, rfl, hv⟩
theorem labs_end {f : Nat} (A : List Lab) (hf : 0 < f) : labsL f [] A = some A := by
  cases f with
  | zero => omega
  | succ f => rfl
theorem labs_none {f : Nat} {c : UInt8} {t : List UInt8} {A : List Lab} (h : oneL t = none) : labsL f (c :: t) A = none := by
  cases f with
  | zero => rfl
  | succ f => unfold labsL; rw [h]
theorem labs_some {f : Nat} {c : UInt8} {t : List UInt8} {A : List Lab} {x y r : ByteArray} (h : oneL t = some (x.data.toList, y.data.toList, r.data.toList)) : labsL (f + 1) (c :: t) A = labsL f r.data.toList (insL A (x, y)) := by
  conv => lhs; unfold labsL
  rw [h]
def strSz : Value → Nat
  | .string x => x.size
  | _ => 0
end Go.Proofs.Ytekmdgjkadglmaa
