
/- The page's own answers for layer 4: Parse. -/
import Derived.Test.YtbcgjgefkkibbaaLRefPut
namespace Go.Proofs.Ytbcgjgefkkibbaa
open Go.RowKit

theorem cut_len : ∀ (l a b : List UInt8), cutEq l = some (a, b) → a.length + b.length + 1 = l.length := by
  intro l
  induction l with
  | nil => intro a b h; simp [cutEq] at h
  | cons c t ih =>
    intro a b h
    unfold cutEq at h
    split at h
    · simp at h
      obtain ⟨rfl, rfl⟩ := h
      simp
    · cases hc : cutEq t with
      | none => rw [hc] at h; simp at h
      | some r =>
        rw [hc] at h
        simp at h
        obtain ⟨rfl, rfl⟩ := h
        have := ih r.1 r.2 hc
        simp
        omega
theorem valL_cons2 (c d : UInt8) (t : List UInt8) : valL (c :: d :: t) = if c = 44 then some ([], c :: d :: t) else if c = 92 then (valL t).map fun r => (d :: r.1, r.2) else (valL (d :: t)).map fun r => (c :: r.1, r.2) := by rw [valL]
theorem valL_one (c : UInt8) : valL [c] = if c = 44 then some ([], [c]) else if c = 92 then none else some ([c], []) := by rw [valL]
theorem val_lenN : ∀ (n : Nat) (l y r : List UInt8), l.length ≤ n → valL l = some (y, r) → y.length + r.length ≤ l.length := by
  intro n
  induction n with
  | zero =>
    intro l y r hl h
    obtain rfl : l = [] := List.length_eq_zero_iff.1 (by omega)
    simp [valL] at h
    obtain ⟨rfl, rfl⟩ := h
    simp
  | succ n ih =>
    intro l y r hl h
    match l, hl, h with
    | [], _, h =>
      simp [valL] at h
      obtain ⟨rfl, rfl⟩ := h
      simp
    | [c], _, h =>
      rw [valL_one] at h
      split at h
      · simp at h; obtain ⟨rfl, rfl⟩ := h; simp
      · split at h
        · simp at h
        · simp at h; obtain ⟨rfl, rfl⟩ := h; simp
    | c :: d :: t, hl, h =>
      simp only [List.length_cons] at hl
      rw [valL_cons2] at h
      split at h
      · simp at h
        obtain ⟨rfl, rfl⟩ := h
        simp
      · split at h
        · cases hc : valL t with
          | none => rw [hc] at h; simp at h
          | some q =>
            rw [hc] at h
            simp at h
            obtain ⟨rfl, rfl⟩ := h
            have := ih t q.1 q.2 (by omega) hc
            simp
            omega
        · cases hc : valL (d :: t) with
          | none => rw [hc] at h; simp at h
          | some q =>
            rw [hc] at h
            simp at h
            obtain ⟨rfl, rfl⟩ := h
            have := ih (d :: t) q.1 q.2 (by simp; omega) hc
            simp at this ⊢
            omega
theorem val_len (l y r : List UInt8) (h : valL l = some (y, r)) : y.length + r.length ≤ l.length := val_lenN _ l y r (Nat.le_refl _) h
theorem one_len {l x y r : List UInt8} (h : oneL l = some (x, y, r)) : x.length + y.length + r.length + 1 ≤ l.length := by
  unfold oneL at h
  cases hc : cutEq l with
  | none => rw [hc] at h; simp at h
  | some p =>
    rw [hc] at h
    simp only [Option.bind_some] at h
    cases hv : valL p.2 with
    | none => rw [hv] at h; simp at h
    | some q =>
      rw [hv] at h
      simp at h
      obtain ⟨rfl, rfl, rfl⟩ := h
      have h1 := cut_len l p.1 p.2 hc
      have h2 := val_len p.2 q.1 q.2 hv
      omega
theorem insL_mem {L : List Lab} {x z : Lab} (h : z ∈ insL L x) : z = x ∨ z ∈ L := by
  induction L with
  | nil => exact .inl (by simpa [insL] using h)
  | cons a L ih =>
    unfold insL at h
    split at h
    · rcases List.mem_cons.1 h with h | h
      · exact .inr (h ▸ List.mem_cons_self ..)
      · exact (ih h).imp id (List.mem_cons_of_mem _)
    · exact List.mem_cons.1 h
theorem insL_small {L : List Lab} {x : Lab} (h : smallLb L) (hx : x.1.size ≤ 3000 ∧ x.2.size ≤ 3000) : smallLb (insL L x) := fun z hz => by
  rcases insL_mem hz with rfl | hz
  · exact hx
  · exact h z hz

/-- Label for label: what stands ahead of each is one byte. -/
def labsL : Nat → List UInt8 → List Lab → Option (List Lab)
  | 0, _, _ => none
  | _ + 1, [], A => some A
  | n + 1, _ :: t, A => match oneL t with
    | none => none
    | some (x, y, r) => labsL n r (insL A (⟨x.toArray⟩, ⟨y.toArray⟩))
def doneL : Option (List Lab) → Option (List Lab)
  | none => none
  | some L => if rightB L = true then some L else none
/-- What a text tells. -/
def parseL (l : List UInt8) : Option (List Lab) := match cntL l with
  | none => none
  | some _ => doneL (labsL (l.length + 2) (44 :: l) [])
def ParseP (s : ByteArray) (w' : World) (e : Ending) : Prop := match parseL s.data.toList with
  | some L => ∃ v, e = .returned (.tuple #[v, .int .i64 0]) ∧ LblSl w' v L
  | none => e = .returned (.tuple #[.slice none 0 0, .int .i64 40])
theorem ba_mk (x : ByteArray) : (⟨x.data.toList.toArray⟩ : ByteArray) = x := rfl
theorem ba_nil {x : ByteArray} (h : x.data.toList = []) : x = { data := #[] } := baL (by rw [h])

theorem parseP_none {s : ByteArray} {w' : World} (h : parseL s.data.toList = none) : ParseP s w' (.returned (.tuple #[.slice none 0 0, .int .i64 40])) := by unfold ParseP; rw [h]
theorem parseP_some {s : ByteArray} {w' : World} {v : Value} {L : List Lab} (h : parseL s.data.toList = some L) (hv : LblSl w' v L) : ParseP s w' (.returned (.tuple #[v, .int .i64 0])) := by unfold ParseP; rw [h]; exact ⟨v, rfl, hv⟩
theorem labs_end {f : Nat} (A : List Lab) (hf : 0 < f) : labsL f [] A = some A := by
  cases f with
  | zero => omega
  | succ f => rfl
theorem labs_none {f : Nat} {c : UInt8} {t : List UInt8} {A : List Lab} (h : oneL t = none) : labsL f (c :: t) A = none := by
  cases f with
  | zero => rfl
  | succ f => unfold labsL; rw [h]
theorem labs_some {f : Nat} {c : UInt8} {t : List UInt8} {A : List Lab} {x y r : ByteArray} (h : oneL t = some (x.data.toList, y.data.toList, r.data.toList)) : labsL (f + 1) (c :: t) A = labsL f r.data.toList (insL A (x, y)) := by
  conv => lhs; unfold labsL
  rw [h]
def strSz : Value → Nat
  | .string x => x.size
  | _ => 0
set_option maxHeartbeats 2000000 in
set_option maxRecDepth 100000 in
theorem refParse_any (s : ByteArray) (hs : s.size ≤ 900) (w : World) :
    Calls Try.prog 13 #[.string s] w fun e w' => ParseP s w' e ∧ Below w.heap.size w w' := by
  have HRN := refRunes_any s (by omega)
  cases hc : cntL s.data.toList with
  | none =>
    have ho : RunesOut s = .tuple #[.int .i64 0, .bool false] := by unfold RunesOut; rw [hc]
    rw [ho] at HRN
    have hp : parseL s.data.toList = none := by unfold parseL; rw [hc]
    have HR2 := Lib.hid HRN
    have HP := Lib.hid hp
    clear HRN ho hc hp
    go_enter Try.func13, Try.ntmps13
    go_wp2_with fail
    with_reducible refine (HR2.out _).mono ?_
    rintro e w2 ⟨rfl, hb⟩
    go_wp2_with fail
    go_ret2
    exact ⟨parseP_none HP.out, hb⟩
  | some nr =>
    have ho : RunesOut s = .tuple #[.int .i64 (nr : Int), .bool true] := by unfold RunesOut; rw [hc]
    rw [ho] at HRN
    obtain ⟨res, hres⟩ : ∃ r, labsL (s.data.toList.length + 2) (44 :: s.data.toList) [] = r := ⟨_, rfl⟩
    have hp : parseL s.data.toList = doneL res := by unfold parseL; rw [hc, ← hres]
    have HR2 := Lib.hid HRN
    have HP := Lib.hid hp
    have HRES := Lib.hid hres
    clear HRN ho hc hp hres
    have hcs : (⟨#[44]⟩ ++ s : ByteArray).data.toList = 44 :: s.data.toList := by rw [appL]; rfl
    have hcz : (⟨#[44]⟩ ++ s : ByteArray).size = s.size + 1 := by rw [ByteArray.size_append, Nat.add_comm]; rfl
    obtain ⟨S0, hS0⟩ : ∃ S0, (⟨#[44]⟩ ++ s : ByteArray) = S0 := ⟨_, rfl⟩
    rw [hS0] at hcs hcz
    have HCS := Lib.hid hcs
    have HCZ := Lib.hid hcz
    clear hcs hcz
    go_enter Try.func13, Try.ntmps13
    go_wp2_with fail
    with_reducible refine (HR2.out _).mono ?_
    rintro e w2 ⟨rfl, hb⟩
    go_wp2_with fail
    clear hS0
    go_loopw [6, 7] (fun ov rv wr => ∃ (f : Nat) (ri : ByteArray) (A : List Lab), rv = .string ri ∧ ri.size < f ∧ A.length + ri.size ≤ s.size + 1 ∧ smallLb A ∧ Hid (labsL f ri.data.toList A = res) ∧ wr.ownsRow w.heap.size 41 2 ov A.length (cellsL A) ∧ Below w.heap.size w wr)
      (fun _ rv _ => strSz rv)
    case atStart => exact ⟨s.data.toList.length + 2, S0, [], rfl, by rw [HCZ.out, lenL]; omega, by rw [HCZ.out]; simp, fun x hx => by simp at hx, by rw [HCS.out]; exact HRES.out, World.ownsRow_nil _ _ _ _, hb⟩
    case round =>
      obtain ⟨f, ri, A, rfl, hf, hA, hsm, HL, hown, hbel⟩ := hrel
      by_cases h0 : ri.data.toList = []
      · obtain rfl := ba_nil h0
        have hL := HL.out
        rw [h0, labs_end A (by omega)] at hL
        have hsl := lblSl_of_owns hown
        have hAn : A.length ≤ 1000 := by omega
        cases hr : rightB A with
        | false =>
          have hp : parseL s.data.toList = none := by rw [HP.out, ← hL]; show (if rightB A = true then some A else none) = none; rw [hr]; rfl
          have HP2 := Lib.hid hp
          have HR := Lib.hid (fun W hL => right_val A u6 false hr hAn hsm W hL)
          clear hp hL h0 hown
          go_wp2_with fail
          with_reducible refine (HR.out _ hsl).mono ?_
          rintro e w3 ⟨rfl, hb3⟩
          go_wp2_with fail
          go_ret2
          exact ⟨parseP_none HP2.out, hbel.trans (hb3.mono hbel.size)⟩
        | true =>
          have hp : parseL s.data.toList = some A := by rw [HP.out, ← hL]; show (if rightB A = true then some A else none) = some A; rw [hr]; rfl
          have HP2 := Lib.hid hp
          have HR := Lib.hid (fun W hL => right_val A u6 true hr hAn hsm W hL)
          clear hp hL h0 hown
          go_wp2_with fail
          with_reducible refine (HR.out _ hsl).mono ?_
          rintro e w3 ⟨rfl, hb3⟩
          have hsl3 := hsl.below hb3
          go_wp2_with fail
          go_ret2
          exact ⟨parseP_some HP2.out hsl3, hbel.trans (hb3.mono hbel.size)⟩
      · have hne : ¬ ri.toList = [] := by rw [ByteArray.toList_eq]; exact h0
        have hnb : ri.toList.isEmpty = false := by
          cases h : ri.toList with
          | nil => exact absurd h hne
          | cons => rfl
        have hz1 : 1 ≤ ri.size := by
          rw [← lenL]
          cases h : ri.data.toList with
          | nil => exact absurd h h0
          | cons => simp
        obtain ⟨c, t, hct⟩ : ∃ c t, ri.data.toList = c :: t := by
          cases h : ri.data.toList with
          | nil => exact absurd h h0
          | cons c t => exact ⟨c, t, rfl⟩
        obtain ⟨f, rfl⟩ : ∃ f', f = f' + 1 := ⟨f - 1, by omega⟩
        have hT : (ri.extract 1 ri.size).data.toList = t := by
          rw [extL, List.take_of_length_le (by rw [lenL]; exact Nat.le_refl _), hct]
          rfl
        have hTz : (ri.extract 1 ri.size).size = ri.size - 1 := by simp
        obtain ⟨T, hTT⟩ : ∃ T, ri.extract 1 ri.size = T := ⟨_, rfl⟩
        rw [hTT] at hT hTz
        have hsl : ∀ W : World, (Instr.slice 9 (.string ri) (some (.int .i64 1)) none none).run Try.prog W = .ok (.string T) W := fun W => by
          rw [run_slice_string_l (P := Try.prog) W 9 ri Try.underlying9 .i64 1 (by omega) (by omega), ← hTT]
          rfl
        have hL := HL.out
        rw [hct, ← hT] at hL
        have HL2 := Lib.hid hL
        have HO := Lib.hid (fun W => refOne_any T (by omega) W)
        clear hL HL hct hT h0 hne hTT
        go_wp2_with fail
        with_reducible refine (HO.out _).mono ?_
        rintro e w3 ⟨⟨x, y, r, h1, rfl⟩ | ⟨h1, x, y, rfl⟩, hb3⟩
        · have hlen := one_len h1
          simp only [lenL] at hlen
          have hL3 := HL2.out
          rw [labs_some h1] at hL3
          have hb4 := hbel.trans (hb3.mono hbel.size)
          have hown3 : w3.ownsRow w.heap.size 41 2 u6 A.length (cellsL A) := hown.kept (row := none) ⟨hb3.os, hb3.tape, hb3.output, hb3.size, fun i hi _ => hb3.block i hi⟩ (Classical.em _)
          have HL3 := Lib.hid hL3
          clear hL3 h1 HL2 hown hb3 hbel
          go_wp2_with fail
          have hb5 := hb4.alloc hb4.size (.cells #[.string x, .string y] 41)
          with_reducible refine (refPut_any A u6 x y w.heap.size _ (hown3.alloc _) (by omega) hsm (by omega)).mono ?_
          rintro e w5 ⟨⟨v', rfl, hown5⟩, hb6⟩
          have hb7 := hb5.trans (hb6.mono hb5.size)
          have hown7 : w5.ownsRow w.heap.size 41 2 v' (insL A (x, y)).length (cellsL (insL A (x, y))) := hown5.mono hb5.size
          have hil := insL_len A (x, y)
          have his := insL_small (x := (x, y)) hsm ⟨by show x.size ≤ 3000; omega, by show y.size ≤ 3000; omega⟩
          clear hown5 hown3 hb6 hb5 hb4
          go_wp2_with fail
          go_roundw
          case rel => exact ⟨f, r, insL A (x, y), rfl, by omega, by omega, his, HL3.out, hown7, hb7⟩
          case measure => show r.size < ri.size; omega
        · have hL3 := HL2.out
          rw [labs_none h1] at hL3
          have hp : parseL s.data.toList = none := by rw [HP.out, ← hL3]; rfl
          have HP2 := Lib.hid hp
          clear hL3 hp h1 hown
          go_wp2_with fail
          go_ret2
          exact ⟨parseP_none HP2.out, (hbel.trans (hb3.mono hbel.size)).alloc (by have := hbel.size; have := hb3.size; omega) _⟩
end Go.Proofs.Ytbcgjgefkkibbaa
