/- Package field's reader: a list of texts; GetList. -/
import Derived.Test.YthbfibnpfdegaaaDoorFRead
import Derived.Test.YthbfibnpfdegaaaDoorFPuts
import Derived.ScopeJumps
import Derived.WalkMore
namespace Go.Proofs.YthbfibnpfdegaaaDoor
open Go.RowKit

inductive LR
  | more
  | bad
  | ok (ts : List ByteArray) (r : ByteArray)
/-- So many texts, one behind another. -/
def listS : Nat → ByteArray → LR
  | 0, s => .ok [] s
  | n + 1, s => match textL s.data.toList with
    | .more => .more
    | .bad => .bad
    | .ok a k => match listS n (s.extract k s.size) with
      | .ok ts r => .ok (s.extract a k :: ts) r
      | .more => .more
      | .bad => .bad
/-- The list that bytes begin with, and what is behind it. -/
def getLS (s : ByteArray) : LR := match cntL 100 s.data.toList with
  | .more => .more
  | .bad => .bad
  | .ok n k => listS n (s.extract k s.size)

theorem info9 : (Tryd.prog.info? 9).map (fun i => (i.zero, i.size, i.bytes)) = some (some (.string { data := #[] }), 1, 16) := by kernel_rfl
theorem grb_own {x y z : World} {b : Nat} {row : Option Nat} (h : x.grownBy y (some b)) (k : y.grownBy z row) (hr : ∀ r, row = some r → x.heap.size ≤ r) : x.grownBy z (some b) :=
  ⟨k.os.trans h.os, k.tape.trans h.tape, k.output.trans h.output, Nat.le_trans h.size k.size,
    fun i hi hn => (k.block i (Nat.lt_of_lt_of_le hi h.size) (fun e => by have := hr i e.symm; omega)).trans (h.block i hi hn)⟩
theorem ext_size (s : ByteArray) (k : Nat) (h : s.size ≤ maxLen) : (s.extract k s.size).size ≤ maxLen := by simp; omega

theorem listS_succ {n : Nat} {s r : ByteArray} {L : List ByteArray} (h : listS (n + 1) s = .ok L r) :
    ∃ a k ts, textL s.data.toList = .ok a k ∧ listS n (s.extract k s.size) = .ok ts r ∧ L = s.extract a k :: ts := by
  unfold listS at h
  split at h
  · cases h
  · cases h
  · rename_i a k ht
    split at h
    · rename_i ts r' hl
      obtain ⟨rfl, rfl⟩ : _ = L ∧ _ = r := by simpa using h
      exact ⟨a, k, ts, ht, hl, rfl⟩
    · cases h
    · cases h
theorem listS_len {r : ByteArray} : ∀ {n : Nat} {s : ByteArray} {L : List ByteArray}, listS n s = .ok L r → L.length = n := by
  intro n
  induction n with
  | zero => intro s L h; simp [listS] at h; simp [h.1]
  | succ n ih =>
    intro s L h
    obtain ⟨a, k, ts, _, h2, rfl⟩ := listS_succ h
    simp [ih h2]
section
variable {am af : Addr} {N b : Nat} {s whole : ByteArray} {w : World}

theorem jump_ret {l : Nat} {J : Act → World → Prop} {Q : Exit → Act → World → Prop} {a : Act} {W : World} : Exit.jump l J Q .ret a W = Q .ret a W := rfl
/-- The way out: an error in its slot. -/
def OutAt (E : Addr) (b : Nat) (whole : ByteArray) (w : World) (a : Act) (W : World) : Prop :=
  (∃ u4 u5 u6 u8 u9 u10 u11 u12 u13 u14 u15 u16 u17 u18 u19 u20 u21 u22 u23 u24 u25 u26 u27 u28 u29 u30 u31 : Value, a = { tmps := #[.pointer (some ⟨b, 0, none⟩), undef, .slice none 0 0, .nilIface, u4, u5, u6, .iface 128 (.pointer (some E)), u8, u9, u10, u11, u12, u13, u14, u15, u16, u17, u18, u19, u20, u21, u22, u23, u24, u25, u26, u27, u28, u29, u30, u31], defers := [] }) ∧ w.grownBy W (some b) ∧ ∃ r, HasC W b 96 #[.string r, .string whole]

theorem listS_err {E : Addr} {n : Nat} {s : ByteArray} (h : (listS (n + 1) s = .more ∧ E = am) ∨ (listS (n + 1) s = .bad ∧ E = af)) :
    (textL s.data.toList = .more ∧ E = am) ∨ (textL s.data.toList = .bad ∧ E = af) ∨ ∃ a k, textL s.data.toList = .ok a k ∧ ((listS n (s.extract k s.size) = .more ∧ E = am) ∨ (listS n (s.extract k s.size) = .bad ∧ E = af)) := by
  cases ht : textL s.data.toList with
  | more =>
    rcases h with ⟨h, he⟩ | ⟨h, he⟩
    · exact .inl ⟨rfl, he⟩
    · simp [listS, ht] at h
  | bad =>
    rcases h with ⟨h, he⟩ | ⟨h, he⟩
    · simp [listS, ht] at h
    · exact .inr (.inl ⟨rfl, he⟩)
  | ok a k =>
    refine .inr (.inr ⟨a, k, rfl, ?_⟩)
    rcases h with ⟨h, he⟩ | ⟨h, he⟩
    · left
      refine ⟨?_, he⟩
      simp only [listS, ht] at h
      split at h
      · cases h
      · assumption
      · cases h
    · right
      refine ⟨?_, he⟩
      simp only [listS, ht] at h
      split at h
      · cases h
      · cases h
      · assumption

end
theorem strSl_of_owns {B : Nat} {v : Value} {ts : List ByteArray} {w : World} (h : w.ownsRow B 9 1 v ts.length (ts.map .string)) : StrSl w v ts := by
  rcases h.2 with ⟨hv, h0⟩ | ⟨g, cap, cur, hv, _, hg, _, _, _, htk⟩
  · exact .inl ⟨none, 0, hv, List.length_eq_zero_iff.1 h0⟩
  · refine .inr ⟨g, 0, cap, hv, (Array.getElem?_eq_some_iff.1 hg).1, fun j hj => ?_⟩
    have h1 := congrArg (fun l => l[j]?) htk
    simp only [Nat.mul_one, List.getElem?_take, hj, if_true, List.getElem?_map, List.getElem?_eq_getElem hj, Option.map_some] at h1
    rw [cell_of_row w g (0 + j) cur 9 (0, 0) hg, Nat.zero_add, List.getD_eq_getElem?_getD, List.getElem?_eq_getElem hj]
    simpa using h1

end Go.Proofs.YthbfibnpfdegaaaDoor
