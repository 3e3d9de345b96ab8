/- strings.Builder as the program bears it; package field: the bytes of texts and lists (putTexts, PutText, PutList). -/
import Derived.Test.YthbfibnpfdegaaaDoorFPut
import Derived.Lib.Builder
import Derived.Lib.AppendStr
import Derived.Laws.IdiomCopy
namespace Go.Proofs.YthbfibnpfdegaaaDoor
open Go.RowKit





/-- The bytes of texts, one behind another. -/
def textsL : List ByteArray → List UInt8
  | [] => []
  | t :: ts => putL t.size ++ t.data.toList ++ textsL ts
theorem textsL_snoc (ts : List ByteArray) (t : ByteArray) : textsL (ts ++ [t]) = textsL ts ++ (putL t.size ++ t.data.toList) := by
  induction ts with
  | nil => simp [textsL]
  | cons u ts ih => simp [textsL, ih]
def fits (ts : List ByteArray) : Bool := ts.all fun t => decide (t.size ≤ 400)
theorem textsL_len (ts : List ByteArray) (h : ∀ t ∈ ts, t.size ≤ 400) : (textsL ts).length ≤ 409 * ts.length := by
  induction ts with
  | nil => simp [textsL]
  | cons u ts ih =>
    have h1 := ih (fun t ht => h t (List.mem_cons_of_mem _ ht))
    have h2 := h u (List.mem_cons_self ..)
    have h3 := putL_len9 u.size
    simp [textsL]
    omega
/-- What putTexts answers. -/
def putsV (ahead : List UInt8) (ts : List ByteArray) : Value :=
  if fits ts then .tuple #[.string ⟨(ahead ++ textsL ts).toArray⟩, .int .i64 0] else .tuple #[.string { data := #[] }, .int .i64 21]

theorem cells_app (l : List UInt8) (s t : ByteArray) : Lib.byteCells l ++ Lib.strCells s ++ Lib.strCells t = Lib.byteCells (l ++ (s.data.toList ++ t.data.toList)) := by
  simp [Lib.byteCells, Lib.strCells]
theorem cells_str (s : ByteArray) : ([] : List Value) ++ Lib.strCells s = Lib.byteCells s.data.toList := by simp [Lib.byteCells, Lib.strCells]



/-- A slice that reads as these texts. -/
def StrSl (w : World) (v : Value) (ts : List ByteArray) : Prop :=
  (∃ a c, v = .slice a 0 c ∧ ts = []) ∨ ∃ g o c, v = .slice (some ⟨g, o, none⟩) ts.length c ∧ g < w.heap.size ∧ ∀ j, j < ts.length → w.cell? ⟨g, o + j, none⟩ = some (.string (ts.getD j { data := #[] }))
theorem StrSl.below {w w' : World} {v : Value} {ts : List ByteArray} (h : StrSl w v ts) (hb : Below w.heap.size w w') : StrSl w' v ts := by
  rcases h with h | ⟨g, o, c, h1, h2, h3⟩
  · exact .inl h
  · exact .inr ⟨g, o, c, h1, Nat.lt_of_lt_of_le h2 hb.size, fun j hj => (hb.cell (p := ⟨g, o + j, none⟩) h2).trans (h3 j hj)⟩

theorem putsV_tuple (l : List UInt8) (ts : List ByteArray) : ∃ s e, putsV l ts = .tuple #[.string s, .int .i64 e] := by
  unfold putsV
  split
  · exact ⟨_, _, rfl⟩
  · exact ⟨_, _, rfl⟩

/-- What PutList answers. -/
def listV (ts : List ByteArray) : Value := if 100 < ts.length then .tuple #[.string { data := #[] }, .int .i64 21] else putsV (putL ts.length) ts
end Go.Proofs.YthbfibnpfdegaaaDoor
