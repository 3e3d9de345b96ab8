/- Registers as texts and as bytes in memory (stage 7). -/
import Derived.Test.YtnljepnmajcmgaaHMath
import Derived.Test.YtnljepnmajcmgaaEBase
import Derived.Lib.ConvBytes
import Derived.Laws.ResultCell
import Derived.Laws.IdiomStrings
namespace Go.Proofs.Ytnljepnmajcmgaa
open Go.RowKit

/-- Registers, as a text. -/
def regS (R : List Nat) : ByteArray := ⟨(R.map UInt8.ofNat).toArray⟩
theorem regS_size (R : List Nat) : (regS R).size = R.length := by simp [regS, ByteArray.size]
theorem regS_nil : regS [] = { data := #[] } := rfl
def byteL (R : List Nat) : Prop := ∀ r ∈ R, r < 256
theorem regS_at (R : List Nat) (hR : byteL R) (j : Nat) (hj : j < R.length) (h2 : j < (regS R).data.size) : ((regS R).data[j].toNat : Int) = (R[j] : Int) := by
  have := hR R[j] (List.getElem_mem hj)
  simp [regS]
  omega
theorem regS_get (R : List Nat) (hR : byteL R) (j : Nat) (hj : j < R.length) (h2 : j < (regS R).size) : ((regS R)[j]'h2).toNat = R[j] := by
  have := hR R[j] (List.getElem_mem hj)
  show ((regS R).data[j]'h2).toNat = R[j]
  simp [regS]
  omega
theorem wrap64_small {y : Int} (h0 : 0 ≤ y) (h : y < 9223372036854775808) : wrap64 y = y := by unfold wrap64; omega
theorem regS_getD (R : List Nat) (hR : byteL R) (j : Nat) (hj : j < R.length) : (((regS R).data.toList.getD j 0).toNat : Int) = (R[j] : Int) := by
  have := hR R[j] (List.getElem_mem hj)
  simp [regS, hj]
  omega
/-- Each text is that of its bytes. -/
theorem regS_of (s : ByteArray) : ∃ R, regS R = s ∧ byteL R ∧ R.length = s.size := by
  refine ⟨s.data.toList.map UInt8.toNat, ?_, ?_, by simp⟩
  · obtain ⟨⟨l⟩⟩ := s
    simp only [regS, List.map_map]
    congr 2
    refine (List.map_congr_left (fun x _ => ?_)).trans (List.map_id l)
    simp
  · intro r hr
    obtain ⟨x, _, rfl⟩ := List.mem_map.1 hr
    exact x.toNat_lt
abbrev hV (b : Int) (R : List Nat) : Value := .agg #[.int .i64 b, .string (regS R)]
/-- What is told: registers, and the error's number. -/
abbrev hT (P : (Int × List Nat) × Nat) : Value := .tuple #[hV P.1.1 P.1.2, .int .i64 (P.2 : Int)]
theorem byteL_of {n : Nat} (l : List Nat) : byteL (ofR n l) := fun r hr => by
  obtain ⟨i, _, rfl⟩ := List.mem_map.1 hr
  have := mx_le n i l
  omega
/-- A row of bytes. -/
def BytC (w : World) (g : Nat) (R : List Nat) : Prop := g < w.heap.size ∧ ∀ j (hj : j < R.length), w.cell? ⟨g, j, none⟩ = some (.int .u8 (R[j] : Int)) ∧ w.frozen? ⟨g, j, none⟩ = false
theorem BytC.keep {w w' : World} {g : Nat} {R : List Nat} (h : BytC w g R) (hz : w.heap.size ≤ w'.heap.size) (hb : w'.heap[g]? = w.heap[g]?) : BytC w' g R :=
  ⟨Nat.lt_of_lt_of_le h.1 hz, fun j hj => ⟨(World.cell?_of_block (a := ⟨g, j, none⟩) hb).trans (h.2 j hj).1, (World.frozen?_of_block (a := ⟨g, j, none⟩) hb).trans (h.2 j hj).2⟩⟩
theorem BytC.below {w w' : World} {g : Nat} {R : List Nat} (h : BytC w g R) (hb : Below w.heap.size w w') : BytC w' g R := h.keep hb.size (hb.block g h.1)
theorem BytC.set {w : World} {g : Nat} {R : List Nat} (h : BytC w g R) (k x : Nat) (hk : k < R.length) : BytC (w.setCell ⟨g, k, none⟩ (.int .u8 (x : Int))) g (R.set k x) := by
  refine ⟨by simpa using h.1, fun j hj => ?_⟩
  have hj' : j < R.length := by simpa using hj
  refine ⟨?_, by rw [World.frozen?_setCell]; exact (h.2 j hj').2⟩
  by_cases hjk : k = j
  · subst hjk
    rw [World.cell?_setCell_same' _ _ _ (by rw [(h.2 k hk).1]; rfl)]
    simp
  · rw [World.cell?_setCell_other (h := (by intro e; cases e; exact hjk rfl)), List.getElem_set_ne hjk]
    exact (h.2 j hj').1
theorem BytC.far {w : World} {g b o : Nat} {R : List Nat} (h : BytC w g R) (hb : b ≠ g) (u : Value) : BytC (w.setCell ⟨b, o, none⟩ u) g R :=
  h.keep (by simp) (Below.heap_setCell w ⟨b, o, none⟩ u g (Ne.symm hb))
/-- A row of bytes, made a text. -/
theorem bytC_back {w : World} {g : Nat} {R : List Nat} (h : BytC w g R) (hR : byteL R) (n cap : Nat) (hn : n = R.length) :
    (convert 52 9 (.slice (some ⟨g, 0, none⟩) n cap)).run Try.prog w = .ok (.string (regS R)) w := by
  have hc := run_convert_bytes_back (P := Try.prog) w 52 9 5 ⟨g, 0, none⟩ cap (R.map UInt8.ofNat) Try.underlying52 Try.underlying5 Try.underlying9
    (fun j hj => by
      have hj' : j < R.length := by simpa using hj
      have := hR R[j] (List.getElem_mem hj')
      rw [add_blockN, Nat.zero_add, (h.2 j hj').1]
      simp only [List.getElem_map]
      congr 2
      rw [UInt8.toNat_ofNat']
      omega)
  rw [List.length_map, ← hn] at hc
  exact hc
/-- A text's bytes, in a new row. -/
theorem bytC_of (R : List Nat) (hR : byteL R) (W : World) : ∃ cap V, (convert 9 52 (.string (regS R))).run Try.prog W = .ok (.slice (some ⟨W.heap.size, 0, none⟩) R.length cap) V ∧ Below W.heap.size W V ∧ BytC V W.heap.size R := by
  refine ⟨grownCap W (regS R).size 0 5, Lib.bytesWorld W 5 (regS R), ?_, ?_, ?_⟩
  · have := Lib.run_convert_string_bytes (P := Try.prog) W 9 52 5 (regS R) Try.underlying9 Try.underlying52 Try.underlying5
    rwa [regS_size] at this ⊢
  · exact ⟨rfl, rfl, rfl, by rw [Lib.bytesWorld_size]; omega, fun j hj => Lib.bytesWorld_at_old W 5 (regS R) j hj⟩
  · refine ⟨by rw [Lib.bytesWorld_size]; omega, fun j hj => ⟨?_, ?_⟩⟩
    · rw [Lib.bytesWorld_cell W 5 (regS R) j (by rw [regS_size]; exact hj), regS_getD R hR j hj]
    · have hsz : j < (Lib.bytesCells W 5 (regS R)).size := by
        unfold Lib.bytesCells
        simp [regS]
        omega
      simp [World.frozen?, Lib.bytesWorld_at_new]
      omega
/-- Registers in a cell, and a number: what is returned. -/
theorem results_hll {fn : Func} {p u : Tmp} (h : fn.results = #[.cell p 23, .tmp u]) (tmps : Array Value) (w : World) (g : Nat) (a b : Value)
    (hp : tmps.getD p undef = .pointer (some ⟨g, 0, none⟩)) (hg : HasC w g 23 #[a, b]) : (results fn tmps).run Try.prog w = .ok (.tuple #[.agg #[a, b], tmps.getD u undef]) w := by
  rw [results_cell_tmp h, hp]
  simp only [asAddr, Sem.run_pure, Result.andThen_ok]
  rw [run_loadVar_row w g 23 23 #[a, b] (0, 0) _ hg Try.underlying23 rfl (by kernel_rfl)]
  rfl
theorem result_hll {fn : Func} {p : Tmp} (h : fn.results = #[.cell p 23]) (tmps : Array Value) (w : World) (g : Nat) (a b : Value)
    (hp : tmps.getD p undef = .pointer (some ⟨g, 0, none⟩)) (hg : HasC w g 23 #[a, b]) : (results fn tmps).run Try.prog w = .ok (.agg #[a, b]) w :=
  results_cell_row h tmps w g 23 #[a, b] (0, 0) _ hp hg Try.underlying23 rfl (by kernel_rfl)
end Go.Proofs.Ytnljepnmajcmgaa
