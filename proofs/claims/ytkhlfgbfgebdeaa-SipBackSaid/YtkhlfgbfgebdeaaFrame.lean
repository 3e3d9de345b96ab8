/- How the statements' arguments are opened and shut: an array of four numbers. -/
import Derived.Test.YtkhlfgbfgebdeaaRows
import Derived.Test.YtkhlfgbfgebdeaaMath
import Derived.ProofKit
import Derived.OpenShut
import Derived.Lib.SmallJoins
namespace Go.Proofs.Ytkhlfgbfgebdeaa
open Go.ChangeShapes Go.WideShapes Go.ChangeAt Go.RowKit Go.Joins

theorem own : ownKnob Try.prog.godebug = none := by kernel_rfl
theorem cells22 : Try.prog.cellsOf 22 = 1 := by kernel_rfl
theorem cells30 : Try.prog.cellsOf 30 = 4 := by kernel_rfl

/-- An array of four numbers that comes in, opened. -/
theorem open_arr4 {H : Type} {enc : TypeId × Value → H} {W : World} {base : Nat} {v : Value} {d : DataW H} {ps : List MemPlace} (hval : Value.okWide Try.prog W .any base 30 v)
    (hd : DataW.Trod enc Try.prog W 0 (fun _ => true) true 30 v d ps) :
    ∃ q : Q4, v = .agg #[.int .u64 (n64 q.a), .int .u64 (n64 q.b), .int .u64 (n64 q.c), .int .u64 (n64 q.d)] ∧
      d = .agg [.lit (.int .u64 (n64 q.a)), .lit (.int .u64 (n64 q.b)), .lit (.int .u64 (n64 q.c)), .lit (.int .u64 (n64 q.d))] ∧ ps = [] := by
  obtain ⟨cs, rfl, hsz, _⟩ : ∃ cs, v = .agg cs ∧ cs.size = Try.prog.cellsOf 30 ∧ Row.okWide Try.prog W .any base 30 cs := by
    simpa [Value.okWide, Try.underlying30] using hval
  rw [cells30] at hsz
  obtain ⟨c0, c1, c2, c3, rfl⟩ := array4 hsz
  obtain ⟨fuel, hf⟩ := hd
  obtain ⟨y0, y1, y2, y3, m, hx, hy0, hy1, hy2, hy3⟩ := trod_array4 Try.underlying30 cells22 hf
  obtain ⟨x0, e0, rfl, w0⟩ := DataW.trod_int Try.underlying22 hy0
  obtain ⟨x1, e1, rfl, w1⟩ := DataW.trod_int Try.underlying22 hy1
  obtain ⟨x2, e2, rfl, w2⟩ := DataW.trod_int Try.underlying22 hy2
  obtain ⟨x3, e3, rfl, w3⟩ := DataW.trod_int Try.underlying22 hy3
  simp at e0 e1 e2 e3
  subst e0 e1 e2 e3
  simp only [Prod.mk.injEq] at hx
  obtain ⟨rfl, rfl⟩ := hx
  obtain ⟨a, rfl⟩ := of_n64_wf w0
  obtain ⟨b, rfl⟩ := of_n64_wf w1
  obtain ⟨c, rfl⟩ := of_n64_wf w2
  obtain ⟨d, rfl⟩ := of_n64_wf w3
  exact ⟨⟨a, b, c, d⟩, rfl, rfl, rfl⟩
theorem shut_arr4 {H : Type} {enc : TypeId × Value → H} {W : World} {sp : Nat → Bool} {held : Bool} {base : Nat} (q : Q4) :
    DataW.Trod enc Try.prog W base sp held 30 (.agg #[.int .u64 (n64 q.a), .int .u64 (n64 q.b), .int .u64 (n64 q.c), .int .u64 (n64 q.d)])
      (.agg [.lit (.int .u64 (n64 q.a)), .lit (.int .u64 (n64 q.b)), .lit (.int .u64 (n64 q.c)), .lit (.int .u64 (n64 q.d))]) [] :=
  ⟨2, by simp [DataW.trod, Value.cells, Try.underlying30, Try.underlying22, cells30, cells22, n64_wf, show List.range 4 = [0, 1, 2, 3] from rfl]⟩

theorem cells24 : Try.prog.cellsOf 24 = 2 := by kernel_rfl
/-- A key that comes in, opened. -/
theorem open_key {H : Type} {enc : TypeId × Value → H} {W : World} {base : Nat} {v : Value} {d : DataW H} {ps : List MemPlace} (hval : Value.okWide Try.prog W .any base 24 v)
    (hd : DataW.Trod enc Try.prog W 0 (fun _ => true) true 24 v d ps) :
    ∃ a b : BitVec 64, v = .agg #[.int .u64 (n64 a), .int .u64 (n64 b)] ∧ d = .agg [.lit (.int .u64 (n64 a)), .lit (.int .u64 (n64 b))] ∧ ps = [] := by
  obtain ⟨c0, c1, y0, y1, m, rfl, rfl, rfl, hy0, hy1⟩ := open_agg2 Try.underlying24 (by kernel_rfl) cells24 hval hd
  obtain ⟨x0, e0, rfl, w0⟩ := DataW.trod_int Try.underlying22 hy0
  obtain ⟨x1, e1, rfl, w1⟩ := DataW.trod_int Try.underlying22 hy1
  simp at e0 e1
  subst e0 e1
  obtain ⟨a, rfl⟩ := of_n64_wf w0
  obtain ⟨b, rfl⟩ := of_n64_wf w1
  exact ⟨a, b, rfl, rfl, rfl⟩
theorem shut_key {H : Type} {enc : TypeId × Value → H} {W : World} {sp : Nat → Bool} {held : Bool} {base : Nat} (a b : BitVec 64) :
    DataW.Trod enc Try.prog W base sp held 24 (.agg #[.int .u64 (n64 a), .int .u64 (n64 b)]) (.agg [.lit (.int .u64 (n64 a)), .lit (.int .u64 (n64 b))]) [] :=
  shut_agg2 (y0 := (.lit (.int .u64 (n64 a)), [])) (y1 := (.lit (.int .u64 (n64 b)), [])) Try.underlying24 (by kernel_rfl) cells24 ⟨1, by simp [DataW.trod, Try.underlying22, n64_wf]⟩ ⟨1, by simp [DataW.trod, Try.underlying22, n64_wf]⟩
end Go.Proofs.Ytkhlfgbfgebdeaa
