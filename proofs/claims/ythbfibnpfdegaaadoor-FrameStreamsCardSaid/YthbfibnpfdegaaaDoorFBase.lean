/- Contracts of small functions of package field, and of errors.Is and strings.Builder, as the program bears them. -/
import Derived.Test.YthbfibnpfdegaaaDoorRows
import Derived.Test.YthbfibnpfdegaaaDoorShelf
import Derived.Test.YthbfibnpfdegaaaDoorFMath
import Derived.Test.YthbfibnpfdegaaaDoorLaws
import Derived.Test.YthbfibnpfdegaaaDoorQuiet
import Derived.WalkKit
import Derived.LaidEql
import Derived.Stop.Asserts
import Derived.RowKitTokens
import Derived.Laws.Externs
import Derived.Lib.Hide
namespace Go.Proofs.YthbfibnpfdegaaaDoor
open Go.RowKit Go.Extern.Stop Go.Stop Go.Extern

/-- The two sentinels: each variable's cell, two different pointers, each in a row that is not frozen; all below block n. -/
structure Sent (am af : Addr) (n : Nat) (w : World) : Prop where
  more : w.cell? ⟨2, 0, none⟩ = some (.iface 128 (.pointer (some am)))
  field : w.cell? ⟨1, 0, none⟩ = some (.iface 128 (.pointer (some af)))
  ne : am ≠ af
  rowM : ∃ ca ta, w.heap[am.block]? = some (.cells ca ta (0, 0))
  rowF : ∃ ca ta, w.heap[af.block]? = some (.cells ca ta (0, 0))
  two : 2 < n
  one : 1 < n
  inM : am.block < n
  inF : af.block < n
  all : n ≤ w.heap.size
theorem Sent.below {am af : Addr} {n B : Nat} {w w' : World} (h : Sent am af n w) (hb : Below B w w') (hB : n ≤ B) : Sent am af n w' :=
  ⟨(hb.cell (p := ⟨2, 0, none⟩) (Nat.lt_of_lt_of_le h.two hB)).trans h.more, (hb.cell (p := ⟨1, 0, none⟩) (Nat.lt_of_lt_of_le h.one hB)).trans h.field, h.ne,
    by obtain ⟨c, t, hc⟩ := h.rowM; exact ⟨c, t, (hb.block _ (Nat.lt_of_lt_of_le h.inM hB)).trans hc⟩,
    by obtain ⟨c, t, hc⟩ := h.rowF; exact ⟨c, t, (hb.block _ (Nat.lt_of_lt_of_le h.inF hB)).trans hc⟩, h.two, h.one, h.inM, h.inF, Nat.le_trans h.all hb.size⟩
theorem Sent.on {am af : Addr} {n : Nat} {w w' : World} (h : Sent am af n w) (hb : Below w.heap.size w w') : Sent am af n w' := h.below hb h.all

theorem Tryd.isTypeOf (v : Value) (w : World) : (Extern.ReflectliteType.typeOf #[.iface 128 v]).run Tryd.prog w = .ok (.iface 102 (.agg #[.pointer (some ⟨3, 128, none⟩)])) w := by kernel_rfl
/-- What the model has for Comparable. -/
def cmpE : Array Value → Sem Value := Extern.ReflectliteType.method fun t => do Go.Extern.Rtype.noPackHeld "Comparable" t; pure (.bool (← typeInfo t).comparable)
theorem Tryd.isComparable (w : World) : (cmpE #[.agg #[.pointer (some ⟨3, 128, none⟩)]]).run Tryd.prog w = .ok (.bool true) w := by kernel_rfl
theorem Tryd.isMethodComparable (v : Value) (w : World) : (Go.method 261 102 v "Comparable").run Tryd.prog w = .ok (83, v) w := by kernel_rfl
theorem Tryd.isComp : (Tryd.prog.info? 128).map (·.comparable) = some true := by kernel_rfl
theorem Tryd.isSize : (Tryd.prog.info? 149).map (·.size) = some 1 := by kernel_rfl
theorem Tryd.noIsE (v : Value) (xT : TypeId) (w : World) : (Instr.typeAssert (.iface 128 v) xT 125 true).run Tryd.prog w = .ok (.tuple #[.nilIface, .bool false]) w := run_typeAssert_lacksB Tryd.underlying125 (by kernel_rfl) (by kernel_rfl) v xT w
theorem Tryd.noUnwrapE (v : Value) (xT : TypeId) (w : World) : (Instr.typeAssert (.iface 128 v) xT 110 true).run Tryd.prog w = .ok (.tuple #[.nilIface, .bool false]) w := run_typeAssert_lacksB Tryd.underlying110 (by kernel_rfl) (by kernel_rfl) v xT w
theorem Tryd.noUnwrapsE (v : Value) (xT : TypeId) (w : World) : (Instr.typeAssert (.iface 128 v) xT 112 true).run Tryd.prog w = .ok (.tuple #[.nilIface, .bool false]) w := run_typeAssert_lacksB Tryd.underlying112 (by kernel_rfl) (by kernel_rfl) v xT w

set_option maxRecDepth 100000 in
/-- errors.Is of an error and itself. -/
theorem is_same (a : Addr) (w : World) :
    Calls Tryd.prog 58 #[.iface 128 (.pointer (some a)), .iface 128 (.pointer (some a))] w fun e w' => e = .returned (.bool true) ∧ w = w' := by
  obtain ⟨i, hi, hcmp⟩ := Option.map_eq_some_iff.1 Tryd.isComp
  obtain ⟨j, hj, hjs⟩ := Option.map_eq_some_iff.1 Tryd.isSize
  have h8 := @run_callFunc_extern Tryd.prog 51 _ Extern.ReflectliteType.typeOf Tryd.func51 (by kernel_rfl) (by kernel_rfl) (by kernel_rfl) (by kernel_rfl)
  have h32 := @run_callFunc_extern Tryd.prog 83 _ cmpE Tryd.func83 (by kernel_rfl) (by kernel_rfl) (by kernel_rfl) (by kernel_rfl)
  have tT := Tryd.isTypeOf
  have cT := Tryd.isComparable
  have mR := Tryd.isMethodComparable
  have heq := run_eql_iface_ptr_same (P := Tryd.prog) w a Tryd.underlying49 Tryd.underlying128 hi hcmp hj
  go_enter Tryd.func58, Tryd.ntmps58
  go_wp2
  refine wp_loop_rounds 1 ?_
  rw [rounds_succ]
  go_wp2
  go_ret
  exact ⟨rfl, rfl⟩
set_option maxRecDepth 100000 in
/-- errors.Is of two different errors. -/
theorem is_other (a b : Addr) (ca cb : Array Value) (ta tb : TypeId) (w : World) (hne : a ≠ b) (ha : w.heap[a.block]? = some (.cells ca ta (0, 0))) (hb : w.heap[b.block]? = some (.cells cb tb (0, 0))) :
    Calls Tryd.prog 58 #[.iface 128 (.pointer (some a)), .iface 128 (.pointer (some b))] w fun e w' => e = .returned (.bool false) ∧ w = w' := by
  obtain ⟨i, hi, hcmp⟩ := Option.map_eq_some_iff.1 Tryd.isComp
  obtain ⟨j, hj, hjs⟩ := Option.map_eq_some_iff.1 Tryd.isSize
  have h8 := @run_callFunc_extern Tryd.prog 51 _ Extern.ReflectliteType.typeOf Tryd.func51 (by kernel_rfl) (by kernel_rfl) (by kernel_rfl) (by kernel_rfl)
  have h32 := @run_callFunc_extern Tryd.prog 83 _ cmpE Tryd.func83 (by kernel_rfl) (by kernel_rfl) (by kernel_rfl) (by kernel_rfl)
  have tT := Tryd.isTypeOf
  have cT := Tryd.isComparable
  have mR := Tryd.isMethodComparable
  have nE := Tryd.noIsE
  have uE := Tryd.noUnwrapE
  have vE := Tryd.noUnwrapsE
  have heq := run_eql_iface_ptr_other (P := Tryd.prog) w Tryd.underlying49 Tryd.underlying128 hi hcmp hj (by rw [hjs]; decide) hne ha hb
  clear ha hb hne
  go_enter Tryd.func58, Tryd.ntmps58
  go_wp2
  refine wp_loop_rounds 1 ?_
  rw [rounds_succ]
  go_wp2
  go_ret
  exact ⟨rfl, rfl⟩

/-- What is wrong, as a value. -/
theorem errno_nil (w : World) : Calls Tryd.prog 56 #[.nilIface] w fun e w' => e = .returned (.int .i64 0) ∧ w = w' := by
  go_enter Tryd.func56, Tryd.ntmps56
  go_wp2
  go_ret
  exact ⟨rfl, rfl⟩
theorem errno_more {am af : Addr} {n : Nat} {w : World} (h : Sent am af n w) : Calls Tryd.prog 56 #[.iface 128 (.pointer (some am))] w fun e w' => e = .returned (.int .i64 20) ∧ w = w' := by
  have hm := h.more
  go_enter Tryd.func56, Tryd.ntmps56
  go_wp2_with ((with_reducible refine (is_same _ _).mono ?_); rintro e w' ⟨rfl, rfl⟩)
  go_ret
  exact ⟨rfl, rfl⟩
theorem errno_field {am af : Addr} {n : Nat} {w : World} (h : Sent am af n w) : Calls Tryd.prog 56 #[.iface 128 (.pointer (some af))] w fun e w' => e = .returned (.int .i64 21) ∧ w = w' := by
  have hm := h.more
  obtain ⟨ca, ta, hca⟩ := h.rowM
  obtain ⟨cb, tb, hcb⟩ := h.rowF
  have HN := Lib.hid h.ne
  have HA := Lib.hid hca
  have HB := Lib.hid hcb
  clear hca hcb
  go_enter Tryd.func56, Tryd.ntmps56
  go_wp2_with (go_at_call 58; refine (is_other _ _ _ _ _ _ _ (fun e => HN.out e.symm) HB.out HA.out).mono ?_; rintro e w' ⟨rfl, rfl⟩)
  go_ret
  exact ⟨rfl, rfl⟩

/-- How many bytes follow a first byte. -/
theorem follow_any (c : UInt8) (w : World) : Calls Tryd.prog 42 #[.int .u8 (c.toNat : Int)] w fun e w' => e = .returned (.int .i64 (fol c.toNat : Int)) ∧ w = w' := by
  have hc := c.toNat_lt
  have hf := fol_cases c.toNat (by omega)
  generalize fol c.toNat = k at hf
  generalize c.toNat = m at hf hc
  by_cases h1 : m ≤ 240
  · obtain rfl : k = 0 := by omega
    clear hf
    go_enter Tryd.func42, Tryd.ntmps42
    go_wp2
    go_ret
    exact ⟨rfl, rfl⟩
  · by_cases h2 : m ≤ 248
    · obtain rfl : k = 1 := by omega
      clear hf
      have hx : max (1 : Int) ((m : Int) - 247) = 1 := by omega
      go_enter Tryd.func42, Tryd.ntmps42
      go_wp2
      go_ret
      exact ⟨rfl, rfl⟩
    · have hk : (k : Int) = m - 247 := by omega
      rw [hk]
      clear hf hk
      have hx : max (1 : Int) ((m : Int) - 247) = (m : Int) - 247 := by omega
      go_enter Tryd.func42, Tryd.ntmps42
      go_wp2
      go_ret
      exact ⟨rfl, rfl⟩


/-- The first three thousand bytes. -/
def cutB (s : ByteArray) : ByteArray := s.extract 0 (min s.size 3000)
theorem cutB_size (s : ByteArray) : (cutB s).size ≤ 3000 := by
  unfold cutB
  simp
  omega
end Go.Proofs.YthbfibnpfdegaaaDoor
