
/- Counters in memory (stage 8); the page's own: is, Right, Plus. -/
import Derived.Test.YtpdedogdffolnaaCMath
import Derived.Test.YtpdedogdffolnaaERef
import Derived.Laws.ResultCell
import Derived.BigQuiet
import Derived.OwnWalk
import Derived.OwnWalkIn
namespace Go.Proofs.Ytpdedogdffolnaa
open Go.RowKit

/-- Counters, as a value. -/
abbrev cV (r c : Int) (v : Value) : Value := .agg #[.int .i64 r, .int .i64 c, v]
theorem wrap_u64c (x : Int) : IntKind.u64.wrap x = x % 18446744073709551616 := by simp [IntKind.wrap, IntKind.signed, IntKind.bits]
theorem wrap_i64c (x : Int) (h0 : -9223372036854775808 ≤ x) (h1 : x < 9223372036854775808) : wrap64 x = x := by unfold wrap64; omega
set_option maxRecDepth 100000 in
theorem pPlus_any (a b : Nat) (w : World) (hb : b ≤ topN) : Calls Try.prog 34 #[nV a, nV b] w fun e w' => e = .returned (nV (plusS a b)) ∧ w = w' := by
  have ht : topN = 18446744073709551615 := rfl
  have e1 : IntKind.u64.wrap (18446744073709551615 - (b : Int)) = 18446744073709551615 - (b : Int) := by rw [wrap_u64c]; omega
  by_cases h : 18446744073709551615 - (b : Int) < (a : Int)
  · have hv : plusS a b = 18446744073709551615 := by unfold plusS; omega
    have HV := Lib.hid hv
    clear hv hb ht
    go_enter Try.func34, Try.ntmps34
    go_wp2
    go_ret
    exact ⟨by rw [HV.out]; rfl, rfl⟩
  · have hv : plusS a b = a + b := by unfold plusS; omega
    have e2 : IntKind.u64.wrap ((a : Int) + (b : Int)) = ((a + b : Nat) : Int) := by rw [wrap_u64c]; omega
    have HV := Lib.hid hv
    have E2 := Lib.hid e2
    clear hv hb e2 ht
    go_enter Try.func34, Try.ntmps34
    go_wp2
    go_ret
    exact ⟨by rw [HV.out]; first | rfl | (rw [← E2.out]; rfl), rfl⟩
end Go.Proofs.Ytpdedogdffolnaa
