/- Package hist: what is wrong: errno, digits, told. Package hist: a value's bucket. Package hist: a bucket's bounds. Package hist: a bucket's bounds: the walk. Package hist: Bucket, Bounds. -/
import Derived.Test.YtpdedogdffolnaaGFrame
import Derived.WalkLawsBesides
import Derived.Shelf.Abstract
import Derived.OwnWalkIn
import Derived.Test.YtpdedogdffolnaaGShelf
import Derived.BigQuiet
import Derived.ScopeJumps
import Derived.WalkMore
namespace Go.Proofs.Ytpdedogdffolnaa
open Go.RowKit Go.Shelf
attribute [local go_sem] Oper.semAt_some

theorem gAs_nil (w : World) : (Instr.typeAssert .nilIface 56 76 true).run Try.prog w = .ok (.tuple #[.string { data := #[] }, .bool false]) w := by kernel_rfl
theorem gAs_bad (s : ByteArray) (w : World) : (Instr.typeAssert (.iface 76 (.string s)) 56 76 true).run Try.prog w = .ok (.tuple #[.string s, .bool true]) w := by kernel_rfl
set_option maxRecDepth 100000 in
theorem gErrno_ok (w : World) : Calls Try.prog 36 #[.nilIface] w fun e w' => e = .returned (.int .i64 0) ∧ w' = w := by
  have h := gAs_nil
  go_enter Try.func36, Try.ntmps36
  go_wp2
  go_ret
  exact ⟨rfl, rfl⟩
set_option maxRecDepth 100000 in
theorem gErrno_bad (s : ByteArray) (w : World) : Calls Try.prog 36 #[.iface 76 (.string s)] w fun e w' => e = .returned (.int .i64 90) ∧ w' = w := by
  have h := gAs_bad s
  go_enter Try.func36, Try.ntmps36
  go_wp2
  go_ret
  exact ⟨rfl, rfl⟩
/-- An error, or none. -/
def GErr (ok : Bool) (v : Value) : Prop := (ok = true ∧ v = .nilIface) ∨ (ok = false ∧ ∃ s, v = .iface 76 (.string s))
theorem gErrno_any {ok : Bool} {u : Value} (h : GErr ok u) (w : World) : Calls Try.prog 36 #[u] w fun e w' => e = .returned (.int .i64 (if ok then 0 else 90)) ∧ w' = w := by
  rcases h with ⟨rfl, rfl⟩ | ⟨rfl, s, rfl⟩
  · exact gErrno_ok w
  · exact gErrno_bad s w
set_option maxRecDepth 100000 in
theorem gDigits_any (f : Int) (w : World) : Calls Try.prog 40 #[.int .i64 f] w fun e w' => (∃ u, e = .returned u ∧ GErr (fineB f) u) ∧ w' = w := by
  by_cases h1 : f < 0
  · have hv : fineB f = false := by unfold fineB; rw [decide_eq_false (by omega)]; rfl
    rw [hv]
    clear hv
    go_enter Try.func40, Try.ntmps40
    go_wp2
    go_ret
    exact ⟨⟨_, rfl, .inr ⟨rfl, _, rfl⟩⟩, rfl⟩
  · by_cases h2 : 3 < f
    · have hv : fineB f = false := by unfold fineB; rw [decide_eq_false (show ¬ f ≤ 3 by omega), Bool.and_false]
      rw [hv]
      clear hv
      go_enter Try.func40, Try.ntmps40
      go_wp2
      go_ret
      exact ⟨⟨_, rfl, .inr ⟨rfl, _, rfl⟩⟩, rfl⟩
    · have hv : fineB f = true := by unfold fineB; rw [decide_eq_true (show 0 ≤ f by omega), decide_eq_true (show f ≤ 3 by omega)]; rfl
      rw [hv]
      clear hv
      go_enter Try.func40, Try.ntmps40
      go_wp2
      go_ret
      exact ⟨⟨_, rfl, .inl ⟨rfl, rfl⟩⟩, rfl⟩
set_option maxHeartbeats 2000000 in
set_option maxRecDepth 100000 in
/-- What told answers. -/
theorem gTold_ok (f : Int) (a : Option Addr) (n cp : Nat) (w : World) :
    Calls Try.prog 37 #[hgV f (.slice a n cp), .nilIface] w fun e w' => e = .returned (.tuple #[hgV f (.slice a n cp), .int .i64 0]) ∧ Below w.heap.size w w' := by
  unfold hgV
  go_enter Try.func37, Try.ntmps37
  go_wp2_with fail
  with_reducible refine (gErrno_ok _).mono ?_
  rintro e w2 ⟨rfl, rfl⟩
  go_wp2_with fail
  refine bodyPost_ret (results_hist rfl _ _ (w.heap.size + 1) _ _ rfl (HasC.at_ _ _ _ (by simp))) rfl ?_
  exact ⟨rfl, ((Below.refl _ w).alloc (Nat.le_refl _) _).alloc (by simp) _⟩
set_option maxHeartbeats 2000000 in
set_option maxRecDepth 100000 in
theorem gTold_bad (f : Int) (a : Option Addr) (n cp : Nat) (s : ByteArray) (w : World) :
    Calls Try.prog 37 #[hgV f (.slice a n cp), .iface 76 (.string s)] w fun e w' => e = .returned (.tuple #[hgV 0 (.slice none 0 0), .int .i64 90]) ∧ Below w.heap.size w w' := by
  unfold hgV
  go_enter Try.func37, Try.ntmps37
  go_wp2_with fail
  with_reducible refine (gErrno_bad _ _).mono ?_
  rintro e w2 ⟨rfl, rfl⟩
  go_wp2_with fail
  refine bodyPost_ret (results_hist rfl _ _ (w.heap.size + 1) _ _ rfl (HasC.at_ _ _ _ (by simp))) rfl ?_
  exact ⟨rfl, ((Below.refl _ w).alloc (Nat.le_refl _) _).alloc (by simp) _⟩
set_option maxRecDepth 100000 in
/-- The bucket when one digit less tells values apart. -/
theorem gCoarse_any (a : Nat) (w : World) (ha : a ≤ 1000) : Calls Try.prog 63 #[.int .i64 (a : Int)] w fun e w' => e = .returned (.int .i64 (((a + 1) / 2 : Nat) : Int)) ∧ w' = w := by
  obtain ⟨b, hb⟩ : ∃ b, b = (a + 1) / 2 := ⟨_, rfl⟩
  obtain ⟨c, hc⟩ : ∃ c, c = a + 1 := ⟨_, rfl⟩
  have h1 : IntKind.i64.wrap ((a : Int) + 1) = (c : Int) := by rw [wrapK9 _ (by omega) (by omega)]; omega
  have h2 : (c : Int).tdiv 2 = (b : Int) := by rw [Int.tdiv_eq_ediv_of_nonneg (by omega), hb, hc]; push_cast; rfl
  have h3 : IntKind.i64.wrap (b : Int) = (b : Int) := wrapK9 _ (by omega) (by omega)
  have h4 : wrap64 ((a : Int) + 1) = (c : Int) := by rw [wrap64_9 (by omega) (by omega)]; omega
  have h5 : wrap64 (b : Int) = (b : Int) := wrap64_9 (by omega) (by omega)
  rw [← hb]
  clear hb hc ha
  go_enter Try.func63, Try.ntmps63
  go_wp2
  go_ret
  exact ⟨rfl, rfl⟩
end Go.Proofs.Ytpdedogdffolnaa
namespace Go.Proofs.Ytpdedogdffolnaa
open Go.RowKit Go.Shelf

theorem gBitLen (m : Nat) (h : m ≠ 0) (hm : m < 18446744073709551616) : Lib.bitLen m = m.log2 + 1 := by
  rw [Lib.bitLen_shift m.log2 m (Nat.log2_self_le h) hm]
  have h1 := Nat.lt_log2_self (n := m)
  have h2 := Nat.log2_self_le h
  have : m / 2 ^ m.log2 = 1 := by
    refine Nat.le_antisymm ?_ ((Nat.le_div_iff_mul_le (Nat.two_pow_pos _)).2 (by rw [Nat.one_mul]; exact h2))
    have := (Nat.div_lt_iff_lt_mul (Nat.two_pow_pos m.log2) (x := m) (y := 2)).2 (by rw [Nat.pow_succ, Nat.mul_comm] at h1; exact h1)
    omega
  rw [this]
  rfl
/-- The digits behind the first one. -/
theorem place_math {f v : Nat} (hv : v ≠ 0) (hb : v.log2 ≤ 63) (hf : f ≤ 64) : v * 2 ^ (64 - v.log2) % 2 ^ 64 / 2 ^ (64 - f) = mantP f v - 2 ^ f := by
  obtain ⟨b, hbb⟩ : ∃ b, b = v.log2 := ⟨_, rfl⟩
  have h1 := Nat.lt_log2_self (n := v)
  have h2 := Nat.log2_self_le hv
  unfold mantP
  rw [← hbb] at hb h1 h2 ⊢
  obtain ⟨r, hr⟩ : ∃ r, v = 2 ^ b + r := ⟨v - 2 ^ b, by omega⟩
  have hrb : r < 2 ^ b := by rw [Nat.pow_succ] at h1; omega
  have e64 : 2 ^ b * 2 ^ (64 - b) = 2 ^ 64 := by rw [← Nat.pow_add]; congr 1; omega
  have ef : 2 ^ (64 - f) * 2 ^ f = 2 ^ 64 := by rw [← Nat.pow_add]; congr 1; omega
  have hp := Nat.two_pow_pos (64 - b)
  have hpb := Nat.two_pow_pos b
  have hpf := Nat.two_pow_pos f
  have hlt : r * 2 ^ (64 - b) < 2 ^ 64 := by rw [← e64]; exact Nat.mul_lt_mul_of_pos_right hrb hp
  have e1 : v * 2 ^ (64 - b) % 2 ^ 64 = r * 2 ^ (64 - b) := by
    rw [hr, Nat.add_mul, e64, Nat.add_mod_left, Nat.mod_eq_of_lt hlt]
  have e2 : r * 2 ^ (64 - b) / 2 ^ (64 - f) = r * 2 ^ f / 2 ^ b := by
    rw [← Nat.mul_div_mul_right _ _ hpf, ef, ← e64, Nat.mul_assoc, Nat.mul_comm (2 ^ (64 - b)), ← Nat.mul_assoc, Nat.mul_div_mul_right _ _ hp]
  have e3 : v * 2 ^ f / 2 ^ b = 2 ^ f + r * 2 ^ f / 2 ^ b := by
    rw [hr, Nat.add_mul, Nat.mul_add_div hpb]
  rw [e1, e2, e3, Nat.add_sub_cancel_left]
set_option maxHeartbeats 1000000 in
set_option maxRecDepth 100000 in
theorem gPlace_any (f v : Nat) (w : World) (hf : f ≤ 3) (hv : v ≤ topN) : Calls Try.prog 41 #[.int .i64 (f : Int), gV v] w fun e w' => e = .returned (.int .i64 (bktP f v : Int)) ∧ Below w.heap.size w w' := by
  have ht : topN = 18446744073709551615 := rfl
  by_cases h0 : v = 0
  · subst h0
    rw [bkt_zero]
    clear ht hv
    go_enter Try.func41, Try.ntmps41
    go_wp2
    go_ret
    exact ⟨rfl, Below.refl _ _⟩
  · have hb : v.log2 ≤ 63 := by
      have := (Nat.log2_lt h0 (k := 64)).2 (by show v < 18446744073709551616; omega)
      omega
    have K1 := Try.gLen64 (v : Int)
    rw [Int.toNat_natCast, gBitLen v h0 (by omega)] at K1
    have hm := place_math h0 hb (show f ≤ 64 by omega)
    have hmu := mant_hi (f := f) (v := v)
    have hml := mant_lo (f := f) h0
    have hbk := bkt_pos (f := f) h0
    have hp8 := pow8 hf
    obtain ⟨b, hbb⟩ : ∃ b, b = v.log2 := ⟨_, rfl⟩
    rw [← hbb] at K1 hm hb hbk
    obtain ⟨p, hp⟩ : ∃ p, p = bktP f v := ⟨_, rfl⟩
    rw [← hp] at hbk ⊢
    obtain ⟨c, hc⟩ : ∃ c, c = 64 - b := ⟨_, rfl⟩
    obtain ⟨d, hd⟩ : ∃ d, d = 64 - f := ⟨_, rfl⟩
    rw [← hc, ← hd] at hm
    obtain ⟨s, hs⟩ : ∃ s, s = mantP f v - 2 ^ f := ⟨_, rfl⟩
    rw [← hs] at hm hbk
    obtain ⟨r, hr⟩ : ∃ r, r = v * 2 ^ c % 2 ^ 64 := ⟨_, rfl⟩
    rw [← hr] at hm
    obtain ⟨q, hq⟩ : ∃ q, q = b * 2 ^ f := ⟨_, rfl⟩
    rw [← hq] at hbk
    have hq2 : q ≤ 63 * 8 := by rw [hq]; exact Nat.mul_le_mul hb hp8
    have hs8 : s < 8 := by omega
    have f1 : IntKind.i64.wrap (((b + 1 : Nat) : Int) - 1) = (b : Int) := by rw [wrapK9 _ (by omega) (by omega)]; omega
    have f2 : IntKind.i64.wrap (64 - (b : Int)) = (c : Int) := by rw [wrapK9 _ (by omega) (by omega)]; omega
    have f3 : IntKind.u64.wrap ((v : Int) * 2 ^ c) = (r : Int) := by
      obtain ⟨z, hz⟩ : ∃ z : Nat, z = v * 2 ^ c := ⟨_, rfl⟩
      have e : ((v : Int) * 2 ^ c) = (z : Int) := by rw [hz]; push_cast; rfl
      rw [← hz] at hr
      rw [e, wrapU9]
      omega
    have f4 : IntKind.i64.wrap ((b : Int) * 2 ^ f) = (q : Int) := by
      have e : ((b : Int) * 2 ^ f) = (q : Int) := by rw [hq]; push_cast; rfl
      rw [e, wrapK9 _ (by omega) (by omega)]
    have f5 : IntKind.i64.wrap (1 + (q : Int)) = ((1 + q : Nat) : Int) := by rw [wrapK9 _ (by omega) (by omega)]; omega
    have f6 : IntKind.i64.wrap (64 - (f : Int)) = (d : Int) := by rw [wrapK9 _ (by omega) (by omega)]; omega
    have f7 : (r : Int) / 2 ^ d = (s : Int) := by rw [← hm]; push_cast; rfl
    have f8 : IntKind.i64.wrap (s : Int) = (s : Int) := wrapK9 _ (by omega) (by omega)
    have f9 : IntKind.i64.wrap (((1 + q : Nat) : Int) + (s : Int)) = (p : Int) := by rw [wrapK9 _ (by omega) (by omega)]; omega
    have f10 : wrap64 (1 + (q : Int) + (s : Int)) = (p : Int) := by rw [wrap64_9 (by omega) (by omega)]; omega
    have hb63 : b ≤ 63 := hb
    have hc64 : c ≤ 64 := by omega
    have hd64 : d ≤ 64 := by omega
    have hvi : ((v : Int) == 0) = false := by simp; omega
    have K2 := Lib.hid (fun W => K1 W (by omega) (by omega))
    have H10 := Lib.hid f10
    clear hbk hp hm hmu hml hp8 hbb hc hd hs hr hq hq2 K1 ht hv h0 f9 f10
    go_enter Try.func41, Try.ntmps41
    go_wp2_with fail
    with_reducible refine (K2.out _).mono ?_
    rintro e w2 ⟨rfl, rfl⟩
    go_wp2_with fail
    go_quiet (fail)
    go_wp2_with fail
    go_ret
    refine ⟨?_, bel_drewN (Below.refl _ w2) _⟩
    show Ending.returned (.int .i64 (wrap64 (1 + (q : Int) + (s : Int)))) = _
    rw [H10.out]
end Go.Proofs.Ytpdedogdffolnaa
namespace Go.Proofs.Ytpdedogdffolnaa
open Go.RowKit Go.Shelf

/-- A scope out of which the run goes by one jump forward: what is behind the label is walked where the jump stands. -/
theorem gScope_out {P : Program} {a : Act} {w : World} {Q : Exit → Act → World → Prop} {c rest : Code} (l : Nat) (hf : findLabel c l = some rest)
    (h : c.wp P (Exit.jump l (fun a w => rest.wp P (Exit.noGoto Q) a w) Q) a w) : (Code.scope c).wp P Q a w :=
  wp_scope_jumps l (fun a w => rest.wp P (Exit.noGoto Q) a w) (fun _ _ => 0) hf h (fun _ _ hJ => Code.wp_mono (fun e a w q => by
    cases e with
    | goto l' => exact q.elim
    | normal => exact q
    | exit id => exact q
    | ret => exact q
    | panic ch => exact q
    | outgrown => exact q) hJ)
section
variable {Q : Exit → Act → World → Prop} {J : Act → World → Prop} {l : Nat} {a : Act} {w : World}
@[local go_sem] theorem gJmp_normal : Exit.jump l J Q .normal a w = Q .normal a w := rfl
@[local go_sem] theorem gJmp_exit (id : Nat) : Exit.jump l J Q (.exit id) a w = Q (.exit id) a w := rfl
@[local go_sem] theorem gJmp_ret : Exit.jump l J Q .ret a w = Q .ret a w := rfl
@[local go_sem] theorem gJmp_panic (ch : List PanicEntry) : Exit.jump l J Q (.panic ch) a w = Q (.panic ch) a w := rfl
theorem gJmp_goto (h : J a w) : Exit.jump l J Q (.goto l) a w := ⟨rfl, h⟩
end

/-- The numbers of a bucket, one by one: what is left of it, its first and last value. -/
def bndChk (f a : Nat) : Bool :=
  let e := (a - 1) / 2 ^ f
  let r := ((a - 1) * 2 ^ (64 - f)) % 2 ^ 64
  let fi := 2 ^ e + r / 2 ^ (64 - e)
  Nat.ble e 63 && (Nat.beq ((r * 2 ^ e) % 2 ^ 64) 0 == okP f a) && (! okP f a || (Nat.beq (loP f a) fi && Nat.beq (hiP f a) (fi + (2 ^ e - 1) / 2 ^ f) && Nat.ble fi topN && Nat.ble (hiP f a) topN))
def bndAll (f : Nat) : Nat → Bool
  | 0 => true
  | n + 1 => bndChk f (n + 1) && bndAll f n
theorem bnd_all0 : bndAll 0 64 = true := by kernel_rfl
theorem bnd_all1 : bndAll 1 128 = true := by kernel_rfl
theorem bnd_all2 : bndAll 2 256 = true := by kernel_rfl
theorem bnd_all3 : bndAll 3 512 = true := by kernel_rfl
theorem bnd_of (f : Nat) : ∀ n, bndAll f n = true → ∀ a, 1 ≤ a → a ≤ n → bndChk f a = true := by
  intro n
  induction n with
  | zero => intro _ a h1 h2; omega
  | succ n ih =>
    intro h a h1 h2
    obtain ⟨g1, g2⟩ := (Bool.and_eq_true _ _).mp (show (bndChk f (n + 1) && bndAll f n) = true from h)
    by_cases ha : a = n + 1
    · rw [ha]; exact g1
    · exact ih g2 a h1 (by omega)
theorem bnd_any {f a : Nat} (hf : f ≤ 3) (h1 : 1 ≤ a) (h2 : a ≤ 64 * 2 ^ f) : bndChk f a = true := by
  have : f = 0 ∨ f = 1 ∨ f = 2 ∨ f = 3 := by omega
  rcases this with rfl | rfl | rfl | rfl
  · exact bnd_of 0 64 bnd_all0 a h1 h2
  · exact bnd_of 1 128 bnd_all1 a h1 h2
  · exact bnd_of 2 256 bnd_all2 a h1 h2
  · exact bnd_of 3 512 bnd_all3 a h1 h2
/-- A bucket's values when a digit less tells them apart: two by two. -/
def coaChk (f a : Nat) : Bool := ! okP f a || Nat.beq (bktP (f - 1) (loP f a)) ((a + 1) / 2)
def coaAll (f : Nat) : Nat → Bool
  | 0 => coaChk f 0
  | n + 1 => coaChk f (n + 1) && coaAll f n
theorem coa_all1 : coaAll 1 128 = true := by kernel_rfl
theorem coa_all2 : coaAll 2 256 = true := by kernel_rfl
theorem coa_all3 : coaAll 3 512 = true := by kernel_rfl
theorem coa_of (f : Nat) : ∀ n, coaAll f n = true → ∀ a, a ≤ n → coaChk f a = true := by
  intro n
  induction n with
  | zero => intro h a h2; obtain rfl : a = 0 := by omega
            exact h
  | succ n ih =>
    intro h a h2
    obtain ⟨g1, g2⟩ := (Bool.and_eq_true _ _).mp (show (coaChk f (n + 1) && coaAll f n) = true from h)
    by_cases ha : a = n + 1
    · rw [ha]; exact g1
    · exact ih g2 a (by omega)
theorem coarse_ok {f a : Nat} (h0 : f ≠ 0) (hf : f ≤ 3) (ho : okP f a = true) : bktP (f - 1) (loP f a) = (a + 1) / 2 := by
  have h2 : a ≤ 64 * 2 ^ f := by
    unfold okP at ho
    rcases (Bool.or_eq_true _ _).mp ho with h | h
    · have := of_decide_eq_true h; omega
    · exact of_decide_eq_true ((Bool.and_eq_true _ _).mp h).1
  have hc : coaChk f a = true := by
    have : f = 1 ∨ f = 2 ∨ f = 3 := by omega
    rcases this with rfl | rfl | rfl
    · exact coa_of 1 128 coa_all1 a h2
    · exact coa_of 2 256 coa_all2 a h2
    · exact coa_of 3 512 coa_all3 a h2
  unfold coaChk at hc
  rw [ho] at hc
  exact Nat.eq_of_beq_eq_true (by simpa using hc)
theorem ok_le {f a : Nat} (hf : f ≤ 3) (ho : okP f a = true) : a ≤ 512 := by
  have h2 : a ≤ 64 * 2 ^ f := by
    unfold okP at ho
    rcases (Bool.or_eq_true _ _).mp ho with h | h
    · have := of_decide_eq_true h; omega
    · exact of_decide_eq_true ((Bool.and_eq_true _ _).mp h).1
  have := pow8 hf
  omega
end Go.Proofs.Ytpdedogdffolnaa
namespace Go.Proofs.Ytpdedogdffolnaa
open Go.RowKit Go.Shelf
attribute [local go_sem] gJmp_normal gJmp_exit gJmp_ret gJmp_panic

/-- What bounds answers. -/
def BndE (S : Nat × Nat × Bool) (e : Ending) : Prop := ∃ u, e = .returned (.tuple #[gV S.1, gV S.2.1, u]) ∧ GErr S.2.2 u
theorem bnd_no {f a : Int} (h : (fineB f && okI f.toNat a) = false) : boundsI f a = (0, 0, false) := by
  unfold boundsI
  rw [h]
  rfl
set_option maxHeartbeats 4000000 in
set_option maxRecDepth 100000 in
theorem gBnds_any (f a : Int) (w : World) (hf : smallI f) (ha : smallI a) :
    Calls Try.prog 35 #[.int .i64 f, .int .i64 a] w fun e w' => BndE (boundsI f a) e ∧ Below w.heap.size w w' := by
  have D1 := Lib.hid (fun W => gDigits_any f W)
  have ha1 := ha.1
  have ha2 := ha.2
  cases hq : fineB f with
  | false =>
    have hv : boundsI f a = (0, 0, false) := bnd_no (by rw [hq]; rfl)
    have HV := Lib.hid hv
    rw [hq] at D1
    clear hv hq hf ha
    go_enter Try.func35, Try.ntmps35
    go_wp2_with fail
    refine gScope_out 0 rfl ?_
    go_wp2_with fail
    with_reducible refine (D1.out _).mono ?_
    rintro e w2 ⟨⟨u, rfl, hu⟩, rfl⟩
    rcases hu with ⟨hu, _⟩ | ⟨_, s, rfl⟩
    · cases hu
    go_wp2_with fail
    apply wp_goto
    refine ⟨rfl, ?_⟩
    go_wp2_with fail
    rw [Exit.noGoto_ret]
    go_ret3
    rw [HV.out]
    exact ⟨⟨_, rfl, .inr ⟨rfl, _, rfl⟩⟩, Below.refl _ _⟩
  | true =>
    obtain ⟨n, rfl, hn⟩ := fineB_nat hq
    rw [hq] at D1
    have hn8 := pow8 hn
    obtain ⟨t, ht⟩ : ∃ t, t = 64 * 2 ^ n := ⟨_, rfl⟩
    have f0 : ((64 : Int) * 2 ^ n) = (t : Int) := by rw [ht]; push_cast; rfl
    have ht5 : t ≤ 512 := by omega
    by_cases h0 : a < 0
    · have hv : boundsI (n : Int) a = (0, 0, false) := bnd_no (by unfold okI; rw [decide_eq_false (show ¬ 0 ≤ a by omega), Bool.false_and, Bool.and_false])
      have HV := Lib.hid hv
      clear hv hq hf ha ht f0 hn8
      go_enter Try.func35, Try.ntmps35
      go_wp2_with fail
      refine gScope_out 0 rfl ?_
      go_wp2_with fail
      with_reducible refine (D1.out _).mono ?_
      rintro e w2 ⟨⟨u, rfl, hu⟩, rfl⟩
      rcases hu with ⟨_, rfl⟩ | ⟨hu, _⟩
      case inr => cases hu
      go_wp2_with fail
      apply wp_goto
      refine ⟨rfl, ?_⟩
      go_wp2_with fail
      rw [Exit.noGoto_ret]
      go_ret3
      rw [HV.out]
      exact ⟨⟨_, rfl, .inr ⟨rfl, _, rfl⟩⟩, Below.refl _ _⟩
    · by_cases h1 : (t : Int) < a
      · have hv : boundsI (n : Int) a = (0, 0, false) := bnd_no (by
          unfold okI okP
          rw [Int.toNat_natCast, decide_eq_false (show ¬ a.toNat = 0 by omega), decide_eq_false (show ¬ a.toNat ≤ 64 * 2 ^ n by omega)]
          simp)
        have HV := Lib.hid hv
        clear hv hq hf ha ht hn8
        go_enter Try.func35, Try.ntmps35
        go_wp2_with fail
        refine gScope_out 0 rfl ?_
        go_wp2_with fail
        with_reducible refine (D1.out _).mono ?_
        rintro e w2 ⟨⟨u, rfl, hu⟩, rfl⟩
        rcases hu with ⟨_, rfl⟩ | ⟨hu, _⟩
        case inr => cases hu
        go_wp2_with fail
        apply wp_goto
        refine ⟨rfl, ?_⟩
        go_wp2_with fail
        rw [Exit.noGoto_ret]
        go_ret3
        rw [HV.out]
        exact ⟨⟨_, rfl, .inr ⟨rfl, _, rfl⟩⟩, Below.refl _ _⟩
      · obtain ⟨b, rfl⟩ : ∃ b : Nat, a = (b : Int) := ⟨a.toNat, by omega⟩
        by_cases hb0 : b = 0
        · subst hb0
          have hv : boundsI (n : Int) ((0 : Nat) : Int) = (0, 0, true) := by
            unfold boundsI okI okP loP hiP
            rw [hq]
            simp
          have HV := Lib.hid hv
          clear hv hq hf ha ht hn8
          go_enter Try.func35, Try.ntmps35
          go_wp2_with fail
          refine gScope_out 0 rfl ?_
          go_wp2_with fail
          with_reducible refine (D1.out _).mono ?_
          rintro e w2 ⟨⟨u, rfl, hu⟩, rfl⟩
          rcases hu with ⟨_, rfl⟩ | ⟨hu, _⟩
          case inr => cases hu
          go_wp2_with fail
          rw [gJmp_ret]
          go_ret3
          rw [HV.out]
          exact ⟨⟨_, rfl, .inl ⟨rfl, rfl⟩⟩, Below.refl _ _⟩
        · have hchk := bnd_any hn (show 1 ≤ b by omega) (show b ≤ 64 * 2 ^ n by omega)
          unfold bndChk at hchk
          dsimp only at hchk
          obtain ⟨c, hc⟩ : ∃ c, c = b - 1 := ⟨_, rfl⟩
          rw [← hc] at hchk
          obtain ⟨e, he⟩ : ∃ e, e = c / 2 ^ n := ⟨_, rfl⟩
          rw [← he] at hchk
          obtain ⟨d, hd⟩ : ∃ d, d = 64 - n := ⟨_, rfl⟩
          rw [← hd] at hchk
          obtain ⟨r, hr⟩ : ∃ r, r = c * 2 ^ d % 2 ^ 64 := ⟨_, rfl⟩
          rw [← hr] at hchk
          obtain ⟨z, hz⟩ : ∃ z, z = r * 2 ^ e % 2 ^ 64 := ⟨_, rfl⟩
          rw [← hz] at hchk
          obtain ⟨p, hp⟩ : ∃ p, p = 2 ^ e := ⟨_, rfl⟩
          rw [← hp] at hchk
          obtain ⟨g, hg⟩ : ∃ g, g = 64 - e := ⟨_, rfl⟩
          rw [← hg] at hchk
          obtain ⟨s, hs⟩ : ∃ s, s = r / 2 ^ g := ⟨_, rfl⟩
          rw [← hs] at hchk
          obtain ⟨k, hk⟩ : ∃ k, k = (p - 1) / 2 ^ n := ⟨_, rfl⟩
          rw [← hk] at hchk
          simp only [Bool.and_eq_true] at hchk
          obtain ⟨⟨g1, g2⟩, g3⟩ := hchk
          have he63 : e ≤ 63 := Nat.le_of_ble_eq_true g1
          have hok : okP n b = Nat.beq z 0 := (eq_of_beq g2).symm
          have hb512 : b ≤ 512 := by omega
          have f1 : IntKind.i64.wrap ((b : Int) - 1) = (c : Int) := by rw [wrapK9 _ (by omega) (by omega)]; omega
          have f1' : wrap64 ((b : Int) - 1) = (c : Int) := by rw [wrap64_9 (by omega) (by omega)]; omega
          have f2 : (c : Int) / 2 ^ n = (e : Int) := by rw [he]; push_cast; rfl
          have f3 : IntKind.u64.wrap (c : Int) = (c : Int) := by rw [wrapU9]; omega
          have f4 : IntKind.i64.wrap (64 - (n : Int)) = (d : Int) := by rw [wrapK9 _ (by omega) (by omega)]; omega
          have f4' : wrap64 (64 - (n : Int)) = (d : Int) := by rw [wrap64_9 (by omega) (by omega)]; omega
          have f5 : IntKind.u64.wrap ((c : Int) * 2 ^ d) = (r : Int) := by
            obtain ⟨y, hy⟩ : ∃ y : Nat, y = c * 2 ^ d := ⟨_, rfl⟩
            have e1 : ((c : Int) * 2 ^ d) = (y : Int) := by rw [hy]; push_cast; rfl
            rw [← hy] at hr
            rw [e1, wrapU9]
            omega
          have f6 : IntKind.u64.wrap ((r : Int) * 2 ^ e) = (z : Int) := by
            obtain ⟨y, hy⟩ : ∃ y : Nat, y = r * 2 ^ e := ⟨_, rfl⟩
            have e1 : ((r : Int) * 2 ^ e) = (y : Int) := by rw [hy]; push_cast; rfl
            rw [← hy] at hz
            rw [e1, wrapU9]
            omega
          have hd64 : d ≤ 64 := by omega
          have he64 : e ≤ 64 := by omega
          have hbi : ((b : Int) == 0) = false := by
            rw [beq_eq_false_iff_ne]
            omega
          have hbn : ¬ (b : Int) = 0 := by omega
          by_cases hz0 : z = 0
          · have hok' : okP n b = true := by rw [hok, hz0]; rfl
            rw [hok'] at g3
            simp only [Bool.not_true, Bool.false_or, Bool.and_eq_true] at g3
            obtain ⟨⟨⟨g4, g5⟩, g6⟩, g7⟩ := g3
            have hlo : loP n b = p + s := Nat.eq_of_beq_eq_true g4
            have hhi : hiP n b = p + s + k := Nat.eq_of_beq_eq_true g5
            have hfi : p + s ≤ topN := Nat.le_of_ble_eq_true g6
            have hh2 : hiP n b ≤ topN := Nat.le_of_ble_eq_true g7
            rw [hhi] at hh2
            have hv : boundsI (n : Int) (b : Int) = (p + s, p + s + k, true) := by
              unfold boundsI okI
              rw [hq, Int.toNat_natCast, Int.toNat_natCast, hok', hlo, hhi]
              simp
            have HV := Lib.hid hv
            have hp1 : 1 ≤ p := by rw [hp]; exact Nat.two_pow_pos e
            have htop : topN = 18446744073709551615 := rfl
            have f7 : IntKind.u64.wrap (2 ^ e) = (p : Int) := by
              have e1 : ((2 : Int) ^ e) = (p : Int) := by rw [hp]; push_cast; rfl
              rw [e1, wrapU9]
              omega
            have f8 : IntKind.i64.wrap (64 - (e : Int)) = (g : Int) := by rw [wrapK9 _ (by omega) (by omega)]; omega
            have f8' : wrap64 (64 - (e : Int)) = (g : Int) := by rw [wrap64_9 (by omega) (by omega)]; omega
            have f9 : (r : Int) / 2 ^ g = (s : Int) := by rw [hs]; push_cast; rfl
            have f10 : IntKind.u64.wrap ((p : Int) + (s : Int)) = ((p + s : Nat) : Int) := by rw [wrapU9]; omega
            obtain ⟨m, hm⟩ : ∃ m, m = p - 1 := ⟨_, rfl⟩
            rw [← hm] at hk
            have f11 : IntKind.u64.wrap ((p : Int) - 1) = (m : Int) := by rw [wrapU9]; omega
            have f12 : (m : Int) / 2 ^ n = (k : Int) := by rw [hk]; push_cast; rfl
            have f13 : IntKind.u64.wrap (((p + s : Nat) : Int) + (k : Int)) = ((p + s + k : Nat) : Int) := by rw [wrapU9]; omega
            have hg64 : g ≤ 64 := by omega
            obtain ⟨y, hy⟩ : ∃ y, y = p + s := ⟨_, rfl⟩
            rw [← hy] at f10 f13 HV
            obtain ⟨x, hx⟩ : ∃ x, x = y + k := ⟨_, rfl⟩
            rw [← hx] at f13 HV
            subst hz0
            have HF := Lib.hid (And.intro f7 (And.intro f8 (And.intro f8' (And.intro f9 (And.intro f10 (And.intro f11 (And.intro f12 f13)))))))
            clear f7 f8 f8' f9 f10 f11 f12 f13
            clear hv hq hf ha hn8 g1 g2 g4 g5 g6 g7 hok hok' hlo hhi hfi hh2 hc he hd hr hz hp hg hs hk hm hy hx hp1 ht htop ha1 ha2 hb0 hb512 hbn h0
            go_enter Try.func35, Try.ntmps35
            go_wp2_with fail
            refine gScope_out 0 rfl ?_
            go_wp2_with fail
            with_reducible refine (D1.out _).mono ?_
            rintro e w2 ⟨⟨u, rfl, hu⟩, rfl⟩
            rcases hu with ⟨_, rfl⟩ | ⟨hu, _⟩
            case inr => cases hu
            go_wp2_with fail
            obtain ⟨f7, f8, f8', f9, f10, f11, f12, f13⟩ := HF.out
            clear f1 f1' f2 f3 f4 f4' f5 f6
            go_quiet (fail)
            go_wp2_with fail
            go_quiet (fail)
            go_wp2_with fail
            rw [gJmp_ret]
            go_ret3
            rw [HV.out]
            exact ⟨⟨_, rfl, .inl ⟨rfl, rfl⟩⟩, bel_drewN (bel_drewN (Below.refl _ _) _) _⟩
          · have hok' : okP n b = false := by
              rw [hok]
              cases z with
              | zero => exact absurd rfl hz0
              | succ z => rfl
            have hv : boundsI (n : Int) (b : Int) = (0, 0, false) := bnd_no (by unfold okI; rw [Int.toNat_natCast, Int.toNat_natCast, hok', Bool.and_false, Bool.and_false])
            have HV := Lib.hid hv
            have hzi : ((z : Int) != 0) = true := by
              rw [bne_iff_ne]
              omega
            have hzn : ¬ (z : Int) = 0 := by omega
            clear hv hq hf ha hn8 g1 g2 g3 hok hok' hc he hd hr hz hp hg hs hk ha1 ha2 hb0 hb512 hbn h0 ht
            go_enter Try.func35, Try.ntmps35
            go_wp2_with fail
            refine gScope_out 0 rfl ?_
            go_wp2_with fail
            with_reducible refine (D1.out _).mono ?_
            rintro e w2 ⟨⟨u, rfl, hu⟩, rfl⟩
            rcases hu with ⟨_, rfl⟩ | ⟨hu, _⟩
            case inr => cases hu
            go_wp2_with fail
            apply wp_goto
            refine ⟨rfl, ?_⟩
            go_wp2_with fail
            rw [Exit.noGoto_ret]
            go_ret3
            rw [HV.out]
            exact ⟨⟨_, rfl, .inr ⟨rfl, _, rfl⟩⟩, Below.refl _ _⟩
end Go.Proofs.Ytpdedogdffolnaa
namespace Go.Proofs.Ytpdedogdffolnaa
open Go.RowKit Go.Shelf

set_option maxHeartbeats 1000000 in
set_option maxRecDepth 100000 in
theorem gBucket_any (f : Int) (v : Nat) (w : World) (hf : smallI f) (hv : v ≤ topN) :
    Calls Try.prog 17 #[.int .i64 f, gV v] w fun e w' => e = .returned (.int .i64 (bucketI f v : Int)) ∧ Below w.heap.size w w' := by
  have D1 := Lib.hid (fun W => gDigits_any f W)
  cases hq : fineB f with
  | false =>
    have hb : bucketI f v = 0 := by unfold bucketI; rw [hq]; rfl
    rw [hb]
    rw [hq] at D1
    clear hb hq hf hv
    go_enter Try.func17, Try.ntmps17
    go_wp2_with fail
    with_reducible refine (D1.out _).mono ?_
    rintro e w2 ⟨⟨u, rfl, hu⟩, rfl⟩
    have E1 := Lib.hid (fun W => gErrno_any hu W)
    clear hu
    go_wp2_with fail
    with_reducible refine (E1.out _).mono ?_
    rintro e w3 ⟨rfl, rfl⟩
    go_wp2_with fail
    go_ret
    exact ⟨rfl, Below.refl _ _⟩
  | true =>
    obtain ⟨n, rfl, hn⟩ := fineB_nat hq
    have hb : bucketI (n : Int) v = bktP n v := by unfold bucketI; rw [hq]; rfl
    rw [hb]
    rw [hq] at D1
    have P1 := Lib.hid (fun W => gPlace_any n v W hn hv)
    clear hb hq hf hv
    go_enter Try.func17, Try.ntmps17
    go_wp2_with fail
    with_reducible refine (D1.out _).mono ?_
    rintro e w2 ⟨⟨u, rfl, hu⟩, rfl⟩
    have E1 := Lib.hid (fun W => gErrno_any hu W)
    clear hu
    go_wp2_with fail
    with_reducible refine (E1.out _).mono ?_
    rintro e w3 ⟨rfl, rfl⟩
    go_wp2_with fail
    with_reducible refine (P1.out _).mono ?_
    rintro e w4 ⟨rfl, hb4⟩
    go_wp2_with fail
    go_ret
    exact ⟨rfl, hb4⟩
set_option maxHeartbeats 1000000 in
set_option maxRecDepth 100000 in
theorem gBounds_any (f a : Int) (w : World) (hf : smallI f) (ha : smallI a) :
    Calls Try.prog 13 #[.int .i64 f, .int .i64 a] w fun e w' => e = .returned (bndV (boundsI f a)) ∧ Below w.heap.size w w' := by
  have B1 := Lib.hid (fun W => gBnds_any f a W hf ha)
  obtain ⟨S, hS⟩ : ∃ S, S = boundsI f a := ⟨_, rfl⟩
  rw [← hS] at B1 ⊢
  obtain ⟨lo, hi, ok⟩ := S
  clear hS hf ha
  go_enter Try.func13, Try.ntmps13
  go_wp2_with fail
  with_reducible refine (B1.out _).mono ?_
  rintro e w2 ⟨⟨u, rfl, hu⟩, hb2⟩
  have E1 := Lib.hid (fun W => gErrno_any hu W)
  clear hu
  go_wp2_with fail
  with_reducible refine (E1.out _).mono ?_
  rintro e w3 ⟨rfl, rfl⟩
  cases ok with
  | true =>
    go_wp2_with fail
    go_ret3
    exact ⟨rfl, hb2⟩
  | false =>
    go_wp2_with fail
    go_ret3
    exact ⟨rfl, hb2⟩
end Go.Proofs.Ytpdedogdffolnaa
