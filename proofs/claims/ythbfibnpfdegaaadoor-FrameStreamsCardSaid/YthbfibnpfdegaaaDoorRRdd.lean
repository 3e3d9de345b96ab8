/- Package frame: Read. -/
import Derived.Test.YthbfibnpfdegaaaDoorRRd
namespace Go.Proofs.YthbfibnpfdegaaaDoor
open Go.RowKit

theorem ferr_nil (w : World) :
    Calls Tryd.prog 27 #[.nilIface] w fun e w' => e = .returned (.int .i64 0) ∧ Below w.heap.size w w' := by
  go_enter Tryd.func27, Tryd.ntmps27
  go_wp2_with (go_at_call 37; refine (as_nil _ _).mono ?_; rintro e w' ⟨rfl, rfl⟩)
  go_ret
  exact ⟨rfl, (Below.refl _ _).alloc (Nat.le_refl _) _⟩

set_option maxRecDepth 100000 in
theorem ferr_hit {am af : Addr} {N : Nat} (n : Int) (w : World) (hS : SentR am af N w) :
    Calls Tryd.prog 27 #[.iface 72 (.agg #[.int .i64 n])] w fun e w' => e = .returned (.int .i64 n) ∧ Below w.heap.size w w' := by
  have hS2 := fun o => hS.on ((Below.refl w.heap.size w).alloc (Nat.le_refl _) o)
  have HA := Lib.hid (fun o => as_hit n ⟨w.heap.size, 0, none⟩ (.int .i64 0) (w.alloc (.cells #[.int .i64 0] o)) rfl (hS2 _).type (by simp) (by simp))
  go_enter Tryd.func27, Tryd.ntmps27
  go_wp2_with fail
  with_reducible refine (HA.out _).mono ?_
  rintro e w' ⟨rfl, rfl⟩
  go_wp2_with fail
  go_ret
  exact ⟨rfl, (((((Below.refl _ _).alloc (Nat.le_refl _) _).alloc (by simp) _).alloc (by simp; omega) _).alloc (by simp; omega) _).alloc (by simp; omega) _⟩

/-- What read and Read answer. -/
theorem rd_read (s : ByteArray) : ∃ (b r : ByteArray) (e : Int) (v : Value), RdOut s = .tuple #[.agg #[.string b, .string r], v] ∧ ReadOut s = .tuple #[.string b, .string r, .int .i64 e] ∧
    ((v = .nilIface ∧ e = 0) ∨ v = faultV e) := by
  unfold RdOut ReadOut
  cases readL s.data.toList
  · exact ⟨_, _, _, _, rfl, rfl, .inr rfl⟩
  · exact ⟨_, _, _, _, rfl, rfl, .inr rfl⟩
  · exact ⟨_, _, _, _, rfl, rfl, .inr rfl⟩
  · exact ⟨_, _, _, _, rfl, rfl, .inl ⟨rfl, rfl⟩⟩
theorem ferr_any {am af : Addr} {N : Nat} (v : Value) (e : Int) (h : (v = .nilIface ∧ e = 0) ∨ v = faultV e) (w : World) (hS : SentR am af N w) :
    Calls Tryd.prog 27 #[v] w fun ev w' => ev = .returned (.int .i64 e) ∧ Below w.heap.size w w' := by
  rcases h with ⟨rfl, rfl⟩ | rfl
  · exact ferr_nil w
  · exact ferr_hit e w hS
theorem rd_val {am af : Addr} {N : Nat} (s : ByteArray) (v : Value) (hv : RdOut s = v) (hs : s.size ≤ maxLen) (W : World) (hS : SentR am af N W) :
    Calls Tryd.prog 26 #[.string s] W fun e w' => e = .returned v ∧ Below W.heap.size W w' := by
  rw [← hv]
  exact rd_any s hs W hS

/-- A world in which a frame's bytes and what is behind it lie in a block. -/
def FdD (am af : Addr) (N : Nat) (w : World) (B : Nat) (b r : ByteArray) (V : World) : Prop := HasC V B 47 #[.string b, .string r] ∧ SentR am af N V ∧ Below w.heap.size w V
theorem FdD.sent {am af : Addr} {N B : Nat} {w V : World} {b r : ByteArray} (h : FdD am af N w B b r V) : SentR am af N V := h.2.1
theorem FdD.on {am af : Addr} {N B : Nat} {w V V' : World} {b r : ByteArray} (h : FdD am af N w B b r V) (hb : Below V.heap.size V V') : FdD am af N w B b r V' :=
  ⟨h.1.below hb h.1.lt, h.2.1.on hb, h.2.2.trans (hb.mono h.2.2.size)⟩

set_option maxRecDepth 100000 in
theorem read_any {am af : Addr} {N : Nat} (s : ByteArray) (hs : s.size ≤ maxLen) (w : World) (hS : SentR am af N w) :
    Calls Tryd.prog 14 #[.string s] w fun e w' => e = .returned (ReadOut s) ∧ Below w.heap.size w w' := by
  obtain ⟨b, r, e, v, h1, h2, h3⟩ := rd_read s
  rw [h2]
  have HR := Lib.hid (fun W (h : SentR am af N W) => rd_val s _ h1 hs W h)
  have HE := Lib.hid (fun W (h : SentR am af N W) => ferr_any v e h3 W h)
  clear h1 h2 h3 hs
  go_enter Tryd.func14, Tryd.ntmps14
  go_wp2_with fail
  with_reducible refine (HR.out _ hS).mono ?_
  rintro ev w1 ⟨rfl, hb⟩
  go_wp2_with fail
  have hD : FdD am af N w w1.heap.size b r (w1.alloc (.cells #[.string b, .string r] 47)) := FdD.on ⟨HasC.new _ _ _, hS.on (hb.alloc hb.size _), hb.alloc hb.size _⟩ (Below.refl _ _)
  refine region_class (FdD am af N w w1.heap.size b r) (by kernel_rfl) (by kernel_rfl) (hD.on ((Below.refl _ _).drew)) ?_
  intro hne
  have e0 : ∀ i : InC (FdD am af N w w1.heap.size b r), i.w.cell? ⟨w1.heap.size, 0, none⟩ = some (.string b) := fun i => i.h.1.cell 0
  have e1 : ∀ i : InC (FdD am af N w w1.heap.size b r), i.w.cell? ⟨w1.heap.size, 1, none⟩ = some (.string r) := fun i => i.h.1.cell 1
  repeat (go_big_quiet_step ((go_at_call 27; refine (HE.out _ (FdD.sent (InC.h _))).mono ?_; rintro e w' ⟨rfl, hb⟩; exact ⟨rfl, ⟨_, FdD.on (InC.h _) hb⟩, rfl⟩)))
  refine wpQuiet_nil ?_
  clear e0 e1 hne hD
  rintro ⟨w3, hD3⟩
  dsimp only
  go_wp2
  go_ret3
  exact ⟨rfl, hD3.2.2⟩
end Go.Proofs.YthbfibnpfdegaaaDoor
