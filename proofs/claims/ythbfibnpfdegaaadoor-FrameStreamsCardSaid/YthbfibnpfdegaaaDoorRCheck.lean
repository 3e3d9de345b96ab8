/- Package frame: its check; four bytes of it. -/
import Derived.Test.YthbfibnpfdegaaaDoorRStream
import Derived.Test.YthbfibnpfdegaaaDoorFTake
import Derived.Laws.BitsAllLaws
namespace Go.Proofs.YthbfibnpfdegaaaDoor
open Go.RowKit

set_option maxRecDepth 100000 in
theorem plus_over (x y : Int) (h0 : 0 ≤ x) (hx : x < 65521) (k0 : 0 ≤ y) (hy : y < 65521) (h : 65521 ≤ x + y) (w : World) :
    Calls Tryd.prog 40 #[.int .u32 x, .int .u32 y] w fun e w' => e = .returned (.int .u32 (x + y - 65521)) ∧ w = w' := by
  go_enter Tryd.func40, Tryd.ntmps40
  go_wp2
  go_ret
  exact ⟨by go_num, rfl⟩
set_option maxRecDepth 100000 in
theorem plus_under (x y : Int) (h0 : 0 ≤ x) (hx : x < 65521) (k0 : 0 ≤ y) (hy : y < 65521) (h : ¬ 65521 ≤ x + y) (w : World) :
    Calls Tryd.prog 40 #[.int .u32 x, .int .u32 y] w fun e w' => e = .returned (.int .u32 (x + y)) ∧ w = w' := by
  go_enter Tryd.func40, Tryd.ntmps40
  go_wp2
  go_ret
  exact ⟨by go_num, rfl⟩
theorem plus_any (x y : Nat) (hx : x < 65521) (hy : y < 65521) (w : World) :
    Calls Tryd.prog 40 #[.int .u32 (x : Int), .int .u32 (y : Int)] w fun e w' => e = .returned (.int .u32 (((x + y) % 65521 : Nat) : Int)) ∧ w = w' := by
  by_cases h : 65521 ≤ x + y
  · have e0 : (((x + y) % 65521 : Nat) : Int) = (x : Int) + y - 65521 := by omega
    rw [e0]
    exact plus_over x y (by omega) (by omega) (by omega) (by omega) (by omega) w
  · have e0 : (((x + y) % 65521 : Nat) : Int) = (x : Int) + y := by omega
    rw [e0]
    exact plus_under x y (by omega) (by omega) (by omega) (by omega) (by omega) w

theorem begin_any (w : World) :
    Calls Tryd.prog 29 #[] w fun e w' => e = .returned (.agg #[.int .u32 1, .int .u32 0]) ∧ Below w.heap.size w w' := by
  go_enter Tryd.func29, Tryd.ntmps29
  go_wp2
  exact bodyPost_ret (v := .agg #[.int .u32 1, .int .u32 0]) (by simp [results, Tryd.results29, go_sem]) rfl ⟨rfl, (Below.refl _ _).alloc (Nat.le_refl _) _⟩

/-- A checker's block: both halves. -/
def Ck (w : World) (b x y : Nat) : Prop := HasC w b 58 #[.int .u32 (x : Int), .int .u32 (y : Int)]

theorem or_halves (x y : Nat) (hx : x < 65521) (hy : y < 65521) : bits .or .u32 ((y : Int) * 65536) (x : Int) = ((65536 * y + x : Nat) : Int) := by
  rw [show (y : Int) * 65536 = ((65536 * y : Nat) : Int) by omega, u32_or_nat _ _ (by omega) (by omega)]
  have := Nat.two_pow_add_eq_or_of_lt (i := 16) (b := x) (by omega) y
  simp only [Nat.reducePow] at this
  rw [← this]
theorem sum_any (b x y : Nat) (hx : x < 65521) (hy : y < 65521) (w : World) (h : Ck w b x y) :
    Calls Tryd.prog 31 #[.pointer (some ⟨b, 0, none⟩)] w fun e w' => e = .returned (.int .u32 ((65536 * y + x : Nat) : Int)) ∧ Below w.heap.size w w' := by
  have c0 : w.cell? ⟨b, 0, none⟩ = some (.int .u32 (x : Int)) := h.cell 0
  have c1 : w.cell? ⟨b, 1, none⟩ = some (.int .u32 (y : Int)) := h.cell 1
  clear h
  go_enter Tryd.func31, Tryd.ntmps31
  go_wp2
  go_quiet (fail)
  go_wp2
  go_ret
  exact ⟨by rw [← or_halves x y hx hy]; rfl, bel_drewN (Below.refl _ _) _⟩

/-- A checker's block, in a world that has grown by it. -/
def CkG (w : World) (b x y : Nat) (V : World) : Prop := Ck V b x y ∧ w.grownBy V (some b)
set_option maxRecDepth 100000 in
theorem take_byte (b x y g cap c : Nat) (hc : c < 256) (hx : x < 65521) (hy : y < 65521) (w : World) (h : Ck w b x y) (hg : w.cell? ⟨g, 0, none⟩ = some (.int .u8 (c : Int))) :
    Calls Tryd.prog 30 #[.pointer (some ⟨b, 0, none⟩), .slice (some ⟨g, 0, none⟩) 1 cap] w fun e w' =>
      e = .returned (.tuple #[]) ∧ Ck w' b ((x + c) % 65521) ((y + (x + c) % 65521) % 65521) ∧ w.grownBy w' (some b) := by
  have c0 : w.cell? ⟨b, 0, none⟩ = some (.int .u32 (x : Int)) := h.cell 0
  have z0 := h.frozen 0
  obtain ⟨p, hp⟩ : ∃ p, p = (x + c) % 65521 := ⟨_, rfl⟩
  have hp2 : p < 65521 := by omega
  obtain ⟨q, hq⟩ : ∃ q, q = (y + p) % 65521 := ⟨_, rfl⟩
  rw [← hp, ← hq]
  have HP : Hid (∀ W, Calls Tryd.prog 40 #[.int .u32 (x : Int), .int .u32 (c : Int)] W fun e w' => e = .returned (.int .u32 (p : Int)) ∧ W = w') := fun W => by rw [hp]; exact plus_any x c hx (by omega) W
  have HQ : Hid (∀ W, Calls Tryd.prog 40 #[.int .u32 (y : Int), .int .u32 (p : Int)] W fun e w' => e = .returned (.int .u32 (q : Int)) ∧ W = w') := fun W => by rw [hq]; exact plus_any y p hy hp2 W
  clear hp hq
  go_enter Tryd.func30, Tryd.ntmps30
  go_wp2
  refine wp_loop_rounds 2 ?_
  rw [rounds_succ]
  go_wp2_with fail
  with_reducible refine (HP.out _).mono ?_
  rintro e w' ⟨rfl, rfl⟩
  go_wp2_with fail
  have h1 : Ck (w.setCell ⟨b, 0, none⟩ (.int .u32 (p : Int))) b p y := HasC.eq (h.set 0 _) rfl
  have g1 : w.grownBy (w.setCell ⟨b, 0, none⟩ (.int .u32 (p : Int))) (some b) := grb_set (grb_refl b w) _ (.inl rfl) _
  clear c0 z0 h hg
  refine region_tail 15 (CkG w b p y) (by kernel_rfl) (by kernel_rfl) ⟨h1.drew, grb_drewN g1 1⟩ ?_
  intro hne
  have e0 : ∀ i : InC (CkG w b p y), i.w.cell? ⟨b, 0, none⟩ = some (.int .u32 (p : Int)) := fun i => i.h.1.cell 0
  have e1 : ∀ i : InC (CkG w b p y), i.w.cell? ⟨b, 1, none⟩ = some (.int .u32 (y : Int)) := fun i => i.h.1.cell 1
  simp only [List.take_succ_cons, List.take_zero, List.drop_succ_cons, List.drop_zero]
  repeat (go_big_quiet_step ((go_at_call 40; refine (HQ.out _).mono ?_; rintro e w' ⟨rfl, rfl⟩; exact ⟨rfl, ⟨_, InC.h _⟩, rfl⟩)))
  refine wpQuiet_nil ?_
  clear e0 e1 hne h1 g1
  rintro ⟨w3, hC3⟩
  dsimp only
  have d1 : w3.cell? ⟨b, 1, none⟩ = some (.int .u32 (y : Int)) := hC3.1.cell 1
  have z1 := hC3.1.frozen 1
  go_wp2
  rw [rounds_succ]
  go_wp2
  go_end0
  exact ⟨rfl, HasC.eq (hC3.1.set 1 _) rfl, grb_set hC3.2 _ (.inl rfl) _⟩

theorem check_any' (s : ByteArray) (hs : s.size ≤ maxLen) (w : World) :
    Calls Tryd.prog 16 #[.string s] w fun e w' => e = .returned (.int .u32 (checkL s.data.toList : Int)) ∧ Below w.heap.size w w' := by
  unfold maxLen at hs
  go_enter Tryd.func16, Tryd.ntmps16
  go_wp2_with fail
  refine (begin_any _).mono ?_
  rintro e w1 ⟨rfl, hb1⟩
  go_wp2_with fail
  go_loopw [4, 8] (fun _ i wr => ∃ k : Nat, k ≤ s.size ∧ i = .int .i64 k ∧ Ck wr w1.heap.size (ckL (s.data.toList.take k)).1 (ckL (s.data.toList.take k)).2 ∧ Below w.heap.size w wr) (fun _ i _ => s.size - (intOf i).toNat)
  case atStart => exact ⟨0, Nat.zero_le _, rfl, HasC.new _ _ _, hb1.alloc hb1.size _⟩
  case round =>
    obtain ⟨k, hk, rfl, hC, hB⟩ := hrel
    obtain ⟨ha, hb⟩ := ckL_lt (s.data.toList.take k)
    by_cases hlt : k < s.size
    · have hsn : ckL (s.data.toList.take (k + 1)) = ckP (ckL (s.data.toList.take k)) s[k] := by
        rw [List.take_succ_eq_append_getElem (by simpa using hlt), ckL_snoc]
        rfl
      obtain ⟨p, hp⟩ : ∃ p, p = ckL (s.data.toList.take k) := ⟨_, rfl⟩
      rw [← hp] at hsn ha hb hC
      obtain ⟨a, b⟩ := p
      dsimp only at ha hb hC
      have hc := s[k].toNat_lt
      have HS := Lib.hid hsn
      clear hsn hp
      go_wp2_with fail
      refine (take_byte w1.heap.size a b wr.heap.size 1 s[k].toNat (by omega) ha hb _ (hC.alloc _) (World.cell?_alloc_at _ _ _ _ rfl)).mono ?_
      rintro e w2 ⟨rfl, hC2, hg⟩
      have hB2 : Below w.heap.size w w2 := (hB.alloc hB.size _).grown hg (by have := hB.size; simp; omega) (fun r e => by cases e; exact hb1.size)
      clear hC hB hg
      go_wp2_with fail
      go_roundw
      case rel => exact ⟨k + 1, by omega, by go_num, by rw [HS.out]; exact hC2, hB2⟩
      case measure => simp [intOf]; omega
    · have hkk : s.data.toList.take k = s.data.toList := List.take_of_length_le (by simp; omega)
      rw [hkk] at ha hb hC
      go_wp2_with fail
      refine (sum_any w1.heap.size _ _ ha hb _ hC).mono ?_
      rintro e w3 ⟨rfl, hb3⟩
      go_wp2
      go_ret
      exact ⟨rfl, hB.trans (hb3.mono hB.size)⟩

theorem conv4a (w : World) (a b c d : UInt8) : (convert 37 9 (.slice (some ⟨w.heap.size, 0, none⟩) 4 4)).run Tryd.prog (w.alloc (.cells #[.int .u8 (a.toNat : Int), .int .u8 (b.toNat : Int), .int .u8 (c.toNat : Int), .int .u8 (d.toNat : Int)] 67)) =
    .ok (.string ⟨#[a, b, c, d]⟩) (w.alloc (.cells #[.int .u8 (a.toNat : Int), .int .u8 (b.toNat : Int), .int .u8 (c.toNat : Int), .int .u8 (d.toNat : Int)] 67)) :=
  run_convert_bytes_back (P := Tryd.prog) _ 37 9 5 ⟨w.heap.size, 0, none⟩ 4 [a, b, c, d] Tryd.underlying37 Tryd.underlying5 Tryd.underlying9
    (fun j hj => match j, hj with
      | 0, _ => World.cell?_alloc_at _ _ _ _ rfl
      | 1, _ => World.cell?_alloc_at _ _ _ _ rfl
      | 2, _ => World.cell?_alloc_at _ _ _ _ rfl
      | 3, _ => World.cell?_alloc_at _ _ _ _ rfl)
set_option maxRecDepth 100000 in
theorem spell4_any (n : Nat) (hn : n < 4294967296) (w : World) :
    Calls Tryd.prog 23 #[.int .u32 (n : Int)] w fun e w' => e = .returned (.string ⟨(lowL n 4).toArray⟩) ∧ Below w.heap.size w w' := by
  have e0 : (n : Int) % 256 = ((UInt8.ofNat n).toNat : Int) := by rw [UInt8.toNat_ofNat']; omega
  have e1 : (n : Int) / 256 % 256 = ((UInt8.ofNat (n / 256)).toNat : Int) := by rw [UInt8.toNat_ofNat']; omega
  have e2 : (n : Int) / 65536 % 256 = ((UInt8.ofNat (n / 65536)).toNat : Int) := by rw [UInt8.toNat_ofNat']; omega
  have e3 : (n : Int) / 16777216 = ((UInt8.ofNat (n / 16777216)).toNat : Int) := by rw [UInt8.toNat_ofNat']; omega
  have hcv := conv4a w (UInt8.ofNat (n / 16777216)) (UInt8.ofNat (n / 65536)) (UInt8.ofNat (n / 256)) (UInt8.ofNat n)
  rw [← e0, ← e1, ← e2, ← e3] at hcv
  rw [low4]
  obtain ⟨S, hS⟩ : ∃ S : ByteArray, S = ⟨#[UInt8.ofNat (n / 16777216), UInt8.ofNat (n / 65536), UInt8.ofNat (n / 256), UInt8.ofNat n]⟩ := ⟨_, rfl⟩
  have hg : (⟨[UInt8.ofNat (n / 16777216), UInt8.ofNat (n / 65536), UInt8.ofNat (n / 256), UInt8.ofNat n].toArray⟩ : ByteArray) = S := hS.symm
  rw [hg]
  rw [← hS] at hcv
  clear e0 e1 e2 e3 hS hg
  go_enter Tryd.func23, Tryd.ntmps23
  go_wp2
  refine wp_loop_rounds 5 ?_
  rw [rounds_succ]
  go_wp2
  rw [rounds_succ]
  go_wp2
  rw [rounds_succ]
  go_wp2
  rw [rounds_succ]
  go_wp2
  rw [rounds_succ]
  go_wp2
  go_ret
  exact ⟨rfl, (Below.refl _ _).alloc (Nat.le_refl _) _⟩
end Go.Proofs.YthbfibnpfdegaaaDoor
