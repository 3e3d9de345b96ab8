/- SipHalves: what it comes to. -/
import Derived.Test.YtkhlfgbfgebdeaaLawsS
import Derived.Deep.RegionWith
import Derived.Deep.DeepCutAuto
namespace Go.Proofs.Ytkhlfgbfgebdeaa
open Go.RowKit Go.Shelf

theorem oldCells {W w1 : World} (hb : Below W.heap.size W w1) : (∀ b o, b < W.heap.size → w1.cell? ⟨b, o, none⟩ = W.cell? ⟨b, o, none⟩) ∧ (∀ b o, b < W.heap.size → w1.frozen? ⟨b, o, none⟩ = W.frozen? ⟨b, o, none⟩) :=
  ⟨fun b o h => hb.cell (p := ⟨b, o, none⟩) h, fun b o h => hb.frozen (p := ⟨b, o, none⟩) h⟩

/-- The grandchild's block, the child's block, the key's block, and what lies below them. -/
def TwoBox (w : World) (ka kb x0 x1 y0 y1 : BitVec 64) (b d : Nat) (V : World) : Prop :=
  HasC V d 24 #[.int .u64 (n64 y0), .int .u64 (n64 y1)] ∧ HasC V b 24 #[.int .u64 (n64 x0), .int .u64 (n64 x1)] ∧ HasC V w.heap.size 24 #[.int .u64 (n64 ka), .int .u64 (n64 kb)] ∧ Below w.heap.size w V
theorem TwoBox.on {w V V' : World} {ka kb x0 x1 y0 y1 : BitVec 64} {b d : Nat} (h : TwoBox w ka kb x0 x1 y0 y1 b d V) (hb : Below V.heap.size V V') : TwoBox w ka kb x0 x1 y0 y1 b d V' :=
  ⟨h.1.below hb h.1.lt, h.2.1.below hb h.2.1.lt, h.2.2.1.below hb h.2.2.1.lt, h.2.2.2.trans (hb.mono h.2.2.2.size)⟩
theorem same_self (x : BitVec 64) (w : World) : Calls Try.prog 18 #[.int .u64 (n64 x), .int .u64 (n64 x)] w fun e w' => e = .returned (.bool true) ∧ Below w.heap.size w w' := by
  have := same_any x x w
  simpa using this
theorem one_size (c s : ByteArray) (h : c.size = 1) : (c ++ cutB s).size ≤ maxLen := by
  have := cutB_size s
  unfold maxLen
  rw [ByteArray.size_append, h]
  omega

set_option maxHeartbeats 2000000 in
theorem halves_walk (ka kb : BitVec 64) (s : ByteArray) (hs : s.size ≤ maxLen) (t : ByteArray) (ht : t.size ≤ maxLen) (w : World) :
    Calls Try.prog 8 #[.agg #[.int .u64 (n64 ka), .int .u64 (n64 kb)], .string s, .string t] w fun e w' => e = .returned (.bool true) ∧ Below w.heap.size w w' := by
  have HS := Lib.hid hs
  have HT := Lib.hid ht
  clear hs ht
  obtain ⟨x0, hx0⟩ : ∃ x, x = sumL ka kb (({ data := #[0] } : ByteArray) ++ cutB s).data.toList := ⟨_, rfl⟩
  obtain ⟨x1, hx1⟩ : ∃ x, x = sumL ka kb (({ data := #[1] } : ByteArray) ++ cutB s).data.toList := ⟨_, rfl⟩
  have X0 := Lib.hid hx0
  have X1 := Lib.hid hx1
  have hch : ∀ W, Calls Try.prog 14 #[.agg #[.int .u64 (n64 ka), .int .u64 (n64 kb)], .string (cutB s)] W fun e w' => e = .returned (.agg #[.int .u64 (n64 x0), .int .u64 (n64 x1)]) ∧ Below W.heap.size W w' := fun W => by
    rw [hx0, hx1]
    exact child_any ka kb (cutB s) (cutB_size s) W
  have HC := Lib.hid hch
  clear hx0 hx1 hch
  obtain ⟨y0, hy0⟩ : ∃ x, x = sumL x0 x1 (({ data := #[0] } : ByteArray) ++ cutB t).data.toList := ⟨_, rfl⟩
  obtain ⟨y1, hy1⟩ : ∃ x, x = sumL x0 x1 (({ data := #[1] } : ByteArray) ++ cutB t).data.toList := ⟨_, rfl⟩
  have Y0 := Lib.hid hy0
  have Y1 := Lib.hid hy1
  clear hy0 hy1
  go_enter Try.func8, Try.ntmps8
  go_wp2_with fail
  refine (shown_any _).mono ?_
  rintro e w1 ⟨rfl, hb1⟩
  have hF : BoxAt w ka kb w1 := BoxAt.on (V := w.alloc (.cells #[.int .u64 (n64 ka), .int .u64 (n64 kb)] 24)) ⟨HasC.new _ _ _, (Below.refl _ _).alloc (Nat.le_refl _) _⟩ hb1
  clear hb1
  have e0 : w1.cell? ⟨w.heap.size, 0, none⟩ = some (.int .u64 (n64 ka)) := hF.1.cell 0
  have e1 : w1.cell? ⟨w.heap.size, 1, none⟩ = some (.int .u64 (n64 kb)) := hF.1.cell 1
  have hlt := hF.1.lt
  go_upto_region 2 with fail
  go_cut [8] (fun s8 wx => ∃ b, s8 = .pointer (some ⟨b, 0, none⟩) ∧ w.heap.size < b ∧ HasC wx b 24 #[.int .u64 (n64 x0), .int .u64 (n64 x1)] ∧ BoxAt w ka kb wx)
  case first =>
    go_region_with ((first
      | (go_at_call 12; refine (cut_any _ HS.out _).mono ?_; rintro e w' ⟨rfl, rfl⟩)
      | (go_at_call 14; refine (HC.out _).mono ?_; rintro e w2 ⟨rfl, hb2⟩; obtain ⟨hc2, hf2⟩ := oldCells hb2)))
    all_goals (go_wp2_with fail; go_meet)
    all_goals
      first
        | (refine ⟨w2.heap.size, rfl, ?_, HasC.at_ _ _ _ rfl, ?_, ?_⟩
           · have h1 := hb2.size
             have h2 : w1.heap.size ≤ w2.heap.size := h1
             omega
           · exact ((HasC.drew hF.1).below hb2 hlt).alloc _
           · exact ((hF.2.drew).trans (hb2.mono hF.2.size)).alloc (Nat.le_trans hF.2.size hb2.size) _)
        | (refine ⟨w1.heap.size, rfl, hlt, ?_, ?_, ?_⟩
           · exact HasC.eq (HasC.set (HasC.set (HasC.below (HasC.drew (HasC.new w1 24 #[.int .u64 0, .int .u64 0])) hb2 (by simp)) 0 _) 1 _) rfl
           · exact HasC.far (HasC.far (HasC.below (HasC.drew (HasC.alloc hF.1 _)) hb2 (by simp; omega)) _ _ (by simp; omega)) _ _ (by simp; omega)
           · exact ((((hF.2.alloc hF.2.size _).drew).trans (hb2.mono (Nat.le_trans hF.2.size (by simp)))).setCell (p := ⟨w1.heap.size, 0, none⟩) hF.2.size _).setCell (p := ⟨w1.heap.size, 1, none⟩) hF.2.size _)
  case rest =>
    obtain ⟨b, rfl, hlb, hCb, hF2⟩ := hcut
    clear hF e0 e1 hlt
    have hch : ∀ W, Calls Try.prog 14 #[.agg #[.int .u64 (n64 x0), .int .u64 (n64 x1)], .string (cutB t)] W fun e w' => e = .returned (.agg #[.int .u64 (n64 y0), .int .u64 (n64 y1)]) ∧ Below W.heap.size W w' := fun W => by
      rw [Y0.out, Y1.out]
      exact child_any x0 x1 (cutB t) (cutB_size t) W
    have HD := Lib.hid hch
    clear hch
    have e0 : wc.cell? ⟨b, 0, none⟩ = some (.int .u64 (n64 x0)) := hCb.cell 0
    have e1 : wc.cell? ⟨b, 1, none⟩ = some (.int .u64 (n64 x1)) := hCb.cell 1
    have hlt := hCb.lt
    go_upto_region 3 with fail
    go_cut [9] (fun s9 wx => ∃ d, s9 = .pointer (some ⟨d, 0, none⟩) ∧ TwoBox w ka kb x0 x1 y0 y1 b d wx)
    case first =>
      go_region_with ((first
        | (go_at_call 12; refine (cut_any _ HT.out _).mono ?_; rintro e w' ⟨rfl, rfl⟩)
        | (go_at_call 14; refine (HD.out _).mono ?_; rintro e w2 ⟨rfl, hb2⟩; obtain ⟨hc2, hf2⟩ := oldCells hb2)))
      all_goals (go_wp2_with fail; go_meet)
      all_goals
        have hz2 := hF2.2.size
        first
          | (refine ⟨w2.heap.size, rfl, HasC.at_ _ _ _ rfl, ?_, ?_, ?_⟩
             · exact ((HasC.drew hCb).below hb2 hlt).alloc _
             · exact ((HasC.drew hF2.1).below hb2 hF2.1.lt).alloc _
             · exact ((hF2.2.drew).trans (hb2.mono hF2.2.size)).alloc (Nat.le_trans hF2.2.size hb2.size) _)
          | (refine ⟨wc.heap.size, rfl, ?_, ?_, ?_, ?_⟩
             · exact HasC.eq (HasC.set (HasC.set (HasC.below (HasC.drew (HasC.new wc 24 #[.int .u64 0, .int .u64 0])) hb2 (by simp)) 0 _) 1 _) rfl
             · exact HasC.far (HasC.far (HasC.below (HasC.drew (HasC.alloc hCb _)) hb2 (by simp; omega)) _ _ (by simp; omega)) _ _ (by simp; omega)
             · exact HasC.far (HasC.far (HasC.below (HasC.drew (HasC.alloc hF2.1 _)) hb2 (by simp; omega)) _ _ (by simp; omega)) _ _ (by simp; omega)
             · exact ((((hF2.2.alloc hF2.2.size _).drew).trans (hb2.mono (Nat.le_trans hF2.2.size (by simp)))).setCell (p := ⟨wc.heap.size, 0, none⟩) hF2.2.size _).setCell (p := ⟨wc.heap.size, 1, none⟩) hF2.2.size _)
    case rest =>
      obtain ⟨d, rfl, hT⟩ := hcut
      clear hCb hF2 hlt e0 e1
      have S1 : Hid (∀ W, Calls Try.prog 11 #[.agg #[.int .u64 (n64 ka), .int .u64 (n64 kb)], .string (({ data := #[0] } : ByteArray) ++ cutB s)] W fun e w' => e = .returned (.int .u64 (n64 x0)) ∧ Below W.heap.size W w') := fun W => by
        rw [X0.out]
        exact sum_any ka kb _ (one_size _ _ rfl) W
      have S2 : Hid (∀ W, Calls Try.prog 11 #[.agg #[.int .u64 (n64 ka), .int .u64 (n64 kb)], .string (({ data := #[1] } : ByteArray) ++ cutB s)] W fun e w' => e = .returned (.int .u64 (n64 x1)) ∧ Below W.heap.size W w') := fun W => by
        rw [X1.out]
        exact sum_any ka kb _ (one_size _ _ rfl) W
      have S3 : Hid (∀ W, Calls Try.prog 11 #[.agg #[.int .u64 (n64 x0), .int .u64 (n64 x1)], .string (({ data := #[0] } : ByteArray) ++ cutB t)] W fun e w' => e = .returned (.int .u64 (n64 y0)) ∧ Below W.heap.size W w') := fun W => by
        rw [Y0.out]
        exact sum_any x0 x1 _ (one_size _ _ rfl) W
      have S4 : Hid (∀ W, Calls Try.prog 11 #[.agg #[.int .u64 (n64 x0), .int .u64 (n64 x1)], .string (({ data := #[1] } : ByteArray) ++ cutB t)] W fun e w' => e = .returned (.int .u64 (n64 y1)) ∧ Below W.heap.size W w') := fun W => by
        rw [Y1.out]
        exact sum_any x0 x1 _ (one_size _ _ rfl) W
      go_wp2_with fail
      refine region_class (TwoBox w ka kb x0 x1 y0 y1 b d) (by kernel_rfl) (by kernel_rfl) ⟨hT.1.drew, hT.2.1.drew, hT.2.2.1.drew, hT.2.2.2.drew⟩ ?_
      intro hne
      have e0 : ∀ i : InC (TwoBox w ka kb x0 x1 y0 y1 b d), i.w.cell? ⟨b, 0, none⟩ = some (.int .u64 (n64 x0)) := fun i => i.h.2.1.cell 0
      have e1 : ∀ i : InC (TwoBox w ka kb x0 x1 y0 y1 b d), i.w.cell? ⟨b, 1, none⟩ = some (.int .u64 (n64 x1)) := fun i => i.h.2.1.cell 1
      have e2 : ∀ i : InC (TwoBox w ka kb x0 x1 y0 y1 b d), i.w.cell? ⟨d, 0, none⟩ = some (.int .u64 (n64 y0)) := fun i => i.h.1.cell 0
      have e3 : ∀ i : InC (TwoBox w ka kb x0 x1 y0 y1 b d), i.w.cell? ⟨d, 1, none⟩ = some (.int .u64 (n64 y1)) := fun i => i.h.1.cell 1
      have e4 : ∀ i : InC (TwoBox w ka kb x0 x1 y0 y1 b d), i.w.cell? ⟨w.heap.size, 0, none⟩ = some (.int .u64 (n64 ka)) := fun i => i.h.2.2.1.cell 0
      have e5 : ∀ i : InC (TwoBox w ka kb x0 x1 y0 y1 b d), i.w.cell? ⟨w.heap.size, 1, none⟩ = some (.int .u64 (n64 kb)) := fun i => i.h.2.2.1.cell 1
      have hzs := cutB_size s
      have hzt := cutB_size t
      repeat (go_big_quiet_step ((first
        | (go_at_call_of 12 (Value.string s); refine (cut_any _ HS.out _).mono ?_; rintro e w' ⟨rfl, rfl⟩; exact ⟨rfl, ⟨_, InC.h _⟩, rfl⟩)
        | (go_at_call 12; refine (cut_any _ HT.out _).mono ?_; rintro e w' ⟨rfl, rfl⟩; exact ⟨rfl, ⟨_, InC.h _⟩, rfl⟩)
        | (go_at_call 18; refine (same_self _ _).mono ?_; rintro e w' ⟨rfl, hb⟩; exact ⟨rfl, ⟨_, TwoBox.on (InC.h _) hb⟩, rfl⟩)
        | (go_at_call 11; ((with_reducible refine (S1.out _).mono ?_); rintro e w' ⟨rfl, hb⟩; exact ⟨rfl, ⟨_, TwoBox.on (InC.h _) hb⟩, rfl⟩))
        | (go_at_call 11; ((with_reducible refine (S2.out _).mono ?_); rintro e w' ⟨rfl, hb⟩; exact ⟨rfl, ⟨_, TwoBox.on (InC.h _) hb⟩, rfl⟩))
        | (go_at_call 11; ((with_reducible refine (S3.out _).mono ?_); rintro e w' ⟨rfl, hb⟩; exact ⟨rfl, ⟨_, TwoBox.on (InC.h _) hb⟩, rfl⟩))
        | (go_at_call 11; ((with_reducible refine (S4.out _).mono ?_); rintro e w' ⟨rfl, hb⟩; exact ⟨rfl, ⟨_, TwoBox.on (InC.h _) hb⟩, rfl⟩)))))
      refine wpQuiet_nil ?_
      clear e0 e1 e2 e3 e4 e5 hne hT
      rintro ⟨w7, hF7⟩
      dsimp only
      go_wp2_with fail
      go_ret
      exact ⟨rfl, hF7.2.2.2⟩
end Go.Proofs.Ytkhlfgbfgebdeaa
