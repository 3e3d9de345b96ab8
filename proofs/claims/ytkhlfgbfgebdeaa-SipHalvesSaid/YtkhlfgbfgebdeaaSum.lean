/- Package sip's Sum: the key, the eights, the end. -/
import Derived.Test.YtkhlfgbfgebdeaaEights
import Derived.Test.YtkhlfgbfgebdeaaSumMath
import Derived.Test.YtkhlfgbfgebdeaaQuietIn
namespace Go.Proofs.Ytkhlfgbfgebdeaa
open Go.RowKit Go.Shelf
attribute [local go_sem] wrap_add wrap_sub xor_n64 or_n64

attribute [local go_sem ↓] shl_byte8

theorem ext_list (t : ByteArray) (i j : Nat) : (t.extract i j).data.toList = (t.data.toList.take j).drop i := by
  simp [ByteArray.data_extract, List.drop_take]
theorem pcs_eat : ∀ (k : Nat) (t : ByteArray), ∃ pre p, pcs k t = pre ++ [p] ∧ (∀ q ∈ pre, 8 ≤ q.size) ∧ (t.size ≤ k → p.size < 8) ∧ (∀ v, eat v pre = (eatL k v t.data.toList).1 ∧ p.data.toList = (eatL k v t.data.toList).2) := by
  intro k
  induction k with
  | zero => intro t; exact ⟨[], t, rfl, by simp, by omega, fun v => ⟨rfl, rfl⟩⟩
  | succ k ih =>
    intro t
    have hl : t.data.toList.length = t.size := by simp
    by_cases h8 : 8 ≤ t.size
    · obtain ⟨pre, p, h1, h2, h3, h4⟩ := ih (t.extract 8 t.size)
      refine ⟨t.extract 0 8 :: pre, p, by simp [pcs, h8, h1], ?_, fun h => h3 (by simp; omega), fun v => ?_⟩
      · intro q hq
        rcases List.mem_cons.1 hq with rfl | hq
        · simp; omega
        · exact h2 q hq
      · have e : (t.extract 8 t.size).data.toList = t.data.toList.drop 8 := by
          rw [ext_list, List.take_of_length_le (by omega)]
        have e0 : wd 8 (t.extract 0 8).data.toList = wd 8 t.data.toList := by
          rw [ext_list]
          exact wd_take _
        have := h4 (tk v (wd 8 t.data.toList))
        rw [e] at this
        show eat (tk v (wd 8 (t.extract 0 8).data.toList)) pre = _ ∧ _
        rw [e0]
        simp only [eatL, hl, h8, if_true]
        exact this
    · refine ⟨[], t, by simp [pcs, h8], by simp, fun _ => by omega, fun v => ?_⟩
      rw [eatL_short _ _ _ (by omega)]
      exact ⟨rfl, rfl⟩
/-- A part of the pieces that ends with one that is short is all of them. -/
theorem pcs_short {s : ByteArray} {pre : List ByteArray} {p : ByteArray} (h : pre ++ [p] <+: pcs s.size s) (hp : p.size < 8) (v : Q4) :
    eat v pre = (eatL s.size v s.data.toList).1 ∧ p.data.toList = (eatL s.size v s.data.toList).2 := by
  obtain ⟨pre', p', h1, h2, _, h4⟩ := pcs_eat s.size s
  obtain ⟨r, hr⟩ := h
  rw [h1] at hr
  rcases List.eq_nil_or_concat r with rfl | ⟨r', x, rfl⟩
  · rw [List.append_nil] at hr
    obtain ⟨e1, e2⟩ := List.append_inj' hr rfl
    rw [e1, show p = p' by simpa using e2]
    exact h4 v
  · rw [List.concat_eq_append, ← List.append_assoc] at hr
    obtain ⟨e1, _⟩ := List.append_inj' hr rfl
    have := h2 p (by rw [← e1]; simp)
    omega

theorem begin_any (ka kb : BitVec 64) (w : World) :
    Calls Try.prog 21 #[.agg #[.int .u64 (n64 ka), .int .u64 (n64 kb)]] w fun e w' => e = .returned (.agg #[.int .u64 (n64 (ini ka kb).a), .int .u64 (n64 (ini ka kb).b), .int .u64 (n64 (ini ka kb).c), .int .u64 (n64 (ini ka kb).d)]) ∧ Below w.heap.size w w' := by
  have i0 := ini0 ka
  have i1 := ini1 kb
  have i2 := ini2 ka
  have i3 := ini3 kb
  go_enter Try.func21, Try.ntmps21
  go_wp2_with fail
  refine (nums4 _ _ _ (ini ka kb) (by simp) (by rw [World.cell?_alloc_at _ _ _ _ (by simp)]; rfl) (by rw [World.cell?_alloc_at _ _ _ _ (by simp)]; rfl) (by rw [World.cell?_alloc_at _ _ _ _ (by simp)]; rfl) (by rw [World.cell?_alloc_at _ _ _ _ (by simp)]; rfl)).mono ?_
  rintro e w1 ⟨rfl, rfl⟩
  go_wp2_with fail
  exact bodyPost_ret (v := .agg #[.int .u64 (n64 (ini ka kb).a), .int .u64 (n64 (ini ka kb).b), .int .u64 (n64 (ini ka kb).c), .int .u64 (n64 (ini ka kb).d)]) (by simp [results, Try.results21, go_sem]) rfl
    ⟨rfl, (((((Below.refl _ _).alloc (by simp) _).alloc (by simp) _).alloc (by simp <;> omega) _).alloc (by simp <;> omega) _).alloc (by simp <;> omega) _⟩
attribute [local go_sem] Oper.semAt_some

set_option maxRecDepth 100000 in
set_option maxHeartbeats 400000 in
theorem sum_in (n : Nat) (hn : 3 ≤ n) (ka kb : BitVec 64) (s : ByteArray) (hs : s.size ≤ maxLen) (w : World) :
    CallsIn Fence.wide n Try.prog 11 #[.agg #[.int .u64 (n64 ka), .int .u64 (n64 kb)], .string s] w fun e W' => e = .returned (.int .u64 (n64 (sumL ka kb s.data.toList))) ∧ Below w.heap.size w W' := by
  have h1 : 1 ≤ n := by omega
  refine callsIn_of_wp_marks Try.func11 rfl trivial ?_ rfl
  simp only [Try.ntmps11, List.size_toArray, List.length_cons, List.length_nil, Nat.reduceAdd, Nat.reduceSub, Array.replicate_succ, Array.replicate_zero, List.push_toArray, List.append_toArray, List.nil_append, List.cons_append]
  gi_wp2
  refine wpIn_scope' ?_
  gi_wp2_with fail
  refine ⟨trivial, ?_⟩
  refine (callsIn_wide.2 (begin_any ka kb _)).mono ?_
  rintro e w1 ⟨rfl, hb1⟩
  gi_wp2_with fail
  refine wpIn_label ?_
  gi_wp2_with fail
  refine ⟨trivial, ?_⟩
  refine (callsIn_wide.2 (eights_any s _)).mono ?_
  rintro e w2 ⟨rfl, rfl⟩
  gi_wp2_with fail
  obtain ⟨v0, hv0⟩ : ∃ v0, v0 = ini ka kb := ⟨_, rfl⟩
  have HV := Lib.hid hv0
  rw [← hv0]
  clear hv0
  have hB0 : Below w.heap.size w w1 := ((Below.refl _ w).alloc (Nat.le_refl _) _).trans (hb1.mono (by simp))
  have hz : w.heap.size + 1 ≤ w1.heap.size := by have := hb1.size; simpa using this
  clear hb1
  refine wpIn_rangeFunc_ownF rfl h1 (gf := 28) (lb := #[.pointer (some ⟨w1.heap.size + 1 + 1, 0, none⟩)]) rfl trivial (enters_of Try.func28 (by kernel_rfl) rfl)
    (eights_stops (n - 1) (by omega) (w1.heap.size + 1 + 1) s hs _ (by simp) (by rw [World.cell?_alloc_at _ _ _ _ (by simp)]; rfl)) (fun _ _ => trivial) (fun _ _ _ _ _ _ _ _ => trivial) (Below.refl _ _) (fun _ => rfl)
    (fun pre W => (HasC W w1.heap.size 40 (cells4 (eat v0 pre)) ∧ (∃ m, HasC W (w1.heap.size + 1) 22 #[.int .u64 (n64 m)]) ∧ (∀ p ∈ pre, 8 ≤ p.size)) ∧ Below w.heap.size w W)
    (fun c pre W => (c = .exit 0 ∧ ∃ pre' p, pre = pre' ++ [p] ∧ p.size < 8 ∧ (∀ q ∈ pre', 8 ≤ q.size) ∧ HasC W w1.heap.size 40 (cells4 (eat v0 pre')) ∧ HasC W (w1.heap.size + 1) 22 #[.int .u64 (n64 (wd 8 p.data.toList))]) ∧ Below w.heap.size w W)
    (OwnFrom.and (Own.from (fun s A B row hs hg hr => ⟨own_hasC _ _ (fun pre => cells4 (eat v0 pre)) s A B row hs.1 hg hr, by obtain ⟨m, hm⟩ := hs.2.1; exact ⟨m, own_hasC _ _ (fun _ : Unit => _) () A B row hm hg hr⟩, hs.2.2⟩) _) (ownFrom_below (Nat.le_refl _) (by simp; omega)))
    (fun c => OwnFrom.and (Own.from (fun s A B row hs hg hr => by
      obtain ⟨h0, pre', p, h1, h2, h3, h4, h5⟩ := hs
      exact ⟨h0, pre', p, h1, h2, h3, own_hasC _ _ (fun _ : Unit => _) () A B row h4 hg hr, own_hasC _ _ (fun _ : Unit => _) () A B row h5 hg hr⟩) _) (ownFrom_below (Nat.le_refl _) (by simp; omega)))
    ⟨⟨HasC.alloc (HasC.alloc (HasC.new _ _ _) _) _, ⟨0#64, HasC.alloc (HasC.at_ _ _ _ (by simp)) _⟩, by simp⟩, ((hB0.alloc hB0.size _).alloc (by simp; omega) _).alloc (by simp; omega) _⟩
    (fun x => { tmps := #[Value.agg #[Value.int IntKind.u64 (n64 ka), Value.int IntKind.u64 (n64 kb)], Value.string s,
          Value.pointer (some { block := w.heap.size, off := 0 }), undef, Value.int IntKind.u64 0,
          Value.pointer (some { block := w1.heap.size, off := 0 }),
          Value.pointer (some { block := w1.heap.size + 1, off := 0 }), .string x, undef,
          Value.agg #[Value.int IntKind.u64 (n64 ka), Value.int IntKind.u64 (n64 kb)],
          Value.agg
            #[Value.int IntKind.u64 (n64 v0.a), Value.int IntKind.u64 (n64 v0.b),
              Value.int IntKind.u64 (n64 v0.c), Value.int IntKind.u64 (n64 v0.d)],
          Value.string s,
          Value.func (Fn.func 28) #[] #[Value.pointer (some { block := w1.heap.size + 1 + 1, off := 0 })], .string x, undef, undef, undef, undef, undef, undef, undef, undef, undef, undef, undef, undef, undef, undef, undef, undef, undef, undef, undef, undef, undef, undef, undef, undef, undef, undef, undef, undef], defers := [] }) ?assign ?body ?done ?stop
  case assign =>
    intro l x W K hK
    gi_wp2
    exact hK
  case body =>
    rintro l pre x W ⟨⟨hC, ⟨m0, hM⟩, hall⟩, hB⟩ _
    have c0 : W.cell? ⟨w1.heap.size + 1, 0, none⟩ = some (.int .u64 (n64 m0)) := hM.cell 0
    have z0 := hM.frozen 0
    gi_wp2
    gi_loopw [14] (fun i wr => ∃ k : Nat, k ≤ 8 ∧ k ≤ x.size ∧ i = .int .i64 k ∧ HasC wr (w1.heap.size + 1) 22 #[.int .u64 (n64 (wd k x.data.toList))] ∧ Only (w1.heap.size + 1) W wr) (fun i _ => 8 - (intOf i).toNat)
    case atStart => exact ⟨0, by omega, by omega, rfl, HasC.eq (hM.set 0 _) rfl, (Only.refl _ _).set 0 _⟩
    case round =>
      obtain ⟨k, hk8, hks, rfl, hM', hO⟩ := hrel
      have c1 : wr.cell? ⟨w1.heap.size + 1, 0, none⟩ = some (.int .u64 (n64 (wd k x.data.toList))) := hM'.cell 0
      have z1 := hM'.frozen 0
      by_cases hlt : k < 8
      · by_cases hkx : k < x.size
        · gi_wp2
          refine region_tailIn 9 (fun V => HasC V (w1.heap.size + 1) 22 #[.int .u64 (n64 (wd k x.data.toList))] ∧ Only (w1.heap.size + 1) W V) (by kernel_rfl) (by kernel_rfl) (by kernel_rfl) ⟨hM'.drew, hO.drew⟩ ?_
          intro hne
          have e0 : ∀ i : InC (fun V => HasC V (w1.heap.size + 1) 22 #[.int .u64 (n64 (wd k x.data.toList))] ∧ Only (w1.heap.size + 1) W V), i.w.cell? ⟨w1.heap.size + 1, 0, none⟩ = some (.int .u64 (n64 (wd k x.data.toList))) := fun i => i.h.1.cell 0
          simp only [List.take_succ_cons, List.take_zero, List.drop_succ_cons, List.drop_zero]
          repeat (go_big_quiet_step (fail))
          refine wpQuiet_nil ?_
          clear e0 hne
          rintro ⟨w2, hM2, hO2⟩
          dsimp only
          have c2 : w2.cell? ⟨w1.heap.size + 1, 0, none⟩ = some (.int .u64 (n64 (wd k x.data.toList))) := hM2.cell 0
          have z2 := hM2.frozen 0
          gi_wp2
          have e : bits .or .u64 (n64 (wd k x.data.toList)) (IntKind.u64.wrap (IntKind.u64.wrap (x[k].toNat : Int) * 2 ^ (8 * k))) = n64 (wd (k + 1) x.data.toList) := by
            rw [wrap_byte, byte_shl, or_n64, wd_next _ _ (by simpa using hkx)]
            rfl
          go_roundw
          case rel => exact ⟨k + 1, by omega, by omega, by go_num, HasC.eq (hM2.set 0 _) (by rw [← e]; rfl), hO2.set 0 _⟩
          case measure => simp [intOf]; omega
        · gi_wp2
          refine ⟨KeepsOthers.of_grownBy hO.by_ (fun j o e ho => ?_), ⟨rfl, pre, x, rfl, by omega, hall, hC.only hO.by_ (by omega), hM'.eq ?_⟩, hO.below hB hB.size (by omega)⟩
          · cases e
            rw [show _ = _ from hM] at ho
            cases ho
            rfl
          · rw [wd_full _ k (by simp; omega) hk8]
      · obtain rfl : k = 8 := by omega
        have hC' := hC.only hO.by_ (by omega)
        gi_wp2_with fail
        refine ⟨trivial, fun _ => by omega, ?_⟩
        refine (CallsIn.inRound l (callsIn_wide.2 (take_any w1.heap.size 40 (eat v0 pre) (wd 8 x.data.toList) wr hC'))).mono ?_
        rintro e w3 ⟨rfl, h4, ho⟩
        gi_wp2
        have hM3 := hM'.only ho.by_ (by omega)
        refine ⟨?_, trivial, ⟨?_, ⟨_, hM3⟩, ?_⟩, ho.below (hO.below hB hB.size (by omega)) (by have := hO.size; have := hB.size; omega) (by omega)⟩
        · refine (KeepsOthers.of_grownBy hO.by_ (fun j o e ho => ?_)).trans (KeepsOthers.of_grownBy ho.by_ (fun j o e ho => ?_))
          · cases e
            rw [show _ = _ from hM] at ho
            cases ho
            rfl
          · cases e
            rw [show _ = _ from hC'] at ho
            cases ho
            rfl
        · rw [eat_snoc]
          exact h4
        · intro p hp
          rcases List.mem_append.1 hp with hp | hp
          · exact hall p hp
          · obtain rfl : p = x := by simpa using hp
            exact hks
  case done =>
    rintro D ys V hD rfl ⟨⟨_, _, hall⟩, _⟩ hK
    obtain ⟨pre', p', h1, _, h3, _⟩ := pcs_eat s.size s
    have := hall p' (by rw [h1]; simp)
    have := h3 (Nat.le_refl _)
    omega
  case stop =>
    rintro D c pre V hD hpre ⟨⟨rfl, pre', p, rfl, hp, hq, hC, hM⟩, hB⟩ hK
    have hE := pcs_short hpre hp v0
    have c0 : V.cell? ⟨w1.heap.size + 1, 0, none⟩ = some (.int .u64 (n64 (wd 8 p.data.toList))) := hM.cell 0
    have HE := Lib.hid hE
    clear hE
    have hl := last_or p.data.toList s.size
    gi_wp2_with fail
    refine ⟨trivial, ?_⟩
    refine (callsIn_wide.2 (take_any w1.heap.size 40 (eat v0 pre') (lastW p.data.toList s.size) V hC)).mono ?_
    rintro e w3 ⟨rfl, h4, ho⟩
    clear hl c0
    gi_wp2_with fail
    refine ⟨trivial, ?_⟩
    refine (callsIn_wide.2 (end_any w1.heap.size 40 (tk (eat v0 pre') (lastW p.data.toList s.size)) w3 h4)).mono ?_
    rintro e w4 ⟨rfl, ho2⟩
    have hz2 := hB.size
    have hz3 := ho.size
    have hz4 := ho2.size
    have hD' : w1.heap.size < D ∧ D < V.heap.size := ⟨by simp at hD; omega, (Array.getElem?_eq_some_iff.1 hK).1⟩
    have hK4 : w4.heap[D]? = some (.deferred (some [])) := (ho2.by_.block D (by omega) (fun e => by cases e; omega)).trans ((ho.by_.block D (by omega) (fun e => by cases e; omega)).trans hK)
    have hB4 : Below w.heap.size w w4 := ho2.below (ho.below hB hB.size (by omega)) (by omega) (by omega)
    gi_wp2
    refine ⟨by simp, .inl ⟨_, _, rfl, run_takeDeferred hK4, ?_⟩⟩
    refine ⟨_, results_tmp rfl _ _ _, ?_, hB4.trans (belowK_b (w := w) (Nat.le_refl _) w4 D _ _ (by omega) hK4 rfl rfl)⟩
    have hE := HE.out
    have e : n64 (fin (tk (eat v0 pre') (lastW p.data.toList s.size))) = n64 (sumL ka kb s.data.toList) := by
      rw [hE.1, hE.2, HV.out]
      unfold sumL
      simp
    show Ending.returned (Value.int IntKind.u64 (n64 (fin (tk (eat v0 pre') (lastW p.data.toList s.size))))) = _
    rw [e]

/-- Sum, at every key and every text. -/
theorem sum_any (ka kb : BitVec 64) (s : ByteArray) (hs : s.size ≤ maxLen) (w : World) :
    Calls Try.prog 11 #[.agg #[.int .u64 (n64 ka), .int .u64 (n64 kb)], .string s] w fun e W' => e = .returned (.int .u64 (n64 (sumL ka kb s.data.toList))) ∧ Below w.heap.size w W' :=
  callsIn_wide.1 (sum_in 3 (by decide) ka kb s hs w)

end Go.Proofs.Ytkhlfgbfgebdeaa
