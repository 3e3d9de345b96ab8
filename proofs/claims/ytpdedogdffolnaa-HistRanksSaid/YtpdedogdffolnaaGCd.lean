/- Package hist: done: the histogram of what is at work. Package hist: coarsen: one digit less. Package hist: begin: all parts' values at work. Package hist: tell: values more. -/
import Derived.Test.YtpdedogdffolnaaGCc
import Derived.Test.YtpdedogdffolnaaCRange
namespace Go.Proofs.Ytpdedogdffolnaa
open Go.RowKit Go.Shelf Go.Maps
attribute [local go_sem] Oper.semAt_some

/-- A histogram in a cell: what is returned. -/
theorem gResult_hist {fn : Func} {p : Tmp} (h : fn.results = #[.cell p 25]) (tmps : Array Value) (w : World) (g : Nat) (a b : Value)
    (hp : tmps.getD p undef = .pointer (some ⟨g, 0, none⟩)) (hg : HasC w g 25 #[a, b]) : (results fn tmps).run Try.prog w = .ok (.agg #[a, b]) w :=
  results_cell_row h tmps w g 25 #[a, b] (0, 0) _ hp hg Try.underlying25 rfl (by kernel_rfl)
/-- A row of bins of its own, under an iterator's steps, and the loop's. -/
theorem owns_kp {B B' : Nat} {v : Value} {n : Nat} {xs : List Value} {W W' : World} (h : W.ownsRow B 68 2 v n xs) (hk : Kp B' W W') : W'.ownsRow B 68 2 v n xs := by
  rcases h.2 with ⟨hv, h0⟩ | ⟨g, cap, cur, hv, hB, hg, h1⟩
  · exact ⟨h.1, .inl ⟨hv, h0⟩⟩
  · exact ⟨h.1, .inr ⟨g, cap, cur, hv, hB, hk.2.2 g _ hg ⟨_, _, rfl⟩, h1⟩⟩
theorem owns_loop {B l : Nat} {v : Value} {n : Nat} {xs : List Value} {W : World} {o : Obj} (h : W.ownsRow B 68 2 v n xs) (ho : W.heap[l]? = some o) (hr : ¬ BinRow o) (o' : Obj) : (W.putObj l o').ownsRow B 68 2 v n xs := by
  rcases h.2 with ⟨hv, h0⟩ | ⟨g, cap, cur, hv, hB, hg, h1⟩
  · exact ⟨h.1, .inl ⟨hv, h0⟩⟩
  · refine ⟨h.1, .inr ⟨g, cap, cur, hv, hB, (World.putObj_heap_other (fun e => ?_)).trans hg, h1⟩⟩
    subst e
    rw [ho] at hg
    cases hg
    exact hr ⟨_, _, rfl⟩
theorem owns_set {B : Nat} {v : Value} {n : Nat} {xs : List Value} {W : World} (h : W.ownsRow B 68 2 v n xs) (p : Addr) (u : Value) (hp : p.block < B) : (W.setCell p u).ownsRow B 68 2 v n xs := by
  rcases h.2 with ⟨hv, h0⟩ | ⟨g, cap, cur, hv, hB, hg, h1⟩
  · exact ⟨h.1, .inl ⟨hv, h0⟩⟩
  · exact ⟨h.1, .inr ⟨g, cap, cur, hv, hB, (Below.heap_setCell W p u g (by omega)).trans hg, h1⟩⟩
theorem owns_row {B : Nat} {v : Value} {n : Nat} {xs : List Value} {W : World} (h : W.ownsRow B 68 2 v n xs) : ∀ r o, v.ownBlock = some r → W.heap[r]? = some o → BinRow o := by
  intro r o hr ho
  rcases h.2 with ⟨hv, _⟩ | ⟨g, cap, cur, hv, hB, hg, _⟩
  · rw [hv] at hr; cases hr
  · rw [hv] at hr
    cases hr
    rw [hg] at ho
    cases ho
    exact ⟨_, _, rfl⟩
theorem owns_form {B : Nat} {v : Value} {n : Nat} {xs : List Value} {W : World} (h : W.ownsRow B 68 2 v n xs) : ∃ a c, v = .slice a n c := by
  rcases h.2 with ⟨hv, h0⟩ | ⟨g, cap, cur, hv, _⟩
  · exact ⟨none, 0, by rw [hv, h0]⟩
  · exact ⟨_, _, hv⟩

theorem grown_has {b : Nat} {T : TypeId} {cs : Array Value} {W W' : World} {row : Option Nat} (h : HasC W b T cs) (hg : W.grownBy W' row) (hr : ∀ r, row = some r → b < r) : HasC W' b T cs :=
  (hg.block b h.lt (fun e => by have := hr b e.symm; omega)).trans h
set_option maxHeartbeats 4000000 in
set_option maxRecDepth 100000 in
theorem gDone_in (n : Nat) (h3 : 12 ≤ n) (gW b : Nat) (f : Int) (L : List Bn) (w : World) (hW : WkG w gW b f) (hM : CtM w b L) (hn : L.length ≤ 1000) :
    CallsIn Fence.wide n Try.prog 51 #[.pointer (some ⟨gW, 0, none⟩)] w fun e w' => (∃ v, e = .returned (hgV f v) ∧ BinSl w' v L) ∧ Below w.heap.size w w' := by
  obtain ⟨m, hm⟩ : ∃ m, m = L.length := ⟨_, rfl⟩
  have HM := Lib.hid hm
  have HMM := Lib.hid hM
  have HWK := Lib.hid hW
  have hgl := hW.lt
  have hbl := hM.lt
  have cW := hW.cell 1
  rw [← hm] at hn
  clear hm hM
  refine callsIn_of_wp_marks Try.func51 rfl trivial ?_ rfl
  simp only [Try.ntmps51, List.size_toArray, List.length_cons, List.length_nil, Nat.reduceAdd, Nat.reduceSub, Array.replicate_succ, Array.replicate_zero, List.push_toArray, List.append_toArray, List.nil_append, List.cons_append]
  gi_wp2_with fail
  refine ⟨trivial, fun _ => by omega, ?_⟩
  refine (callsIn_wide.2 (gRising_any _ _)).mono ?_
  rintro e w2 ⟨rfl, rfl⟩
  gi_wp2_with fail
  obtain ⟨W0, hW0⟩ : ∃ W0, W0 = ((w.alloc (.cells #[.int .i64 0, .slice none 0 0] 25)).alloc (.cells #[.int .i64 f, .slice none 0 0] 25)).alloc (.cells #[.pointer (some ⟨gW, 0, none⟩)] 78) := ⟨_, rfl⟩
  have hz0 : W0.heap.size = w.heap.size + 3 := by rw [hW0]; simp
  have hb0 : Below w.heap.size w W0 := by
    rw [hW0]
    exact (((Below.refl _ w).alloc (Nat.le_refl _) _).alloc (by simp) _).alloc (by simp; omega) _
  have hR0 : HasC W0 w.heap.size 25 #[.int .i64 0, .slice none 0 0] := by rw [hW0]; exact ((HasC.new w _ _).alloc _).alloc _
  have hX0 : HasC W0 (w.heap.size + 1) 25 #[.int .i64 f, .slice none 0 0] := by rw [hW0]; exact (HasC.at_ _ _ _ (by simp)).alloc _
  have hP0 : HasC W0 (w.heap.size + 2) 78 #[.pointer (some ⟨gW, 0, none⟩)] := by rw [hW0]; exact HasC.at_ _ _ _ (by simp)
  rw [← hW0]
  clear hW0 hW cW
  have hkp : ∀ {V V' : World}, Kp (W0.heap.size + 2) V V' → Below w.heap.size V V' := fun h => h.1.mono (by omega)
  refine range_fnP (by omega) (rise_it (w.heap.size + 2) gW b L (by have := HM.out; omega)) (enters_of Try.func66 (by kernel_rfl) rfl) rfl (fun _ => rfl)
    (fun k V => Below w.heap.size w V ∧ HasC V w.heap.size 25 #[.int .i64 0, .slice none 0 0] ∧ HasC V (w.heap.size + 2) 78 #[.pointer (some ⟨gW, 0, none⟩)] ∧ ∃ v, HasC V (w.heap.size + 1) 25 #[.int .i64 f, v] ∧ V.ownsRow (w.heap.size + 3) 68 2 v k (cellsB (L.take k)))
    (fun _ _ => False)
    (fun k V V' h hb => ⟨h.1.trans (hkp hb), h.2.1.below hb.1 (by omega), h.2.2.1.below hb.1 (by omega), by obtain ⟨v, h1, h2⟩ := h.2.2.2; exact ⟨v, h1.below hb.1 (by omega), owns_kp h2 hb⟩⟩)
    (fun _ _ _ h _ => h) ?_ ?_ ?_ ?_ ?_ ?_ ?_
  · rintro k V ⟨hb, hR, hP, v, hX, ho⟩
    have hMV := HMM.out.below hb hbl
    exact ⟨hP.cell 0, (HWK.out.below hb hgl).cell 0, fun _ => hMV, fun hk => ⟨L, hMV, cnt_mem hMV.1 _ (List.getElem_mem hk)⟩⟩
  · rintro k V lo o ⟨hb, hR, hP, v, hX, ho⟩ hLp
    exact ⟨below_put hb _ _ (by omega), hR.put (by omega) _, hP.put (by omega) _, v, hX.put (by omega) _, owns_loop ho hLp.2 (loop_row _) _⟩
  · rintro c V lo o h
    exact h.elim
  · intro o
    have hk : Below W0.heap.size W0 ((W0.alloc (.deferred (some []))).alloc (.loop o)) := ((Below.refl _ W0).alloc (Nat.le_refl _) _).alloc (by simp) _
    exact ⟨hb0.trans (hk.mono hb0.size), hR0.below hk hR0.lt, hP0.below hk hP0.lt, _, hX0.below hk hX0.lt, World.ownsRow_nil _ _ _ _⟩
  · rintro k hk V ⟨hb, hR, hP, v, hX, ho⟩ hzV rd bz hLp
    have hkm : k < m := by have := HM.out; omega
    have htk := Lib.hid (show cellsB (L.take (k + 1)) = cellsB (L.take k) ++ cellsB [L[k]] by rw [List.take_succ_eq_append_getElem hk, cellsB_app])
    obtain ⟨x, hx⟩ : ∃ x, x = L[k] := ⟨_, rfl⟩
    rw [← hx] at htk ⊢
    obtain ⟨xa, xn⟩ := x
    dsimp only [encU]
    obtain ⟨va, vc, rfl⟩ := owns_form ho
    have HLP := Lib.hid hLp
    have ho1 := owns_loop ho hLp.2 (loop_row _) (.loop bz)
    have hkr1 : Kr (W0.heap.size + 2) V (V.putObj (W0.heap.size + 1) (.loop bz)) := Kr.put _ (by omega)
    have hb1 := below_put hb (W0.heap.size + 1) (.loop bz) (by omega)
    have hR1 := hR.put (L := W0.heap.size + 1) (by omega) (.loop bz)
    have hP1 := hP.put (L := W0.heap.size + 1) (by omega) (.loop bz)
    have hX1 := hX.put (L := W0.heap.size + 1) (by omega) (.loop bz)
    have hL1 := hLp.put (.loop bz)
    have hz1 : w.heap.size + 5 ≤ (V.putObj (W0.heap.size + 1) (.loop bz)).heap.size := by simp; omega
    have HZ := Lib.hid hz0
    have HK := Lib.hid hk
    clear hb hR hP hX ho hLp hR0 hX0 hP0 hb0 hx hzV hz0 hk hkp
    gi_wp2_with fail
    refine ⟨HLP.out, ?_⟩
    obtain ⟨V1, hV1⟩ : ∃ V1, V1 = V.putObj (W0.heap.size + 1) (.loop bz) := ⟨_, rfl⟩
    rw [← hV1] at ho1 hkr1 hb1 hR1 hP1 hX1 hL1 hz1 ⊢
    clear hV1
    have x1 := hX1.cell 1
    have hoa : (V1.alloc (.cells #[.int .i64 xa, gV xn] 68)).ownsRow (w.heap.size + 3) 68 2 (.slice va k vc) k (cellsB (L.take k)) := owns_kp ho1 (Kp.of_below (B := 0) ((Below.refl _ V1).alloc (Nat.le_refl _) _) (Nat.zero_le _))
    have hsrc : SrcB (V1.alloc (.cells #[.int .i64 xa, gV xn] 68)) (.slice (some ⟨V1.heap.size, 0, none⟩) 1 1) 1 (cellsB [(xa, xn)]) := by
      have hc := HasC.new V1 68 #[.int .i64 xa, gV xn]
      exact SrcB.of_bin (L := [(xa, xn)]) (.inr ⟨V1.heap.size, 0, 1, rfl, Nat.le_refl _, by simp, fun j hj => by
        obtain rfl : j = 0 := by simpa using hj
        exact ⟨hc.cell 0, hc.cell 1⟩⟩)
    have hXa : HasC (V1.alloc (.cells #[.int .i64 xa, gV xn] 68)) (w.heap.size + 1) 25 #[.int .i64 f, .slice va k vc] := hX1.alloc _
    gi_wp2_with (refine wpListIn_appB _ rfl (.tmp 16) (.tmp 20) rfl (w.heap.size + 3) (.slice va k vc) k (cellsB (L.take k)) rfl hoa (.slice (some ⟨V1.heap.size, 0, none⟩) 1 1) 1 (cellsB [(xa, xn)]) rfl hsrc (by omega) (by simp; omega) ?_; intro v2 w2 hown2 hgrow2; obtain ⟨a2, c2, rfl⟩ := owns_form hown2; have hX2 := grown_has hXa hgrow2 (fun r hr => by have := owns_blockB hoa r hr; omega); have z2 := hX2.frozen 1; have y2 := hX2.cell 1)
    have hz0 := HZ.out
    have hba : Below w.heap.size w (V1.alloc (.cells #[.int .i64 xa, gV xn] 68)) := hb1.alloc (by omega) _
    have hgb : ∀ r, (Value.slice va k vc).ownBlock = some r → w.heap.size + 3 ≤ r := owns_blockB hoa
    have hb2 : Below w.heap.size w w2 := hba.grown hgrow2 (by simp; omega) (fun r hr => by have := hgb r hr; omega)
    have hR2 := grown_has (hR1.alloc (.cells #[.int .i64 xa, gV xn] 68)) hgrow2 (fun r hr => by have := hgb r hr; omega)
    have hP2 := grown_has (hP1.alloc (.cells #[.int .i64 xa, gV xn] 68)) hgrow2 (fun r hr => by have := hgb r hr; omega)
    have hL2 : Lp W0.heap.size (.loop bz) w2 := by
      have hLa := hL1.alloc (.cells #[.int .i64 xa, gV xn] 68)
      have hne : ∀ (l : Nat) (o : Obj), (V1.alloc (.cells #[.int .i64 xa, gV xn] 68)).heap[l]? = some o → ¬ BinRow o → w2.heap[l]? = some o := fun l o hl hno =>
        (hgrow2.block l (Array.getElem?_eq_some_iff.1 hl).1 (fun e => hno (owns_row hoa l o e.symm hl))).trans hl
      exact ⟨hne _ _ hLa.1 (def_row _), hne _ _ hLa.2 (loop_row _)⟩
    have hkr2 : Kr (W0.heap.size + 2) V w2 := (hkr1.trans (Kr.of_below ((Below.refl _ V1).alloc (Nat.le_refl _) _))).trans (Kr.of_row hgrow2 (owns_row hoa))
    have hX3 : HasC (w2.setCell ⟨w.heap.size + 1, 1, none⟩ (.slice a2 (k + 1) c2)) (w.heap.size + 1) 25 #[.int .i64 f, .slice a2 (k + 1) c2] := (hX2.set 1 _).eq rfl
    have hown3 := owns_set hown2 ⟨w.heap.size + 1, 1, none⟩ (.slice a2 (k + 1) c2) (by simp)
    rw [← htk.out] at hown3
    refine ⟨hL2.set _ _ (by simp; omega) (by simp; omega), ⟨hb2.setCell (p := ⟨w.heap.size + 1, 1, none⟩) (by simp) _, hR2.far _ _ (by simp), hP2.far _ _ (by simp), _, hX3, hown3⟩, hkr2.trans (Kr.set _ (by simp; omega))⟩
  · rintro V ⟨hb, hR, hP, v, hX, ho⟩ hK
    rw [List.take_of_length_le (Nat.le_refl _)] at ho
    have hbs := binSl_of_owns ho
    obtain ⟨va, vc, rfl⟩ := owns_form ho
    have c0 := hX.cell 0
    have c1 := hX.cell 1
    have r0 := hR.cell 0
    have r1 := hR.cell 1
    have z0 := hR.frozen 0
    have z1 := hR.frozen 1
    have hof := owns_set (owns_set ho ⟨w.heap.size, 0, none⟩ (.int .i64 f) (by simp)) ⟨w.heap.size, 1, none⟩ (.slice va L.length vc) (by simp)
    have HOF := Lib.hid hof
    have HZ := Lib.hid hz0
    clear hR0 hX0 hP0 hb0 hP hbs ho hof hz0
    gi_wp2_with fail
    have hz0 := HZ.out
    have hKf : ((V.setCell ⟨w.heap.size, 0, none⟩ (.int .i64 f)).setCell ⟨w.heap.size, 1, none⟩ (.slice va L.length vc)).heap[W0.heap.size]? = some (.deferred (some [])) :=
      (Below.heap_setCell _ ⟨w.heap.size, 1, none⟩ _ W0.heap.size (by simp; omega)).trans ((Below.heap_setCell V ⟨w.heap.size, 0, none⟩ _ W0.heap.size (by simp; omega)).trans hK)
    have hRf : HasC ((V.setCell ⟨w.heap.size, 0, none⟩ (.int .i64 f)).setCell ⟨w.heap.size, 1, none⟩ (.slice va L.length vc)) w.heap.size 25 #[.int .i64 f, .slice va L.length vc] := ((hR.set 0 _).set 1 _).eq rfl
    have hbf := (hb.setCell (p := ⟨w.heap.size, 0, none⟩) (by simp) (.int .i64 f)).setCell (p := ⟨w.heap.size, 1, none⟩) (by simp) (.slice va L.length vc)
    refine ⟨by simp, .inl ⟨_, _, rfl, run_takeDeferred (b := W0.heap.size) hKf, ?_⟩⟩
    exact ⟨_, gResult_hist rfl _ _ w.heap.size _ _ rfl (hRf.put (L := W0.heap.size) (by omega) _), ⟨_, rfl, binSl_of_owns (owns_loop HOF.out hKf (def_row _) _)⟩, below_put hbf _ _ (by omega)⟩
  · rintro c V h
    exact h.elim
end Go.Proofs.Ytpdedogdffolnaa
namespace Go.Proofs.Ytpdedogdffolnaa
open Go.RowKit Go.Shelf Go.Maps
attribute [local go_sem] Oper.semAt_some

/-- One digit less, bucket by bucket. -/
def coaB (a : Int) : Int := (((a.toNat + 1) / 2 : Nat) : Int)
def coaP (L : List Bn) : List Bn := L.foldl (fun P y => putBn P (coaB y.1) y.2) []
theorem coa_next {L : List Bn} {k : Nat} (hk : k < L.length) : coaP (L.take (k + 1)) = putBn (coaP (L.take k)) (coaB L[k].1) L[k].2 := by
  unfold coaP
  rw [List.take_succ_eq_append_getElem hk, List.foldl_append]
  rfl
theorem coa_le {a : Int} (h : 0 ≤ a) : coaB a ≤ a := by unfold coaB; omega
theorem coa_low {f : Nat} (h0 : f ≠ 0) (hf : f ≤ 3) {L : List Bn} (ho : ∀ y ∈ L, 0 ≤ y.1 ∧ okP f y.1.toNat = true) : coaP L = lowG f L := by
  have : ∀ (L : List Bn) (P : List Bn), (∀ y ∈ L, 0 ≤ y.1 ∧ okP f y.1.toNat = true) → L.foldl (fun P y => putBn P (coaB y.1) y.2) P = L.foldl (fun x y => putBn x (bktP (f - 1) (loP f y.1.toNat) : Int) y.2) P := by
    intro L
    induction L with
    | nil => intro P _; rfl
    | cons y t ih =>
      intro P h
      rw [List.foldl_cons, List.foldl_cons, ih _ fun z hz => h z (List.mem_cons_of_mem _ hz)]
      congr 1
      unfold coaB
      rw [coarse_ok h0 hf (h y (List.mem_cons_self ..)).2]
  exact this L [] ho
/-- Buckets of the first ones, lowered: none beyond. -/
theorem coa_mem {L : List Bn} : ∀ {P : List Bn} {z : Bn}, z ∈ L.foldl (fun P y => putBn P (coaB y.1) y.2) P → z ∈ P ∨ ∃ y ∈ L, z.1 = coaB y.1 := by
  induction L with
  | nil => intro P z h; exact .inl h
  | cons y t ih =>
    intro P z h
    rw [List.foldl_cons] at h
    rcases ih h with h1 | ⟨x, hx, e⟩
    · rcases putBn_mem h1 with e | h2
      · exact .inr ⟨y, List.mem_cons_self .., e⟩
      · exact .inl h2
    · exact .inr ⟨x, List.mem_cons_of_mem _ hx, e⟩
theorem riseG_lt {L : List Bn} (h : RiseG L) : ∀ {i j : Nat} (hj : j < L.length) (hij : i < j), (L[i]'(by omega)).1 < L[j].1 := by
  induction L with
  | nil => intro i j hj; simp at hj
  | cons y t ih =>
    intro i j hj hij
    cases j with
    | zero => omega
    | succ j =>
      cases i with
      | zero => exact h.1 _ (List.getElem_mem _)
      | succ i => exact ih h.tail (by simpa using hj) (by omega)
theorem riseG_drop {L : List Bn} (h : RiseG L) {k : Nat} (hk : k < L.length) : ∀ y ∈ L.drop (k + 1), L[k].1 < y.1 := by
  intro y hy
  obtain ⟨j, hj, rfl⟩ := List.getElem_of_mem hy
  rw [List.getElem_drop]
  rw [List.length_drop] at hj
  exact riseG_lt h (by omega) (by omega)
theorem coa_small {L : List Bn} (h : RiseG L) (hk0 : KeysB L) {k : Nat} (hk : k < L.length) : ∀ y ∈ coaP (L.take k), y.1 < L[k].1 := by
  intro y hy
  rcases coa_mem hy with h1 | ⟨x, hx, e⟩
  · cases h1
  · obtain ⟨j, hj, rfl⟩ := List.getElem_of_mem hx
    rw [List.length_take] at hj
    rw [List.getElem_take] at e
    have h1 := riseG_lt h hk (show j < k by omega)
    have h2 := (hk0 _ (List.getElem_mem (show j < L.length by omega))).1
    have := coa_le h2
    omega
/-- The bucket at work is taken away. -/
theorem coa_del {L : List Bn} (h : RiseG L) (hk0 : KeysB L) {k : Nat} (hk : k < L.length) : delBn (coaP (L.take k) ++ L.drop k) L[k].1 = coaP (L.take k) ++ L.drop (k + 1) := by
  unfold delBn
  rw [List.drop_eq_getElem_cons hk, List.filter_append, List.filter_cons_of_neg (by simp)]
  congr 1
  · refine List.filter_eq_self.2 fun y hy => ?_
    have := coa_small h hk0 hk y hy
    exact decide_eq_true (by omega)
  · refine List.filter_eq_self.2 fun y hy => ?_
    have := riseG_drop h hk y hy
    exact decide_eq_true (by omega)
theorem put_app {R : List Bn} {c : Int} {n : Nat} (h : ∀ y ∈ R, c < y.1) : ∀ P : List Bn, putBn (P ++ R) c n = putBn P c n ++ R := by
  have : ∀ P : List Bn, putG (P ++ R) c n = putG P c n ++ R := by
    intro P
    induction P with
    | nil =>
      rw [List.nil_append]
      cases R with
      | nil => rfl
      | cons y t =>
        have := h y (List.mem_cons_self ..)
        show putG (y :: t) c n = (c, n) :: y :: t
        unfold putG
        rw [if_neg (by omega), if_neg (by omega)]
    | cons x t ih =>
      rw [List.cons_append]
      unfold putG
      split
      · rw [ih]; rfl
      · split <;> rfl
  intro P
  unfold putBn
  split
  · rfl
  · exact this P
theorem coa_put {L : List Bn} (h : RiseG L) (hk0 : KeysB L) {k : Nat} (hk : k < L.length) : putBn (coaP (L.take k) ++ L.drop (k + 1)) (coaB L[k].1) L[k].2 = coaP (L.take (k + 1)) ++ L.drop (k + 1) := by
  rw [coa_next hk]
  refine put_app (fun y hy => ?_) _
  have h1 := riseG_drop h hk y hy
  have h2 := (hk0 _ (List.getElem_mem hk)).1
  have := coa_le h2
  omega
theorem Lp.grown {D b : Nat} {o : Obj} {W W' : World} (h : Lp D o W) (hg : W.grownBy W' (some b)) (h1 : D ≠ b) (h2 : D + 1 ≠ b) : Lp D o W' :=
  ⟨(hg.block D (Array.getElem?_eq_some_iff.1 h.1).1 (fun e => h1 (Option.some.inj e))).trans h.1, (hg.block (D + 1) h.lt (fun e => h2 (Option.some.inj e))).trans h.2⟩

set_option maxHeartbeats 4000000 in
set_option maxRecDepth 100000 in
theorem gCoarsen_in (n : Nat) (h3 : 12 ≤ n) (B0 gW b : Nat) (f : Int) (L : List Bn) (w : World) (hW : WkG w gW b f) (hM : CtM w b L) (hn : L.length ≤ 1000) (hB1 : B0 ≤ gW) (hB2 : B0 ≤ b) (hgb : gW ≠ b) (hf : smallI (f - 1)) (_hf2 : smallI f) :
    CallsIn Fence.wide n Try.prog 55 #[.pointer (some ⟨gW, 0, none⟩)] w fun e w' => (∃ v, e = .returned v) ∧ WkG w' gW b (f - 1) ∧ CtM w' b (coaP L) ∧ Below B0 w w' ∧ w.heap.size ≤ w'.heap.size := by
  obtain ⟨m, hm⟩ : ∃ m, m = L.length := ⟨_, rfl⟩
  have HM := Lib.hid hm
  have hgl := hW.lt
  have hbl := hM.lt
  have hri := hM.1
  have hkb := hM.2.1
  have hM0 : Hid (CtM w b (coaP (L.take 0) ++ L.drop 0)) := by rw [List.take_zero, List.drop_zero]; exact hM
  have HWK := Lib.hid hW
  rw [← hm] at hn
  have hwf : wrap64 (f - 1) = f - 1 := by unfold smallI at hf; exact wrap64_9 (by omega) (by omega)
  have HWF := Lib.hid hwf
  clear hm hM hW hwf
  refine callsIn_of_wp_marks Try.func55 rfl trivial ?_ rfl
  simp only [Try.ntmps55, List.size_toArray, List.length_cons, List.length_nil, Nat.reduceAdd, Nat.reduceSub, Array.replicate_succ, Array.replicate_zero, List.push_toArray, List.append_toArray, List.nil_append, List.cons_append]
  gi_wp2_with fail
  refine ⟨trivial, fun _ => by omega, ?_⟩
  refine (callsIn_wide.2 (gRising_any _ _)).mono ?_
  rintro e w2 ⟨rfl, rfl⟩
  gi_wp2_with fail
  obtain ⟨W0, hW0⟩ : ∃ W0, W0 = (w.alloc (.cells #[.pointer (some ⟨gW, 0, none⟩)] 78)).alloc (.cells #[.pointer (some ⟨gW, 0, none⟩)] 78) := ⟨_, rfl⟩
  have hz0 : W0.heap.size = w.heap.size + 2 := by rw [hW0]; simp
  have hb0 : Below w.heap.size w W0 := by
    rw [hW0]
    exact ((Below.refl _ w).alloc (Nat.le_refl _) _).alloc (by simp) _
  have hX0 : HasC W0 w.heap.size 78 #[.pointer (some ⟨gW, 0, none⟩)] := by rw [hW0]; exact (HasC.new w _ _).alloc _
  have hP0 : HasC W0 (w.heap.size + 1) 78 #[.pointer (some ⟨gW, 0, none⟩)] := by rw [hW0]; exact HasC.at_ _ _ _ (by simp)
  rw [← hW0]
  clear hW0
  refine range_fnP (by omega) (rise_it (w.heap.size + 1) gW b L (by have := HM.out; omega)) (enters_of Try.func66 (by kernel_rfl) rfl) rfl (fun _ => rfl)
    (fun k V => Below B0 w V ∧ w.heap.size + 2 ≤ V.heap.size ∧ HasC V w.heap.size 78 #[.pointer (some ⟨gW, 0, none⟩)] ∧ HasC V (w.heap.size + 1) 78 #[.pointer (some ⟨gW, 0, none⟩)] ∧ WkG V gW b f ∧ Hid (CtM V b (coaP (L.take k) ++ L.drop k)))
    (fun _ _ => False)
    (fun k V V' h hb => ⟨h.1.trans (hb.1.mono (by omega)), Nat.le_trans h.2.1 hb.2.1, h.2.2.1.below hb.1 (by omega), h.2.2.2.1.below hb.1 (by omega), h.2.2.2.2.1.below hb.1 (by omega), (h.2.2.2.2.2.out.below hb.1 (by omega) : CtM V' b _)⟩)
    (fun _ _ _ h _ => h) ?_ ?_ ?_ ?_ ?_ ?_ ?_
  · rintro k V ⟨hb, hz, hX, hP, hWk, hMk⟩
    refine ⟨hP.cell 0, hWk.cell 0, fun e => ?_, fun hk => ⟨_, hMk.out, cnt_mem hMk.out.1 _ ?_⟩⟩
    · subst e
      have := hMk.out
      rw [List.take_zero, List.drop_zero] at this
      exact this
    · refine List.mem_append.2 (.inr ?_)
      rw [List.drop_eq_getElem_cons hk]
      exact List.mem_cons_self ..
  · rintro k V lo o ⟨hb, hz, hX, hP, hWk, hMk⟩ hLp
    exact ⟨below_put hb _ _ (by omega), by simpa using hz, hX.put (by omega) _, hP.put (by omega) _, hWk.put (by omega) _, (hMk.out.of_block (World.putObj_heap_other (by omega)) : CtM _ b _)⟩
  · rintro c V lo o h
    exact h.elim
  · intro o
    have hk : Below W0.heap.size W0 ((W0.alloc (.deferred (some []))).alloc (.loop o)) := ((Below.refl _ W0).alloc (Nat.le_refl _) _).alloc (by simp) _
    have hk2 : Below w.heap.size w ((W0.alloc (.deferred (some []))).alloc (.loop o)) := hb0.trans (hk.mono hb0.size)
    exact ⟨hk2.mono (by omega), by simp; omega, hX0.below hk hX0.lt, hP0.below hk hP0.lt, HWK.out.below hk2 hgl, (hM0.out.below hk2 hbl : CtM _ b _)⟩
  · rintro k hk V ⟨hb, hz, hX, hP, hWk, hMk⟩ hzV rd bz hLp
    have hdl := Lib.hid (coa_del hri hkb hk)
    have hpt := Lib.hid (coa_put hri hkb hk)
    have hxk := hkb _ (List.getElem_mem hk)
    have hxt := hri.le _ (List.getElem_mem hk)
    obtain ⟨x, hx⟩ : ∃ x, x = L[k] := ⟨_, rfl⟩
    rw [← hx] at hdl hpt hxk hxt ⊢
    obtain ⟨xi, xn⟩ := x
    dsimp only at hdl hpt hxk hxt
    obtain ⟨xa, rfl⟩ : ∃ xa : Nat, xi = (xa : Int) := ⟨xi.toNat, by omega⟩
    have hca : coaB (xa : Int) = (((xa + 1) / 2 : Nat) : Int) := rfl
    obtain ⟨y, hy⟩ : ∃ y : Nat, y = (xa + 1) / 2 := ⟨_, rfl⟩
    rw [hca, ← hy] at hpt
    have C1 := Lib.hid (fun W => gCoarse_any xa W (by omega))
    rw [← hy] at C1
    dsimp only [encU]
    have hxi : (xa : Int) ≤ 1000 := hxk.2
    have hyi : (y : Int) ≤ 1000 := by omega
    have HLP := Lib.hid hLp
    have hkr1 : Kr (W0.heap.size + 2) V (V.putObj (W0.heap.size + 1) (.loop bz)) := Kr.put _ (by omega)
    have hb1 := below_put hb (W0.heap.size + 1) (.loop bz) (by omega)
    have hX1 := hX.put (L := W0.heap.size + 1) (by omega) (.loop bz)
    have hP1 := hP.put (L := W0.heap.size + 1) (by omega) (.loop bz)
    have hW1 := HasC.put (L := W0.heap.size + 1) hWk (by omega) (.loop bz)
    have hM1 : CtM (V.putObj (W0.heap.size + 1) (.loop bz)) b (coaP (L.take k) ++ L.drop k) := hMk.out.of_block (World.putObj_heap_other (by omega))
    have hL1 := hLp.put (.loop bz)
    have hz1 : w.heap.size + 4 ≤ (V.putObj (W0.heap.size + 1) (.loop bz)).heap.size := by simp; omega
    have HZ := Lib.hid hz0
    clear hb hX hP hWk hMk hLp hX0 hP0 hb0 hx hzV hz0 hy hca hxk hM0
    gi_wp2_with fail
    refine ⟨HLP.out, ?_⟩
    obtain ⟨V1, hV1⟩ : ∃ V1, V1 = V.putObj (W0.heap.size + 1) (.loop bz) := ⟨_, rfl⟩
    rw [← hV1] at hkr1 hb1 hX1 hP1 hW1 hM1 hL1 hz1 ⊢
    clear hV1
    have x1 := hX1.cell 0
    have k1 := hW1.cell 0
    have HM1 := Lib.hid hM1
    clear hM1
    gi_wp2_with (gi_at_delete; refine wpListIn_gdel (by rfl) (.tmp 11) (.tmp 12) (by rfl) (by rfl) HM1.out (xa : Int) (by rfl) (by omega) hxi ?_; intro w2 hM2 hg2; dsimp only [Act.put])
    have hz0 := HZ.out
    rw [hdl.out] at hM2
    have hX2 := hX1.only hg2 (by omega)
    have hP2 := hP1.only hg2 (by omega)
    have hW2 := HasC.only hW1 hg2 hgb
    have hL2 := hL1.grown hg2 (by omega) (by omega)
    have hb2 := below_of_grow hb1 hg2 hB2 (by omega)
    have hkr2 := hkr1.trans (Kr.of_grow hg2 (by omega))
    have hz2 := Nat.le_trans hz1 hg2.size
    have HM2 := Lib.hid hM2
    clear hX1 hP1 hW1 hL1 hb1 hkr1 hz1 HM1 hM2 hg2 x1 k1 hz0
    gi_wp2_with fail
    have E1 : ∀ i : InC (GDr w2), i.w.cell? ⟨w.heap.size, 0, none⟩ = some (.pointer (some ⟨gW, 0, none⟩)) := fun ⟨_, _, h⟩ => by subst h; exact hX2.cell 0
    refine region_heldIn 4 [0, 1, 3] [2] (GDr w2) (by kernel_rfl) (FOk.round _ (by kernel_rfl)) (by kernel_rfl) (by intro c a d v w h; cases d <;> exact h) ⟨1, rfl⟩ ?_
    intro hne
    simp only [pickL, nthL]
    repeat (go_big_quiet_step (fail))
    refine wpQuiet_nil ?_
    intro Q0 hQ0
    clear E1
    gi_wp2_with fail
    refine ⟨trivial, fun _ => by omega, ?_⟩
    refine (CallsIn.inRound _ (callsIn_wide.2 (C1.out _))).mono ?_
    rintro e W3 ⟨rfl, rfl⟩
    gi_wp2_with fail
    refine hQ0.out _ _ ⟨⟨w2.drew, 1, rfl⟩, rfl⟩ ?_
    simp only [heavyRun, List.drop_succ_cons, List.drop_zero]
    clear hQ0 hne
    have P1 := Lib.hid (gPut_in (n - 1 - 1 - 1) (by omega) gW b f _ (y : Int) xn w2.drew hW2.drew (HM2.out.below (Below.refl _ w2).drew HM2.out.lt) (by omega) hyi hxt)
    gi_wp2_with fail
    refine ⟨trivial, fun _ => by omega, ?_⟩
    refine (CallsIn.inRound _ P1.out).mono ?_
    rintro e V5 ⟨⟨v, rfl⟩, hM5, hg5⟩
    have hz0 := HZ.out
    rw [hpt.out] at hM5
    have hX5 := hX2.drew.only hg5 (by omega)
    have hP5 := hP2.drew.only hg5 (by omega)
    have hW5 := HasC.only (HasC.drew hW2) hg5 hgb
    have hL5 : Lp W0.heap.size (.loop bz) V5 := Lp.grown (W := w2.drew) hL2 hg5 (by omega) (by omega)
    have hb5 := below_of_grow hb2.drew hg5 hB2 (by show B0 ≤ w2.heap.size; omega)
    have hkr5 := hkr2.trans ((Kr.of_below (Below.refl _ w2).drew).trans (Kr.of_grow hg5 (by omega)))
    have hz5 : w.heap.size + 2 ≤ V5.heap.size := Nat.le_trans (by show w.heap.size + 2 ≤ w2.heap.size; omega) hg5.size
    have HM5 := Lib.hid hM5
    clear hX2 hP2 hW2 hL2 hb2 hkr2 hz2 HM2 P1 hM5 hg5 hz0
    gi_wp2_with fail
    exact ⟨hL5, ⟨hb5, hz5, hX5, hP5, hW5, HM5⟩, hkr5⟩
  · rintro V ⟨hb, hz, hX, hP, hWk, hMk⟩ hK
    have x0 := hX.cell 0
    have k1 := hWk.cell 1
    have z1 := hWk.frozen 1
    have HWKV := Lib.hid hWk
    have HZ := Lib.hid hz0
    have hwf := HWF.out
    clear hX0 hP0 hb0 hM0 hz0
    gi_wp2_with fail
    have hz0 := HZ.out
    have hKf : (V.setCell ⟨gW, 1, none⟩ (.int .i64 (f - 1))).heap[W0.heap.size]? = some (.deferred (some [])) := (Below.heap_setCell V ⟨gW, 1, none⟩ _ W0.heap.size (by simp; omega)).trans hK
    have hWf : HasC (V.setCell ⟨gW, 1, none⟩ (.int .i64 (f - 1))) gW 95 #[.map (some b), .int .i64 (f - 1)] := (HasC.set HWKV.out 1 _).eq rfl
    have hMf := hMk.out
    rw [List.take_of_length_le (Nat.le_refl _), List.drop_eq_nil_of_le (Nat.le_refl _), List.append_nil] at hMf
    have hMg : CtM (V.setCell ⟨gW, 1, none⟩ (.int .i64 (f - 1))) b (coaP L) := hMf.of_block (Below.heap_setCell V ⟨gW, 1, none⟩ _ b (by simp; omega))
    have hbf := hb.setCell (p := ⟨gW, 1, none⟩) hB1 (.int .i64 (f - 1))
    refine ⟨by simp, .inl ⟨_, _, rfl, run_takeDeferred (b := W0.heap.size) hKf, ?_⟩⟩
    exact ⟨_, results_none rfl _ _ _, ⟨_, rfl⟩, hWf.put (L := W0.heap.size) (by omega) _, hMg.of_block (World.putObj_heap_other (by omega)), below_put hbf _ _ (by omega), by simp; omega⟩
  · rintro c V h
    exact h.elim
end Go.Proofs.Ytpdedogdffolnaa
namespace Go.Proofs.Ytpdedogdffolnaa
open Go.RowKit Go.Shelf Go.Maps
attribute [local go_sem] Oper.semAt_some

/-- All of the first parts. -/
def accG (Bs : Nat → List Bn) : Nat → List Bn
  | 0 => []
  | k + 1 => mergeG (accG Bs k) (Bs k)
theorem merge_next {A M : List Bn} {i : Nat} (hi : i < M.length) : mergeG A (M.take (i + 1)) = putBn (mergeG A (M.take i)) M[i].1 M[i].2 := by
  unfold mergeG
  rw [List.take_succ_eq_append_getElem hi, List.foldl_append]
  rfl
theorem merge_zero (A M : List Bn) : mergeG A (M.take 0) = A := by rw [List.take_zero]; rfl
theorem merge_one {L : List Bn} (h : RiseG L) : mergeG [] L = L := by
  have : ∀ (L P : List Bn), RiseG (P ++ L) → mergeG P L = P ++ L := by
    intro L
    induction L with
    | nil => intro P _; rw [List.append_nil]; rfl
    | cons y t ih =>
      intro P h
      have hP : ∀ z ∈ P, z.1 < y.1 := by
        intro z hz
        obtain ⟨i, hi, rfl⟩ := List.getElem_of_mem hz
        have := riseG_lt h (i := i) (j := P.length) (by simp) hi
        simpa [List.getElem_append_left hi] using this
      have hy0 : y.2 ≠ 0 := rise_nz h y (by simp)
      have hp : putBn P y.1 y.2 = P ++ [y] := by
        unfold putBn
        rw [if_neg hy0]
        clear h ih hy0
        induction P with
        | nil => rfl
        | cons x s ihs =>
          unfold putG
          rw [if_pos (hP x (List.mem_cons_self ..)), ihs fun z hz => hP z (List.mem_cons_of_mem _ hz)]
          rfl
      have h2 : mergeG P (y :: t) = mergeG (putBn P y.1 y.2) t := rfl
      rw [h2, hp, ih (P ++ [y]) (by rw [List.append_assoc]; exact h), List.append_assoc]
      rfl
  exact this L [] h

set_option maxHeartbeats 4000000 in
set_option maxRecDepth 100000 in
theorem gBegin_in (n : Nat) (h3 : 12 ≤ n) (f : Int) (ao : Option Addr) (c : Nat) (L : List (Int × Sl3)) (Bs : Nat → List Bn) (w : World) (hL : GHsAt w.heap.size ao L w) (hn : L.length ≤ 10)
    (hB : ∀ j (hj : j < L.length), BinSl w L[j].2.v (Bs j) ∧ (Bs j).length ≤ 1000 ∧ KeysB (Bs j) ∧ ∀ x ∈ Bs j, x.2 ≤ topN) :
    CallsIn Fence.wide n Try.prog 49 #[.int .i64 f, .slice ao L.length c] w fun e w' => e = .returned (.pointer (some ⟨w.heap.size + 1, 0, none⟩)) ∧ WkG w' (w.heap.size + 1) w.heap.size f ∧ CtM w' w.heap.size (accG Bs L.length) ∧ Below w.heap.size w w' := by
  obtain ⟨m, hm⟩ : ∃ m, m = L.length := ⟨_, rfl⟩
  have HM := Lib.hid hm
  rw [← hm] at hn
  rw [← hm]
  have HL := Lib.hid hL
  have HB := Lib.hid hB
  have hmm := @run_makeMap Try.prog
  clear hm hL hB
  refine callsIn_of_wp_marks Try.func49 rfl trivial ?_ rfl
  simp only [Try.ntmps49, List.size_toArray, List.length_cons, List.length_nil, Nat.reduceAdd, Nat.reduceSub, Array.replicate_succ, Array.replicate_zero, List.push_toArray, List.append_toArray, List.nil_append, List.cons_append]
  gi_wp2_with fail
  refine ⟨trivial, fun _ => by omega, ?_⟩
  refine (callsIn_wide.2 (GHs_each _ _ _ _)).mono ?_
  rintro e w2 ⟨rfl, rfl⟩
  gi_wp2_with fail
  obtain ⟨W0, hW0⟩ : ∃ W0, W0 = (((w.alloc (.map #[] 0)).alloc (.cells #[.map (some w.heap.size), .int .i64 f] 95)).alloc (.cells #[.slice ao m c] 82)) := ⟨_, rfl⟩
  have hz0 : W0.heap.size = w.heap.size + 3 := by rw [hW0]; simp
  have hb0 : Below w.heap.size w W0 := by
    rw [hW0]
    exact (((Below.refl _ w).alloc (Nat.le_refl _) _).alloc (by simp) _).alloc (by simp; omega) _
  have hM0 : CtM W0 w.heap.size [] := by
    rw [hW0]
    exact (ctM_made w).below (((Below.refl _ (w.alloc (.map #[] 0))).alloc (Nat.le_refl _) _).alloc (by simp) _) (by simp)
  have hK0 : HasC W0 (w.heap.size + 1) 95 #[.map (some w.heap.size), .int .i64 f] := by rw [hW0]; exact (HasC.at_ _ _ _ (by simp)).alloc _
  have hS0 : HasC W0 (w.heap.size + 2) 82 #[.slice ao m c] := by rw [hW0]; exact HasC.at_ _ _ _ (by simp)
  rw [← hW0]
  clear hW0 hmm
  refine range_fn (by omega) (GHs_it (w.heap.size + 2) w.heap.size ao c L (by have := HM.out; omega)) (enters_of Try.func62 (by kernel_rfl) rfl) rfl (fun _ => rfl)
    (fun k W => HasC W (w.heap.size + 2) 82 #[.slice ao m c] ∧ Below w.heap.size w W ∧ WkG W (w.heap.size + 1) w.heap.size f ∧ Hid (CtM W w.heap.size (accG Bs k)))
    (fun _ _ => False)
    (fun k W W' h hb => ⟨h.1.below hb h.1.lt, h.2.1.trans (hb.mono h.2.1.size), HasC.below h.2.2.1 hb h.2.2.1.lt, (h.2.2.2.out.below hb h.2.2.2.out.lt : CtM W' _ _)⟩)
    (fun k W h => ⟨by rw [← HM.out]; exact h.1.cell 0, HL.out.below h.2.1⟩) ?_ ?_ ?_ ?_ ?_ ?_
  · rintro k W _ o ⟨hS, hbw, hK, hMk⟩ _
    exact ⟨hS.put (by omega) _, below_put hbw _ _ (by omega), HasC.put hK (by omega) _, (hMk.out.of_block (World.putObj_heap_other (by omega)) : CtM _ _ _)⟩
  · rintro j W _ o h _
    exact h
  · intro o
    have hk : Below W0.heap.size W0 ((W0.alloc (.deferred (some []))).alloc (.loop o)) := ((Below.refl _ W0).alloc (Nat.le_refl _) _).alloc (by simp) _
    exact ⟨hS0.below hk hS0.lt, hb0.trans (hk.mono hb0.size), hK0.below hk hK0.lt, (hM0.below hk hM0.lt : CtM _ _ _)⟩
  · rintro k hk W ⟨hS, hbw, hK, hMk⟩ rd bz hLp
    obtain ⟨hbs, hbl, hbk, hbt⟩ := HB.out k hk
    obtain ⟨x, hx⟩ : ∃ x, x = L[k] := ⟨_, rfl⟩
    rw [← hx] at hbs
    unfold encGHs
    rw [← hx]
    obtain ⟨xf, xa, xn, xp⟩ := x
    dsimp only [Sl3.v] at hbs ⊢
    obtain ⟨M, hMM⟩ : ∃ M, M = Bs k := ⟨_, rfl⟩
    obtain ⟨A, hA⟩ : ∃ A, A = accG Bs k := ⟨_, rfl⟩
    have hacc := Lib.hid (show accG Bs (k + 1) = mergeG A M by rw [hA, hMM]; rfl)
    rw [← hMM] at hbs hbl hbk hbt
    rw [← hA] at hMk
    have HBS := Lib.hid hbs
    have HBK := Lib.hid hbk
    have HBT := Lib.hid hbt
    have hLt : w.heap.size + 4 < W.heap.size := by have := hLp.lt; omega
    clear hM0 hK0 hS0 hb0 hx hMM hA hbs hbk hbt
    gi_wp2_with fail
    refine ⟨hLp.alloc _, ?_⟩
    have hX1 : HasC ((W.alloc (.cells #[.int .i64 xf, .slice xa xn xp] 25)).putObj (W0.heap.size + 1) (.loop bz)) W.heap.size 25 #[.int .i64 xf, .slice xa xn xp] := (HasC.new W _ _).put (by omega) _
    have hS1 := (hS.alloc (.cells #[.int .i64 xf, .slice xa xn xp] 25)).put (L := W0.heap.size + 1) (by omega) (.loop bz)
    have hK1 := HasC.put (L := W0.heap.size + 1) (HasC.alloc hK (.cells #[.int .i64 xf, .slice xa xn xp] 25)) (by omega) (.loop bz)
    have hbw1 := below_put (hbw.alloc (by omega) (.cells #[.int .i64 xf, .slice xa xn xp] 25)) (W0.heap.size + 1) (.loop bz) (by omega)
    have hL1 := (hLp.alloc (.cells #[.int .i64 xf, .slice xa xn xp] 25)).put (.loop bz)
    have hM1 : CtM ((W.alloc (.cells #[.int .i64 xf, .slice xa xn xp] 25)).putObj (W0.heap.size + 1) (.loop bz)) w.heap.size A := (hMk.out.below ((Below.refl _ W).alloc (Nat.le_refl _) _) (by omega)).of_block (World.putObj_heap_other (by omega))
    have hz1 : w.heap.size + 6 ≤ ((W.alloc (.cells #[.int .i64 xf, .slice xa xn xp] 25)).putObj (W0.heap.size + 1) (.loop bz)).heap.size := by simp; omega
    generalize (W.alloc (.cells #[.int .i64 xf, .slice xa xn xp] 25)).putObj (W0.heap.size + 1) (.loop bz) = V at hX1 hS1 hK1 hbw1 hL1 hM1 hz1 ⊢
    have HZ := Lib.hid hz0
    have HM1 := Lib.hid hM1
    clear hS hbw hK hMk hLp hz0 hM1
    have x1 := hX1.cell 1
    gi_wp2_with fail
    refine ⟨trivial, fun _ => by omega, ?_⟩
    refine (CallsIn.inRound _ (callsIn_wide.2 (GBn_each _ _ _ _))).mono ?_
    rintro e V2 ⟨rfl, rfl⟩
    gi_wp2_with fail
    obtain ⟨U0, hU0⟩ : ∃ U0, U0 = V.alloc (.cells #[.slice xa xn xp] 23) := ⟨_, rfl⟩
    have hz0 := HZ.out
    have hzU : U0.heap.size = V.heap.size + 1 := by rw [hU0]; simp
    have hbU : Below V.heap.size V U0 := by rw [hU0]; exact (Below.refl _ V).alloc (Nat.le_refl _) _
    have hQ0 : HasC U0 V.heap.size 23 #[.slice xa xn xp] := by rw [hU0]; exact HasC.new V _ _
    rw [← hU0]
    have hS2 := hS1.below hbU hS1.lt
    have hK2 := HasC.below hK1 hbU hK1.lt
    have hbw2 := hbw1.trans (hbU.mono hbw1.size)
    have hL2 := hL1.below hbU hL1.lt
    have hM2 : CtM U0 w.heap.size (mergeG A (M.take 0)) := by rw [merge_zero]; exact HM1.out.below hbU (by omega)
    obtain ⟨bo, bc, hbv, hba⟩ := HBS.out.at_
    simp only [Value.slice.injEq] at hbv
    obtain ⟨rfl, rfl, rfl⟩ := hbv
    have HBA := Lib.hid hba
    clear hU0 hS1 hK1 hbw1 hL1 HM1 hX1 x1 hba
    refine range_fnN (by omega) (IterOk.by_count (GBn_it V.heap.size w.heap.size xa xp M (by omega))) (enters_of Try.func64 (by kernel_rfl) rfl) (hL2.2) rfl (fun _ => rfl)
      (fun i U => Lp W0.heap.size (.loop bz) U ∧ Below w.heap.size w U ∧ HasC U (w.heap.size + 2) 82 #[.slice ao m c] ∧ WkG U (w.heap.size + 1) w.heap.size f ∧ HasC U V.heap.size 23 #[.slice xa M.length xp] ∧ U0.heap.size ≤ U.heap.size ∧ Hid (CtM U w.heap.size (mergeG A (M.take i))))
      (fun _ _ => False)
      (fun i U U' h hb => ⟨h.1.below hb h.1.lt, h.2.1.trans (hb.mono h.2.1.size), h.2.2.1.below hb h.2.2.1.lt, HasC.below h.2.2.2.1 hb h.2.2.2.1.lt, h.2.2.2.2.1.below hb h.2.2.2.2.1.lt, Nat.le_trans h.2.2.2.2.2.1 hb.size, (h.2.2.2.2.2.2.out.below hb h.2.2.2.2.2.2.out.lt : CtM U' _ _)⟩)
      (fun i U h => ⟨h.2.2.2.2.1.cell 0, HBA.out.below h.2.1⟩) ?_ ?_ ?_ ?_ ?_ ?_
    · rintro i U lo o ⟨hL, hb, hS, hK, hQ, hz, hMi⟩ hLn
      exact ⟨hL.putN _ (by omega) (by omega), below_put hb _ _ (by omega), hS.put (by omega) _, HasC.put hK (by omega) _, hQ.put (by omega) _, by simpa using hz, (hMi.out.of_block (World.putObj_heap_other (by omega)) : CtM _ _ _)⟩
    · rintro j U lo o h _
      exact h
    · intro o
      have hk : Below U0.heap.size U0 (U0.alloc (.loop o)) := (Below.refl _ U0).alloc (Nat.le_refl _) _
      exact ⟨hL2.below hk hL2.lt, hbw2.trans (hk.mono hbw2.size), hS2.below hk hS2.lt, HasC.below hK2 hk hK2.lt, hQ0.below hk hQ0.lt, hk.size, (hM2.below hk hM2.lt : CtM _ _ _)⟩
    · rintro i hi U ⟨hL, hb, hS, hK, hQ, hz, hMi⟩ rd2 bz2 hLn
      have hmn := Lib.hid (merge_next (A := A) hi)
      have hxk := HBK.out _ (List.getElem_mem hi)
      have hxt := HBT.out _ (List.getElem_mem hi)
      obtain ⟨y, hy⟩ : ∃ y, y = M[i] := ⟨_, rfl⟩
      rw [← hy] at hmn hxk hxt
      unfold encGBn
      rw [← hy]
      obtain ⟨ya, yn⟩ := y
      dsimp only at hmn hxk hxt ⊢
      have hLn2 := hLn.lt
      have HZ2 := Lib.hid (And.intro hz0 hzU)
      clear hS2 hK2 hbw2 hL2 hM2 hQ0 hbU hy
      have hX1 : HasC ((U.alloc (.cells #[.int .i64 ya, gV yn] 68)).putObj U0.heap.size (.loop bz2)) U.heap.size 68 #[.int .i64 ya, gV yn] := (HasC.new U _ _).put (by omega) _
      have hL1 := (hL.alloc (.cells #[.int .i64 ya, gV yn] 68)).putN (L := U0.heap.size) (.loop bz2) (by omega) (by omega)
      have hb1 := below_put (hb.alloc (by omega) (.cells #[.int .i64 ya, gV yn] 68)) U0.heap.size (.loop bz2) (by omega)
      have hS1 := (hS.alloc (.cells #[.int .i64 ya, gV yn] 68)).put (L := U0.heap.size) (by omega) (.loop bz2)
      have hK1 := HasC.put (L := U0.heap.size) (HasC.alloc hK (.cells #[.int .i64 ya, gV yn] 68)) (by omega) (.loop bz2)
      have hQ1 := (hQ.alloc (.cells #[.int .i64 ya, gV yn] 68)).put (L := U0.heap.size) (by omega) (.loop bz2)
      have hN1 := (hLn.alloc (.cells #[.int .i64 ya, gV yn] 68)).put (.loop bz2)
      have hM1 : CtM ((U.alloc (.cells #[.int .i64 ya, gV yn] 68)).putObj U0.heap.size (.loop bz2)) w.heap.size (mergeG A (M.take i)) := (hMi.out.below ((Below.refl _ U).alloc (Nat.le_refl _) _) (by omega)).of_block (World.putObj_heap_other (by omega))
      have hzz : U0.heap.size ≤ ((U.alloc (.cells #[.int .i64 ya, gV yn] 68)).putObj U0.heap.size (.loop bz2)).heap.size := by simp; omega
      have HLN := Lib.hid hLn
      clear hz0 hzU hL hb hS hK hQ hLn hMi hz
      gi_wp2_with fail
      refine ⟨HLN.out.alloc _, ?_⟩
      generalize (U.alloc (.cells #[.int .i64 ya, gV yn] 68)).putObj U0.heap.size (.loop bz2) = V3 at hX1 hL1 hb1 hS1 hK1 hQ1 hN1 hM1 hzz ⊢
      have y0 := hX1.cell 0
      have y1 := hX1.cell 1
      have P1 := Lib.hid (gPut_in (n - 1 - 1 - 1 - 1 - 1) (by omega) (w.heap.size + 1) w.heap.size f _ ya yn V3 hK1 hM1 hxk.1 hxk.2 hxt)
      clear hM1
      gi_wp2_with fail
      refine ⟨trivial, fun _ => by omega, ?_⟩
      refine (CallsIn.inRound _ P1.out).mono ?_
      rintro e V5 ⟨⟨v, rfl⟩, hM5, hg5⟩
      obtain ⟨hz0, hzU⟩ := HZ2.out
      rw [← hmn.out] at hM5
      have hL5 := hL1.grown hg5 (by omega) (by omega)
      have hb5 := below_of_grow hb1 hg5 (Nat.le_refl _) (by omega)
      have hS5 := hS1.only hg5 (by omega)
      have hK5 := HasC.only hK1 hg5 (by omega)
      have hQ5 := hQ1.only hg5 (by omega)
      have hN5 : Ln U0.heap.size (.loop bz2) V5 := (hg5.block U0.heap.size hN1.lt (fun e => by have := Option.some.inj e; omega)).trans hN1
      have hz5 := Nat.le_trans hzz hg5.size
      have HM5 := Lib.hid hM5
      clear hX1 hL1 hb1 hS1 hK1 hQ1 hN1 hzz y0 y1 P1 hM5 hg5 hz0 hzU
      gi_wp2_with fail
      exact ⟨hN5, hL5, hb5, hS5, hK5, hQ5, hz5, HM5⟩
    · rintro U ⟨hL, hb, hS, hK, hQ, hz, hMi⟩
      rw [List.take_of_length_le (Nat.le_refl _), ← hacc.out] at hMi
      gi_wp2_with fail
      exact ⟨hL, hS, hb, hK, hMi⟩
    · rintro c U h
      exact h.elim
  · rintro W ⟨hS, hbw, hK, hMk⟩ hKd
    rw [← HM.out] at hMk
    gi_wp2_with fail
    refine ⟨by simp, .inl ⟨_, _, rfl, run_takeDeferred (b := W0.heap.size) hKd, ?_⟩⟩
    exact ⟨_, results_tmp rfl _ _ _, rfl, HasC.put hK (by omega) _, hMk.out.of_block (World.putObj_heap_other (by omega)), below_put hbw _ _ (by omega)⟩
  · rintro j W h
    exact h.elim
end Go.Proofs.Ytpdedogdffolnaa
namespace Go.Proofs.Ytpdedogdffolnaa
open Go.RowKit Go.Shelf Go.Maps
attribute [local go_sem] Oper.semAt_some

/-- Each value so often. -/
def telP (f : Nat) (S : List Bn) (c : Nat) (Ls : List Nat) : List Bn := Ls.foldl (fun P v => putBn P (bktP f v : Int) c) S
theorem tel_next (f : Nat) (S : List Bn) (c : Nat) {Ls : List Nat} {k : Nat} (hk : k < Ls.length) : telP f S c (Ls.take (k + 1)) = putBn (telP f S c (Ls.take k)) (bktP f Ls[k] : Int) c := by
  unfold telP
  rw [List.take_succ_eq_append_getElem hk, List.foldl_append]
  rfl
theorem GNmAt.only {n0 b : Nat} {ao : Option Addr} {L : List Nat} {W W' : World} (h : GNmAt n0 ao L W) (hg : W.grownBy W' (some b)) (hne : ∀ g o, ao = some ⟨g, o, none⟩ → g ≠ b) (hz : n0 ≤ W.heap.size) : GNmAt n0 ao L W' := fun j hj => by
  obtain ⟨g, o, h1, h2, h3⟩ := h j hj
  refine ⟨g, o, h1, h2, ?_⟩
  rw [World.cell?_of_block (hg.block g (by omega) (fun e => hne g o h1 (Option.some.inj e)))]
  exact h3
set_option maxHeartbeats 4000000 in
set_option maxRecDepth 100000 in
theorem gTell_in (n : Nat) (h3 : 12 ≤ n) (B0 gW b f : Nat) (S : List Bn) (c : Nat) (ao : Option Addr) (cp : Nat) (Ls : List Nat) (w : World) (hf : f ≤ 3) (hW : WkG w gW b (f : Int)) (hM : CtM w b S) (hL : GNmAt w.heap.size ao Ls w) (hn : Ls.length ≤ 1000) (hv : ∀ v ∈ Ls, v ≤ topN) (hc : c ≤ topN)
    (hB1 : B0 ≤ gW) (hB2 : B0 ≤ b) (hgb : gW ≠ b) (hab : ∀ g o, ao = some ⟨g, o, none⟩ → g ≠ b) :
    CallsIn Fence.wide n Try.prog 50 #[.pointer (some ⟨gW, 0, none⟩), gV c, .slice ao Ls.length cp] w fun e w' => (∃ v, e = .returned v) ∧ WkG w' gW b (f : Int) ∧ CtM w' b (telP f S c Ls) ∧ Below B0 w w' ∧ w.heap.size ≤ w'.heap.size := by
  obtain ⟨m, hm⟩ : ∃ m, m = Ls.length := ⟨_, rfl⟩
  have HM := Lib.hid hm
  have hgl := hW.lt
  have hbl := hM.lt
  have hM0 : Hid (CtM w b (telP f S c (Ls.take 0))) := by rw [List.take_zero]; exact hM
  have HWK := Lib.hid hW
  have HL := Lib.hid hL
  have HV := Lib.hid hv
  rw [← hm] at hn
  rw [← hm]
  clear hm hM hW hL hv
  refine callsIn_of_wp_marks Try.func50 rfl trivial ?_ rfl
  simp only [Try.ntmps50, List.size_toArray, List.length_cons, List.length_nil, Nat.reduceAdd, Nat.reduceSub, Array.replicate_succ, Array.replicate_zero, List.push_toArray, List.append_toArray, List.nil_append, List.cons_append]
  gi_wp2_with fail
  refine ⟨trivial, fun _ => by omega, ?_⟩
  refine (callsIn_wide.2 (GNm_each _ _ _ _)).mono ?_
  rintro e w2 ⟨rfl, rfl⟩
  gi_wp2_with fail
  obtain ⟨W0, hW0⟩ : ∃ W0, W0 = ((w.alloc (.cells #[.pointer (some ⟨gW, 0, none⟩)] 78)).alloc (.cells #[gV c] 22)).alloc (.cells #[.slice ao m cp] 50) := ⟨_, rfl⟩
  have hz0 : W0.heap.size = w.heap.size + 3 := by rw [hW0]; simp
  have hb0 : Below w.heap.size w W0 := by
    rw [hW0]
    exact (((Below.refl _ w).alloc (Nat.le_refl _) _).alloc (by simp) _).alloc (by simp; omega) _
  have hX0 : HasC W0 w.heap.size 78 #[.pointer (some ⟨gW, 0, none⟩)] := by rw [hW0]; exact ((HasC.new w _ _).alloc _).alloc _
  have hN0 : HasC W0 (w.heap.size + 1) 22 #[gV c] := by rw [hW0]; exact (HasC.at_ _ _ _ (by simp)).alloc _
  have hS0 : HasC W0 (w.heap.size + 2) 50 #[.slice ao m cp] := by rw [hW0]; exact HasC.at_ _ _ _ (by simp)
  rw [← hW0]
  clear hW0
  have hG0 : GNmAt w.heap.size ao Ls W0 := HL.out.below hb0
  refine range_fn (by omega) (GNm_it (w.heap.size + 2) w.heap.size ao cp Ls (by have := HM.out; omega)) (enters_of Try.func65 (by kernel_rfl) rfl) rfl (fun _ => rfl)
    (fun k V => Below B0 w V ∧ w.heap.size + 3 ≤ V.heap.size ∧ HasC V w.heap.size 78 #[.pointer (some ⟨gW, 0, none⟩)] ∧ HasC V (w.heap.size + 1) 22 #[gV c] ∧ HasC V (w.heap.size + 2) 50 #[.slice ao m cp] ∧ WkG V gW b (f : Int) ∧ GNmAt w.heap.size ao Ls V ∧ Hid (CtM V b (telP f S c (Ls.take k))))
    (fun _ _ => False)
    (fun k V V' h hb => ⟨h.1.trans (hb.mono (by omega)), Nat.le_trans h.2.1 hb.size, h.2.2.1.below hb h.2.2.1.lt, h.2.2.2.1.below hb h.2.2.2.1.lt, h.2.2.2.2.1.below hb h.2.2.2.2.1.lt, HasC.below h.2.2.2.2.2.1 hb h.2.2.2.2.2.1.lt, h.2.2.2.2.2.2.1.below (hb.mono (by omega)), (h.2.2.2.2.2.2.2.out.below hb h.2.2.2.2.2.2.2.out.lt : CtM V' _ _)⟩)
    (fun k V h => ⟨by rw [← HM.out]; exact h.2.2.2.2.1.cell 0, h.2.2.2.2.2.2.1⟩) ?_ ?_ ?_ ?_ ?_ ?_
  · rintro k V lo o ⟨hb, hz, hX, hN, hS, hK, hG, hMk⟩ hLp
    exact ⟨below_put hb _ _ (by omega), by simpa using hz, hX.put (by omega) _, hN.put (by omega) _, hS.put (by omega) _, HasC.put hK (by omega) _, hG.below (below_put (Below.refl w.heap.size V) _ _ (by omega)), (hMk.out.of_block (World.putObj_heap_other (by omega)) : CtM _ _ _)⟩
  · rintro j V lo o h _
    exact h
  · intro o
    have hk : Below W0.heap.size W0 ((W0.alloc (.deferred (some []))).alloc (.loop o)) := ((Below.refl _ W0).alloc (Nat.le_refl _) _).alloc (by simp) _
    have hk2 : Below w.heap.size w ((W0.alloc (.deferred (some []))).alloc (.loop o)) := hb0.trans (hk.mono hb0.size)
    exact ⟨hk2.mono (by omega), by simp; omega, hX0.below hk hX0.lt, hN0.below hk hN0.lt, hS0.below hk hS0.lt, HasC.below HWK.out hk2 hgl, HL.out.below hk2, (hM0.out.below hk2 hbl : CtM _ _ _)⟩
  · rintro k hk V ⟨hb, hz, hX, hN, hS, hK, hG, hMk⟩ rd bz hLp
    have htn := Lib.hid (tel_next f S c hk)
    have hvt := HV.out _ (List.getElem_mem hk)
    obtain ⟨x, hx⟩ : ∃ x, x = Ls[k] := ⟨_, rfl⟩
    rw [← hx] at htn hvt
    unfold encGNm
    rw [← hx]
    have P1 := Lib.hid (fun W => gPlace_any f x W hf hvt)
    have hb64 := bkt_le (f := f) (v := x) (by show x < 18446744073709551616; have ht : topN = 18446744073709551615 := rfl; omega)
    have hp8 := pow8 hf
    obtain ⟨y, hy⟩ : ∃ y, y = bktP f x := ⟨_, rfl⟩
    rw [← hy] at htn P1 hb64
    have hyi : (y : Int) ≤ 1000 := by omega
    have HLP := Lib.hid hLp
    have hb1 := below_put hb (W0.heap.size + 1) (.loop bz) (by omega)
    have hX1 := hX.put (L := W0.heap.size + 1) (by omega) (.loop bz)
    have hN1 := hN.put (L := W0.heap.size + 1) (by omega) (.loop bz)
    have hS1 := hS.put (L := W0.heap.size + 1) (by omega) (.loop bz)
    have hK1 := HasC.put (L := W0.heap.size + 1) hK (by omega) (.loop bz)
    have hG1 := hG.below (below_put (Below.refl w.heap.size V) (W0.heap.size + 1) (.loop bz) (by omega))
    have hM1 : CtM (V.putObj (W0.heap.size + 1) (.loop bz)) b (telP f S c (Ls.take k)) := hMk.out.of_block (World.putObj_heap_other (by omega))
    have hL1 := hLp.put (.loop bz)
    have hz1 : w.heap.size + 5 ≤ (V.putObj (W0.heap.size + 1) (.loop bz)).heap.size := by have := hLp.lt; simp; omega
    have HZ := Lib.hid hz0
    clear hb hz hX hN hS hK hG hMk hLp hX0 hN0 hS0 hb0 hG0 hM0 hx hy hz0 hb64 hp8
    gi_wp2_with fail
    refine ⟨HLP.out, ?_⟩
    generalize V.putObj (W0.heap.size + 1) (.loop bz) = V1 at hb1 hX1 hN1 hS1 hK1 hG1 hM1 hL1 hz1 ⊢
    have HM1 := Lib.hid hM1
    obtain ⟨D, hDk, hDd⟩ : ∃ D : World → Prop, (∀ W, D W → Below V1.heap.size V1 W) ∧ (∀ W, Below V1.heap.size V1 W → D W) := ⟨_, fun _ h => h, fun _ h => h⟩
    have E1 : ∀ i : InC D, i.w.cell? ⟨w.heap.size, 0, none⟩ = some (.pointer (some ⟨gW, 0, none⟩)) := fun i => (hX1.below (hDk _ i.h) hX1.lt).cell 0
    have E2 : ∀ i : InC D, i.w.cell? ⟨w.heap.size + 1, 0, none⟩ = some (gV c) := fun i => (hN1.below (hDk _ i.h) hN1.lt).cell 0
    have E3 : ∀ i : InC D, i.w.cell? ⟨gW, 1, none⟩ = some (.int .i64 (f : Int)) := fun i => (HasC.below hK1 (hDk _ i.h) hK1.lt).cell 1
    have HDD := Lib.hid hDd
    have HDK := Lib.hid hDk
    clear hDk hDd hM1
    gi_wp2_with fail
    refine region_heldIn 8 [0, 1, 2, 3, 4, 5, 7] [6] D (by kernel_rfl) (FOk.round _ (by kernel_rfl)) (by kernel_rfl) (by intro c a d v w h; cases d <;> exact h) (HDD.out _ (Below.refl _ _).drew) ?_
    intro hne
    simp only [pickL, nthL]
    repeat (go_big_quiet_step (fail))
    refine wpQuiet_nil ?_
    intro Q0 hQ0
    clear E1 E2 E3
    gi_wp2_with fail
    refine ⟨trivial, fun _ => by omega, ?_⟩
    refine (CallsIn.inRound _ (callsIn_wide.2 (P1.out _))).mono ?_
    rintro e V3 ⟨rfl, hb3⟩
    have hbv : Below V1.heap.size V1 V3 := (Below.refl V1.heap.size V1).drew.trans hb3
    have HBV := Lib.hid hbv
    clear hb3 hbv
    gi_wp2_with fail
    refine hQ0.out _ _ ⟨⟨V3, HDD.out _ HBV.out⟩, rfl⟩ ?_
    simp only [heavyRun, List.drop_succ_cons, List.drop_zero]
    clear hQ0 hne
    have hbv := HBV.out
    have hz0 := HZ.out
    have hX3 := hX1.below hbv hX1.lt
    have hN3 := hN1.below hbv hN1.lt
    have hS3 := hS1.below hbv hS1.lt
    have hK3 := HasC.below hK1 hbv hK1.lt
    have hG3 := hG1.below (hbv.mono (by omega))
    have hL3 := hL1.below hbv hL1.lt
    have hM3 := HM1.out.below hbv HM1.out.lt
    have hb3 := hb1.trans (hbv.mono (by omega))
    have hz3 := Nat.le_trans hz1 hbv.size
    have P2 := Lib.hid (gPut_in (n - 1 - 1 - 1) (by omega) gW b (f : Int) _ (y : Int) c V3 hK3 hM3 (by omega) hyi hc)
    clear hb1 hX1 hN1 hS1 hK1 hG1 hL1 hz1 HM1 hbv hM3 hz0
    gi_wp2_with fail
    refine ⟨trivial, fun _ => by omega, ?_⟩
    refine (CallsIn.inRound _ P2.out).mono ?_
    rintro e V5 ⟨⟨v, rfl⟩, hM5, hg5⟩
    have hz0 := HZ.out
    rw [← htn.out] at hM5
    have hL5 := hL3.grown hg5 (by omega) (by omega)
    have hb5 := below_of_grow hb3 hg5 hB2 (by omega)
    have hX5 := hX3.only hg5 (by omega)
    have hN5 := hN3.only hg5 (by omega)
    have hS5 := hS3.only hg5 (by omega)
    have hK5 := HasC.only hK3 hg5 hgb
    have hG5 := hG3.only hg5 hab (by omega)
    have hz5 : w.heap.size + 3 ≤ V5.heap.size := Nat.le_trans (by omega) hg5.size
    have HM5 := Lib.hid hM5
    clear hL3 hb3 hX3 hN3 hS3 hK3 hG3 hz3 P2 hM5 hg5 hz0
    gi_wp2_with fail
    exact ⟨hL5, hb5, hz5, hX5, hN5, hS5, hK5, hG5, HM5⟩
  · rintro V ⟨hb, hz, hX, hN, hS, hK, hG, hMk⟩ hKd
    have hMf := hMk.out
    rw [List.take_of_length_le (Nat.le_refl _)] at hMf
    have HMF := Lib.hid hMf
    clear hMk hMf
    gi_wp2_with fail
    refine ⟨by simp, .inl ⟨_, _, rfl, run_takeDeferred (b := W0.heap.size) hKd, ?_⟩⟩
    exact ⟨_, results_none rfl _ _ _, ⟨_, rfl⟩, HasC.put hK (by omega) _, HMF.out.of_block (World.putObj_heap_other (by omega)), below_put hb _ _ (by omega), by simp; omega⟩
  · rintro j V h
    exact h.elim
end Go.Proofs.Ytpdedogdffolnaa
