/- Layer 3's statements: FrameStreams. -/
import Derived.Test.YthbfibnpfdegaaaDoorRLawsB
import Derived.Test.YthbfibnpfdegaaaDoorRFew
namespace Go.Proofs.YthbfibnpfdegaaaDoor
open Go.RowKit

/-- The texts that make frames. -/
def fitL (L : List ByteArray) : List ByteArray := L.filter fun t => decide (1 ≤ t.size)
theorem fit_all (L : List ByteArray) (h : ∀ t ∈ L, t.size ≤ 300) : allFit (fitL L) := fun t ht => by
  have h1 := List.mem_filter.1 ht
  have h2 := h t h1.1
  have h3 : 1 ≤ t.size := by simpa using h1.2
  omega
theorem fit_yes (L : List ByteArray) (k : Nat) (h : k < L.length) (h1 : 1 ≤ L[k].size) : fitL (L.take (k + 1)) = fitL (L.take k) ++ [L[k]] := by
  unfold fitL
  rw [List.take_succ_eq_append_getElem h, List.filter_append]
  simp [h1]
theorem fit_no (L : List ByteArray) (k : Nat) (h : k < L.length) (h1 : ¬ 1 ≤ L[k].size) : fitL (L.take (k + 1)) = fitL (L.take k) := by
  unfold fitL
  rw [List.take_succ_eq_append_getElem h, List.filter_append]
  have : L[k].size = 0 := by omega
  simp [this]
theorem stream_size : ∀ L : List ByteArray, (∀ t ∈ L, t.size ≤ 300) → (streamB L).size ≤ 307 * L.length := by
  intro L
  induction L with
  | nil => intro _; exact Nat.zero_le _
  | cons t L ih =>
    intro h
    have h1 := ih fun u hu => h u (List.mem_cons_of_mem _ hu)
    have h2 := h t (List.mem_cons_self ..)
    have h3 := frame_bytes t (by omega)
    show (frameB t ++ streamB L).size ≤ _
    rw [ByteArray.size_append, List.length_cons, h3]
    split <;> omega
theorem stream_snoc (L : List ByteArray) (t : ByteArray) : streamB (L ++ [t]) = streamB L ++ frameB t := by
  rw [stream_app]
  congr 1
  apply ba_list
  simp [streamB]
theorem fit_len (L : List ByteArray) (k : Nat) : (fitL (L.take k)).length ≤ L.length := by
  have h1 : (fitL (L.take k)).length ≤ (L.take k).length := List.length_filter_le _ _
  rw [List.length_take] at h1
  omega
theorem fewR_small (ts : List ByteArray) : ∀ t ∈ fewR ts, t.size ≤ 300 := fun t ht => by
  unfold fewR at ht
  obtain ⟨u, _, rfl⟩ := List.mem_map.1 ht
  exact cut300_size u

section
variable {P : Program}
/-- Texts are appended to a list that the call owns: some, or none. -/
theorem run_append_strs (W : World) (base : Nat) (t ty e : TypeId) (i : TypeInfo) (ht : P.underlying t = some (.slice e)) (hi : P.info? e = some i) (hz : i.zero = some (.string { data := #[] }))
    (hsize : i.size = 1) (hby : i.bytes = 16) (v : Value) (n : Nat) (xs : List Value) (hown : W.ownsRow base e 1 v n xs) (x : Value) (ts : List ByteArray) (hx : StrSl W x ts) (hn : n + ts.length ≤ 1000) (hbase : base ≤ W.heap.size) :
    ∃ v' w', (Builtin.append_ #[t, t] ty #[v, x]).run P W = .ok v' w' ∧ w'.ownsRow base e 1 v' (n + ts.length) (xs ++ ts.map .string) ∧ W.grownBy w' v.ownBlock := by
  rcases hx with ⟨a, c, rfl, rfl⟩ | ⟨g, o, c, rfl, hg, hc⟩
  · cases a with
    | none =>
      refine ⟨v, W, ?_, by simpa using hown, World.grownBy.refl _ _⟩
      rcases hown.2 with ⟨rfl, rfl⟩ | ⟨g, cap, cur, rfl, _, _, hnc, _⟩
      · simp [Builtin.append_, run_underlying ht, sizeOf, typeInfo, hi, Builtin.lenOf, Builtin.firstCells]
      · simp [Builtin.append_, run_underlying ht, sizeOf, typeInfo, hi, Builtin.lenOf, Builtin.firstCells, hnc, storeCells]
    | some ad =>
      obtain ⟨v', w', h1, h2, h3, _⟩ := run_append_own (P := P) W base t ty e i (.string { data := #[] }) 1 16 ht hi hz hsize hby rfl (by decide) v n xs hown ad 0 c [] rfl (fun j u hu => by simp at hu) (fun u hu => by cases hu) (by unfold maxLen; simp at hn; omega) (by simp at hn; omega) hbase
      exact ⟨v', w', h1, by simpa using h2, h3⟩
  · obtain ⟨v', w', h1, h2, h3, _⟩ := run_append_own (P := P) W base t ty e i (.string { data := #[] }) 1 16 ht hi hz hsize hby rfl (by decide) v n xs hown ⟨g, o, none⟩ ts.length c (ts.map .string) (by simp)
      (fun j u hu => by
        have hj : j < ts.length := by
          have := (List.getElem?_eq_some_iff.1 hu).1
          simpa using this
        rw [show (⟨g, o, none⟩ : Addr).add j = ⟨g, o + j, none⟩ by simp [Addr.add], hc j hj, List.getD_eq_getElem?_getD, ← hu]
        simp [hj])
      (fun u hu => by obtain ⟨_, _, rfl⟩ := List.mem_map.1 hu; rfl) (by unfold maxLen; omega) (by omega) hbase
    exact ⟨v', w', h1, h2, h3⟩
theorem wpList_append_strs (W : World) {ops : Array Oper} {rest : List Oper} {o : Oper} {a : Act} {Q : Exit → Act → World → Prop} (hgd : o.guard = none) (s x : Operand) (t : TypeId)
    (ho : o.op = .call { callee := .builtin .append, args := #[s, x], argTypes := #[t, t] })
    (base : Nat) (e : TypeId) (i : TypeInfo) (ht : P.underlying t = some (.slice e)) (hi : P.info? e = some i) (hz : i.zero = some (.string { data := #[] })) (hsize : i.size = 1) (hby : i.bytes = 16)
    (v : Value) (n : Nat) (xs : List Value) (hs : a.eval s = v) (hown : W.ownsRow base e 1 v n xs) (u : Value) (ts : List ByteArray) (hu : a.eval x = u) (hx : StrSl W u ts) (hn : n + ts.length ≤ 1000) (hbase : base ≤ W.heap.size)
    (h : ∀ v' w', w'.ownsRow base e 1 v' (n + ts.length) (xs ++ ts.map .string) → W.grownBy w' v.ownBlock → wpList P ops Q rest (a.put o.dst v') w') : wpList P ops Q (o :: rest) a W := by
  refine wpList_plain hgd fun K hK => ?_
  obtain ⟨v', w', hr, h2, h3⟩ := run_append_strs (P := P) W base t o.type e i ht hi hz hsize hby v n xs hown u ts hx hn hbase
  unfold Oper.wp execOp
  simp only [ho, resolve, invoke, builtin, Sem.run_bind, Sem.run_pure, Result.andThen_ok, List.map_toArray, List.map_cons, List.map_nil, hs, hu, hr]
  exact hK _ _ (h v' w' h2 h3)
end

theorem make_val {am af : Addr} {N : Nat} (s : ByteArray) (v : Value) (hv : MakeOut s = v) (hs : s.size ≤ maxLen) (W : World) (hS : SentR am af N W) :
    Calls Tryd.prog 11 #[.string s] W fun e w' => e = .returned v ∧ Below W.heap.size W w' := by
  rw [← hv]
  exact make_any s hs W hS

set_option maxHeartbeats 1000000 in
set_option maxRecDepth 100000 in
theorem streams_walk {am af : Addr} {N : Nat} (ts : List ByteArray) (v : Value) (x : Int) (w : World) (hS : SentR am af N w) (hsl : StrSl w v ts) (htl : ts.length ≤ maxLen) (htz : ∀ t ∈ ts, t.size ≤ maxLen) :
    Calls Tryd.prog 7 #[v, .int .i64 x] w fun e w' => e = .returned (.bool true) ∧ Below w.heap.size w w' := by
  obtain ⟨i0, hi, hz0, hz1, hz2⟩ := info_parts info9
  have HF := Lib.hid (fun W (hb : Below w.heap.size w W) => fewR_any ts v W htl htz (hsl.below hb))
  have hsm := fewR_small ts
  have hl8 := fewR_len ts
  obtain ⟨L, hL⟩ : ∃ L, fewR ts = L := ⟨_, rfl⟩
  rw [hL] at HF hsm hl8
  clear hL htl htz hsl
  go_enter Tryd.func7, Tryd.ntmps7
  go_wp2_with fail
  refine (shown_any _ hS).mono ?_
  rintro e w1 ⟨rfl, hbw⟩
  go_wp2_with fail
  with_reducible refine (HF.out _ hbw).mono ?_
  rintro e w2 ⟨⟨v2, rfl, hsl2⟩, hb⟩
  replace hbw := hbw.trans (hb.mono hbw.size)
  clear hb HF
  obtain ⟨n, hn⟩ : ∃ n, n = L.length := ⟨_, rfl⟩
  have hcell : ∃ ao c, v2 = .slice ao n c ∧ ∀ k (hk : k < L.length) (W : World), Below w2.heap.size w2 W → ∃ g o, ao = some ⟨g, o, none⟩ ∧ W.cell? ⟨g, o + k, none⟩ = some (.string L[k]) := by
    rcases hsl2 with ⟨a, c, rfl, rfl⟩ | ⟨g, o, c, rfl, hg, hc⟩
    · subst hn
      exact ⟨a, c, rfl, fun k hk => absurd hk (by simp)⟩
    · subst hn
      refine ⟨_, _, rfl, fun k hk W hb => ⟨g, o, rfl, ?_⟩⟩
      rw [hb.cell (p := ⟨g, o + k, none⟩) hg, hc k hk, List.getD_eq_getElem?_getD, List.getElem?_eq_getElem hk]
      rfl
  obtain ⟨ao, c, rfl, hcell⟩ := hcell
  have HC := Lib.hid hcell
  have HN := Lib.hid hn
  have hn8 : n ≤ 8 := by omega
  have HSM := Lib.hid hsm
  clear hcell hsl2 hn hl8 hsm
  go_wp2_with fail
  go_loopw [6, 7, 8] (fun sv wv iv wr => ∃ k : Nat, k ≤ n ∧ iv = .int .i64 k ∧ sv = .string (streamB (fitL (L.take k))) ∧ wr.ownsRow w2.heap.size 9 1 wv (fitL (L.take k)).length ((fitL (L.take k)).map .string) ∧ Below w2.heap.size w2 wr)
    (fun _ _ i _ => n - (intOf i).toNat)
  case atStart => exact ⟨0, Nat.zero_le _, rfl, rfl, World.ownsRow_nil _ _ _ _, Below.refl _ _⟩
  case round =>
    obtain ⟨k, hk, rfl, rfl, hown, hbel⟩ := hrel
    have hfl : (fitL (L.take k)).length ≤ 8 := by have := fit_len L k; have := HN.out; omega
    have hss : (streamB (fitL (L.take k))).size ≤ 2456 := by
      have := stream_size (fitL (L.take k)) (fun t ht => HSM.out t (List.mem_of_mem_take (List.mem_filter.1 ht).1))
      omega
    by_cases hlt : k < n
    · have hkl : k < L.length := by have := HN.out; omega
      have ht3 := HSM.out L[k] (List.getElem_mem hkl)
      obtain ⟨g, o, rfl, c0⟩ := HC.out k hkl wr hbel
      obtain ⟨t, ht⟩ : ∃ t, L[k] = t := ⟨_, rfl⟩
      have HT := Lib.hid ht
      rw [ht] at c0 ht3
      clear ht
      by_cases h1 : 1 ≤ t.size
      · have hmk := make_val (am := am) (af := af) (N := N) t (.tuple #[.string (frameB t), .int .i64 0]) (by unfold MakeOut; rw [if_neg (by omega)]) (by unfold maxLen; omega)
        have HMK := Lib.hid hmk
        have hfz := frame_bytes t (by omega)
        have hfz2 : (frameB t).size ≤ 307 := by rw [hfz]; split <;> omega
        have hyes := fit_yes L k hkl (by rw [HT.out]; exact h1)
        rw [HT.out] at hyes
        have HY := Lib.hid hyes
        obtain ⟨F, hF⟩ : ∃ F, fitL (L.take k) = F := ⟨_, rfl⟩
        obtain ⟨S, hS0⟩ : ∃ S, streamB F = S := ⟨_, rfl⟩
        rw [hF] at hown hss hfl HY
        rw [hF, hS0]
        rw [hS0] at hss
        have HS0 := Lib.hid hS0
        obtain ⟨R, hR⟩ : ∃ R, frameB t = R := ⟨_, rfl⟩
        rw [hR] at HMK hfz2
        have HR := Lib.hid hR
        clear hmk hfz hyes hF hS0 hR
        go_wp2_with fail
        with_reducible refine (HMK.out _ (hS.on (hbw.trans (hbel.mono hbw.size)))).mono ?_
        rintro e w3 ⟨rfl, hb3⟩
        have c1 : w3.cell? ⟨g, o + k, none⟩ = some (.string t) := by
          obtain ⟨g', o', e1, e2⟩ := HC.out k hkl w3 (hbel.trans (hb3.mono hbel.size))
          obtain ⟨rfl, rfl⟩ : g = g' ∧ o = o' := by simpa using e1
          rw [e2, HT.out]
        have hown3 := hown.kept (w' := w3) (row := none) ⟨hb3.os, hb3.tape, hb3.output, hb3.size, fun i hi _ => hb3.block i hi⟩ (Classical.em _)
        have hbel3 := hbel.trans (hb3.mono hbel.size)
        clear hown hbel hb3 c0
        go_wp2_with (at_builtin; refine wpList_append_own _ rfl _ _ 32 rfl w2.heap.size 9 i0 (.string { data := #[] }) 1 16 Tryd.underlying32 hi hz0 hz1 hz2 rfl (by decide) _ _ _ rfl (hown3.alloc _) ⟨w3.heap.size, 0, none⟩ 1 1 [.string t] rfl rfl ?c1 ?c2 ?c3 ?c4 ?c5 ?_)
        case c1 =>
          intro j u hj
          match j, hj with
          | 0, hj =>
            simp at hj
            subst hj
            exact World.cell?_alloc_at _ _ _ _ rfl
        case c2 => intro u hu; simp at hu; subst hu; rfl
        case c3 => unfold maxLen; omega
        case c4 => omega
        case c5 => have := hbel3.size; simp; omega
        intro v' w4 hown4 hg4 _
        have hb4 : Below w2.heap.size w2 w4 := (hbel3.alloc hbel3.size _).grown hg4 (by have := hbel3.size; simp; omega) (fun r e => (hown3.lt r e).1)
        have hown5 : w4.ownsRow w2.heap.size 9 1 v' (fitL (L.take (k + 1))).length ((fitL (L.take (k + 1))).map .string) := by
          rw [HY.out, List.map_append, List.length_append]
          exact hown4
        have HO := Lib.hid hown5
        clear hown4 hown5 hown3 hg4 hbel3
        go_wp2
        go_roundw
        case rel => exact ⟨k + 1, by omega, by go_num, by rw [HY.out, stream_snoc, HS0.out, HR.out], HO.out, hb4⟩
        case measure => simp [intOf]; omega
      · have hmk := make_val (am := am) (af := af) (N := N) t (.tuple #[.string { data := #[] }, .int .i64 30]) (by unfold MakeOut; rw [if_pos (by omega)]) (by unfold maxLen; omega)
        have HMK := Lib.hid hmk
        have hno := fit_no L k hkl (by rw [HT.out]; exact h1)
        have HY := Lib.hid hno
        clear hmk hno
        go_wp2_with fail
        with_reducible refine (HMK.out _ (hS.on (hbw.trans (hbel.mono hbw.size)))).mono ?_
        rintro e w3 ⟨rfl, hb3⟩
        have hown3 := hown.kept (w' := w3) (row := none) ⟨hb3.os, hb3.tape, hb3.output, hb3.size, fun i hi _ => hb3.block i hi⟩ (Classical.em _)
        rw [← HY.out] at hown3
        have HO := Lib.hid hown3
        have hbel3 := hbel.trans (hb3.mono hbel.size)
        clear hown hbel hb3 c0 hown3
        go_wp2
        go_roundw
        case rel => exact ⟨k + 1, by omega, by go_num, by rw [HY.out], HO.out, hbel3⟩
        case measure => simp [intOf]; omega
    · obtain rfl : k = n := by omega
      have htk : L.take k = L := List.take_of_length_le (by have := HN.out; omega)
      rw [htk] at hown hss hfl ⊢
      have hfit := fit_all L HSM.out
      obtain ⟨F, hF⟩ : ∃ F, fitL L = F := ⟨_, rfl⟩
      obtain ⟨S, hS0⟩ : ∃ S, streamB F = S := ⟨_, rfl⟩
      rw [hF] at hown hss hfl hfit ⊢
      rw [hS0] at hss ⊢
      have hcut := stream_cut F (max 0 (min x (S.size : Int))).toNat hfit (by rw [hS0]; omega)
      rw [hS0] at hcut
      obtain ⟨q, left, hA1, hA2⟩ := hcut
      have hlf := (all_len hA1).2
      have hlf2 : left.size ≤ 2456 := by simp at hlf; omega
      have hall1 := fun W (h : SentR am af N W) => all_any (by simp; omega) hA1 W h
      have hall2 := fun W (h : SentR am af N W) => all_any (by rw [ByteArray.size_append]; simp; omega) hA2 W h
      have hpq : F.take q ++ F.drop q = F := List.take_append_drop q F
      obtain ⟨F1, hF1⟩ : ∃ F1, F.take q = F1 := ⟨_, rfl⟩
      obtain ⟨F2, hF2⟩ : ∃ F2, F.drop q = F2 := ⟨_, rfl⟩
      rw [hF1] at hall1 hpq
      rw [hF2] at hall2 hpq
      have HA1 := Lib.hid hall1
      have HA2 := Lib.hid hall2
      have HPQ := Lib.hid hpq
      have hl12 : F1.length + F2.length ≤ 8 := by rw [← List.length_append, hpq]; exact hfl
      have hw := strSl_of_owns hown
      have HW := Lib.hid hw
      clear hA1 hA2 hall1 hall2 hF1 hF2 hfit hS0 hF hlf hpq hw hown
      go_wp2_with fail
      with_reducible refine (HA1.out _ (hS.on (hbw.trans (hbel.mono hbw.size)))).mono ?_
      rintro e w3 ⟨⟨va, rfl, hsa⟩, hb3⟩
      replace HW := Lib.hid (HW.out.below hb3)
      replace hbw := hbw.trans ((hbel.trans (hb3.mono hbel.size)).mono hbw.size)
      clear hbel hb3
      go_wp2_with fail
      with_reducible refine (HA2.out _ (hS.on hbw)).mono ?_
      rintro e w4 ⟨⟨vb, rfl, hsb⟩, hb4⟩
      replace HW := Lib.hid (HW.out.below hb4)
      replace hsa := hsa.below hb4
      replace hbw := hbw.trans (hb4.mono hbw.size)
      clear hb4
      go_wp2_with (at_builtin; refine wpList_append_strs _ rfl _ _ 32 rfl w4.heap.size 9 i0 Tryd.underlying32 hi hz0 hz1 hz2 _ 0 [] rfl (World.ownsRow_nil _ _ _ _) va F1 rfl hsa ?c1 ?c2 ?_)
      case c1 => omega
      case c2 => exact Nat.le_refl _
      intro v5 w5 hown5 hg5
      have hb5 : Below w4.heap.size w4 w5 := (Below.refl _ _).grown hg5 (Nat.le_refl _) (fun r e => by cases e)
      replace hsb := hsb.below hb5
      go_wp2_with (at_builtin; refine wpList_append_strs _ rfl _ _ 32 rfl w4.heap.size 9 i0 Tryd.underlying32 hi hz0 hz1 hz2 _ _ _ rfl hown5 vb F2 rfl hsb ?d1 ?d2 ?_)
      case d1 => omega
      case d2 => exact hb5.size
      intro v6 w6 hown6 hg6
      have hb6 : Below w4.heap.size w4 w6 := hb5.grown hg6 hb5.size (fun r e => (hown5.lt r e).1)
      rw [← List.map_append, ← List.length_append, HPQ.out] at hown6
      have hsg := Lib.hid (strSl_of_owns hown6)
      replace HW := Lib.hid (HW.out.below hb6)
      replace hbw := hbw.trans (hb6.mono hbw.size)
      clear hown5 hown6 hg5 hg6 hb5 hb6 hsa hsb
      go_wp2_with fail
      with_reducible refine (texts_same F _ _ _ (by omega) hsg.out HW.out).mono ?_
      rintro e w7 ⟨rfl, hb7⟩
      replace hbw := hbw.trans (hb7.mono hbw.size)
      clear hb7
      go_wp2_with fail
      go_ret
      exact ⟨rfl, hbw⟩
end Go.Proofs.YthbfibnpfdegaaaDoor
