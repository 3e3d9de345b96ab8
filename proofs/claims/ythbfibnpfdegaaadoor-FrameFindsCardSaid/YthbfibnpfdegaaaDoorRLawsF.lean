/- Layer 3's statements: FrameFinds. -/
import Derived.Test.YthbfibnpfdegaaaDoorRLawsS
import Derived.Lib.ConvBytes
namespace Go.Proofs.YthbfibnpfdegaaaDoor
open Go.RowKit

/-- A text's bytes, in a new block. -/
theorem bytes_of (P : ByteArray) (W : World) : ∃ cap V, (convert 9 37 (.string P)).run Tryd.prog W = .ok (.slice (some ⟨W.heap.size, 0, none⟩) P.size cap) V ∧ Below W.heap.size W V ∧ W.heap.size < V.heap.size ∧
    (∀ j, j < P.size → V.cell? ⟨W.heap.size, j, none⟩ = some (.int .u8 ((P.data.toList.getD j 0).toNat : Int))) ∧ (∀ j, j < P.size → V.frozen? ⟨W.heap.size, j, none⟩ = false) ∧ (∃ cs fr, V.heap[W.heap.size]? = some (.cells cs 5 fr)) := by
  refine ⟨_, _, Lib.run_convert_string_bytes (P := Tryd.prog) W 9 37 5 P Tryd.underlying9 Tryd.underlying37 Tryd.underlying5, ?_, ?_, ?_, ?_, ⟨_, _, Lib.bytesWorld_at_new W 5 P⟩⟩
  · exact ⟨rfl, rfl, rfl, by rw [Lib.bytesWorld_size]; omega, fun j hj => Lib.bytesWorld_at_old W 5 P j hj⟩
  · rw [Lib.bytesWorld_size]
    omega
  · exact fun j hj => Lib.bytesWorld_cell W 5 P j hj
  · intro j hj
    have hsz : j < (Lib.bytesCells W 5 P).size := by
      unfold Lib.bytesCells
      simp
      omega
    simp [World.frozen?, Lib.bytesWorld_at_new]
    omega

/-- One of them that is another one, made a text again. -/
theorem bytes_set (P Q : ByteArray) (B k cap : Nat) (d : UInt8) (V : World) (_hk : k < P.size) (hk2 : k < P.data.size) (hQ : Q.data.toList = P.data.toList.set k (P.data[k] ^^^ d))
    (hcell : ∀ j, j < P.size → V.cell? ⟨B, j, none⟩ = some (.int .u8 ((P.data.toList.getD j 0).toNat : Int))) (hrow : ∃ cs fr, V.heap[B]? = some (.cells cs 5 fr)) (hB : B < V.heap.size) :
    ∀ U, Below V.heap.size (V.setCell ⟨B, k, none⟩ (.int .u8 (bits .xor .u8 (P.data[k].toNat : Int) (d.toNat : Int)))) U → (convert 37 9 (.slice (some ⟨B, 0, none⟩) P.size cap)).run Tryd.prog U = .ok (.string Q) U := by
  obtain ⟨cs, fr, hr⟩ := hrow
  have hx : bits .xor .u8 (P.data[k].toNat : Int) (d.toNat : Int) = ((P.data[k] ^^^ d).toNat : Int) := by
    rw [u8_xor_nat _ _ (P.data[k].toNat_lt) d.toNat_lt, UInt8.toNat_xor]
  rw [hx]
  intro U hU
  obtain ⟨c, hc⟩ : ∃ c, P.data[k] ^^^ d = c := ⟨_, rfl⟩
  rw [hc] at hQ hU
  have hr' : (V.setCell ⟨B, k, none⟩ (.int .u8 (c.toNat : Int))).heap[B]? = some (.cells (cs.setIfInBounds k (.int .u8 (c.toNat : Int))) 5 fr) := by
    simp [World.setCell, Array.getElem?_modify, hr]
  have hl : (P.data.toList.set k c).length = P.size := by simp
  have hcells : ∀ j, j < P.size → cs[j]? = some (.int .u8 ((P.data.toList.getD j 0).toNat : Int)) := fun j hj => by
    rw [← hcell j hj, cell_of_row V B j cs 5 fr hr]
  have h := run_convert_bytes_back (P := Tryd.prog) U 37 9 5 ⟨B, 0, none⟩ cap (P.data.toList.set k c) Tryd.underlying37 Tryd.underlying5 Tryd.underlying9
    (fun j hj => by
      rw [hl] at hj
      have ha : (⟨B, 0, none⟩ : Addr).add j = ⟨B, j, none⟩ := by simp [Addr.add]; exact Eq.symm
      rw [ha, hU.cell (p := ⟨B, j, none⟩) hB, cell_of_row _ B j _ 5 fr hr']
      by_cases hjk : k = j
      · subst hjk
        have hlt := (Array.getElem?_eq_some_iff.1 (hcells k hj)).1
        simp [hlt]
      · rw [Array.getElem?_setIfInBounds_ne hjk, hcells j hj, List.getElem_set_ne hjk, List.getD_eq_getElem?_getD, List.getElem?_eq_getElem (by simpa using hj)]
        rfl)
  rw [hl] at h
  have hq : (⟨(P.data.toList.set k c).toArray⟩ : ByteArray) = Q := by
    apply ba_list
    rw [hQ]
  rw [hq] at h
  exact h

set_option maxHeartbeats 1000000 in
set_option maxRecDepth 100000 in
theorem finds_main {am af : Addr} {N : Nat} (s A P Q : ByteArray) (j k : Nat) (d : UInt8) (hd : (d.toNat : Int) ≠ 0) (hA : A.size ≤ 2000) (hj : j < A.size + 4) (hk : (P.size : Int) - 1 - j = k) (hPz : P.size ≤ 2007) (_hP6 : A.size + 6 ≤ P.size)
    (hkk : k < P.size) (hk2 : k < P.data.size) (hQ : Hid (Q.data.toList = P.data.toList.set k (P.data[k] ^^^ d)))
    (HCA : Hid (∀ W, Calls Tryd.prog 12 #[.string s] W fun e w' => e = .returned (.string A) ∧ W = w'))
    (HMK : Hid (∀ W, SentR am af N W → Calls Tryd.prog 11 #[.string A] W fun e w' => e = .returned (.tuple #[.string P, .int .i64 0]) ∧ Below W.heap.size W w'))
    (HRD : Hid (∀ W, SentR am af N W → Calls Tryd.prog 14 #[.string Q] W fun e w' => e = .returned (.tuple #[.string { data := #[] }, .string Q, .int .i64 31]) ∧ Below W.heap.size W w'))
    (w : World) (hS : SentR am af N w) :
    Calls Tryd.prog 6 #[.string s, .int .i64 (j : Int), .int .u8 (d.toNat : Int)] w fun e w' => e = .returned (.bool true) ∧ Below w.heap.size w w' := by
  have hdl := d.toNat_lt
  go_enter Tryd.func6, Tryd.ntmps6
  go_wp2_with fail
  refine (shown_any _ hS).mono ?_
  rintro e w1 ⟨rfl, hbw⟩
  go_wp2_with fail
  with_reducible refine (HCA.out _).mono ?_
  rintro e w' ⟨rfl, rfl⟩
  go_wp2_with fail
  with_reducible refine (HMK.out _ (hS.on hbw)).mono ?_
  rintro e w' ⟨rfl, hb⟩
  replace hbw := hbw.trans (hb.mono hbw.size)
  clear hb
  go_wp2_with fail
  with_reducible refine (HCA.out _).mono ?_
  rintro e w' ⟨rfl, rfl⟩
  have hj0 : ¬ (j : Int) < 0 := by omega
  have hj4 : ¬ (A.size : Int) + 4 ≤ j := by omega
  have hd0 : ((d.toNat : Int) == 0) = false := by simpa using hd
  have hpj : ¬ P.size ≤ j := by omega
  obtain ⟨cap, V, hcv, hbV, hlV, hcell, hfz, hrow⟩ := bytes_of P w'
  have c0 := hcell k hkk
  have f0 := hfz k hkk
  have hback := bytes_set P Q w'.heap.size k cap d V hkk hk2 hQ.out hcell hrow hlV
  have hcv2 := hback _ (Below.refl _ _)
  have HBACK := Lib.hid hback
  have hb2 : Below w.heap.size w (V.setCell ⟨w'.heap.size, k, none⟩ (.int .u8 (bits .xor .u8 (P.data[k].toNat : Int) (d.toNat : Int)))) := (hbw.trans (hbV.mono hbw.size)).setCell (p := ⟨w'.heap.size, k, none⟩) hbw.size _
  have HB2 := Lib.hid hb2
  clear hb2 hrow hcell hfz hback
  go_wp2_with fail
  with_reducible refine (HRD.out _ (hS.on HB2.out)).mono ?_
  rintro e w5 ⟨rfl, hb5⟩
  have hcv3 := HBACK.out w5 (hb5.mono (by simp [World.setCell]))
  have HB5 := Lib.hid (HB2.out.trans (hb5.mono HB2.out.size))
  clear hcv2 hcv hb5 c0 f0
  go_wp2_with fail
  go_ret
  exact ⟨rfl, HB5.out⟩

theorem xor_ne (a d : UInt8) (h : (d.toNat : Int) ≠ 0) : a ≠ a ^^^ d := by
  intro e
  have h2 : a ^^^ a = a ^^^ (a ^^^ d) := by rw [← e]
  rw [UInt8.xor_self, ← UInt8.xor_assoc, UInt8.xor_self, UInt8.zero_xor] at h2
  subst h2
  exact h rfl
set_option maxHeartbeats 1000000 in
set_option maxRecDepth 100000 in
theorem finds_walk {am af : Addr} {N : Nat} (s : ByteArray) (x : Int) (d : UInt8) (hs : s.size ≤ maxLen) (w : World) (hS : SentR am af N w) :
    Calls Tryd.prog 6 #[.string s, .int .i64 x, .int .u8 (d.toNat : Int)] w fun e w' => e = .returned (.bool true) ∧ Below w.heap.size w w' := by
  obtain ⟨A, hA, -, hca⟩ := cutR_as s hs
  have HCA := Lib.hid hca
  clear hca hs
  by_cases hbad : A.size < 1 ∨ 2000 < A.size
  · have HMK : Hid (∀ W, SentR am af N W → Calls Tryd.prog 11 #[.string A] W fun e w' => e = .returned (.tuple #[.string { data := #[] }, .int .i64 30]) ∧ Below W.heap.size W w') := fun W h => by rw [← make_no hbad]; exact make_any A (by unfold maxLen; omega) W h
    clear hbad
    go_enter Tryd.func6, Tryd.ntmps6
    go_wp2_with fail
    refine (shown_any _ hS).mono ?_
    rintro e w1 ⟨rfl, hbw⟩
    go_wp2_with fail
    with_reducible refine (HCA.out _).mono ?_
    rintro e w' ⟨rfl, rfl⟩
    go_wp2_with fail
    with_reducible refine (HMK.out _ (hS.on hbw)).mono ?_
    rintro e w' ⟨rfl, hb⟩
    replace hbw := hbw.trans (hb.mono hbw.size)
    clear hb
    go_wp2_with fail
    go_ret
    exact ⟨rfl, hbw⟩
  · have h1 : 1 ≤ A.size := by omega
    have h2 : A.size ≤ 2000 := by omega
    have HMK : Hid (∀ W, SentR am af N W → Calls Tryd.prog 11 #[.string A] W fun e w' => e = .returned (.tuple #[.string (frameB A), .int .i64 0]) ∧ Below W.heap.size W w') := fun W h => by rw [← make_ok h1 h2]; exact make_any A (by unfold maxLen; omega) W h
    obtain ⟨f1, f2, f3⟩ := frame_le h2
    have hoth := frame_other A h1 h2
    obtain ⟨P, hP⟩ : ∃ P, frameB A = P := ⟨_, rfl⟩
    rw [hP] at HMK f1 f2 f3
    by_cases hx : x < 0
    · clear hbad hP hoth
      go_enter Tryd.func6, Tryd.ntmps6
      go_wp2_with fail
      refine (shown_any _ hS).mono ?_
      rintro e w1 ⟨rfl, hbw⟩
      go_wp2_with fail
      with_reducible refine (HCA.out _).mono ?_
      rintro e w' ⟨rfl, rfl⟩
      go_wp2_with fail
      with_reducible refine (HMK.out _ (hS.on hbw)).mono ?_
      rintro e w' ⟨rfl, hb⟩
      replace hbw := hbw.trans (hb.mono hbw.size)
      clear hb
      go_wp2_with fail
      go_ret
      exact ⟨rfl, hbw⟩
    · obtain ⟨j, rfl⟩ : ∃ j : Nat, x = j := ⟨x.toNat, by omega⟩
      by_cases hj : A.size + 4 ≤ j
      · clear hbad hP hoth
        have hj2 : (A.size : Int) + 4 ≤ j := by omega
        go_enter Tryd.func6, Tryd.ntmps6
        go_wp2_with fail
        refine (shown_any _ hS).mono ?_
        rintro e w1 ⟨rfl, hbw⟩
        go_wp2_with fail
        with_reducible refine (HCA.out _).mono ?_
        rintro e w' ⟨rfl, rfl⟩
        go_wp2_with fail
        with_reducible refine (HMK.out _ (hS.on hbw)).mono ?_
        rintro e w' ⟨rfl, hb⟩
        replace hbw := hbw.trans (hb.mono hbw.size)
        clear hb
        go_wp2_with fail
        with_reducible refine (HCA.out _).mono ?_
        rintro e w' ⟨rfl, rfl⟩
        go_wp2_with fail
        go_ret
        exact ⟨rfl, hbw⟩
      · by_cases hd : (d.toNat : Int) = 0
        · clear hbad hP hoth
          have hj2 : ¬ (A.size : Int) + 4 ≤ j := by omega
          rw [hd]
          go_enter Tryd.func6, Tryd.ntmps6
          go_wp2_with fail
          refine (shown_any _ hS).mono ?_
          rintro e w1 ⟨rfl, hbw⟩
          go_wp2_with fail
          with_reducible refine (HCA.out _).mono ?_
          rintro e w' ⟨rfl, rfl⟩
          go_wp2_with fail
          with_reducible refine (HMK.out _ (hS.on hbw)).mono ?_
          rintro e w' ⟨rfl, hb⟩
          replace hbw := hbw.trans (hb.mono hbw.size)
          clear hb
          go_wp2_with fail
          with_reducible refine (HCA.out _).mono ?_
          rintro e w' ⟨rfl, rfl⟩
          go_wp2_with fail
          go_ret
          exact ⟨rfl, hbw⟩
        · obtain ⟨k, hk⟩ : ∃ k : Nat, (P.size : Int) - 1 - j = k := ⟨P.size - 1 - j, by omega⟩
          have hkk : k < P.size := by omega
          obtain ⟨Q, hQ⟩ : ∃ Q : ByteArray, Q.data.toList = P.data.toList.set k (P.data[k]'hkk ^^^ d) := ⟨⟨(P.data.toList.set k (P.data[k]'hkk ^^^ d)).toArray⟩, rfl⟩
          have hQz : Q.size = P.size := by
            have := congrArg List.length hQ
            simpa using this
          have hRO : ReadOut Q = .tuple #[.string { data := #[] }, .string Q, .int .i64 31] := by
            subst hP
            have := hoth k ((frameB A).data[k]'hkk ^^^ d) hkk (by omega) (xor_ne _ d hd)
            unfold ReadOut
            rw [hQ, this]
          refine finds_main (N := N) s A P Q j k d hd h2 (by omega) hk f1 (by omega) hkk hkk hQ HCA HMK (fun W h => ?_) w hS
          rw [← hRO]
          exact read_any Q (by unfold maxLen; omega) W h
end Go.Proofs.YthbfibnpfdegaaaDoor
