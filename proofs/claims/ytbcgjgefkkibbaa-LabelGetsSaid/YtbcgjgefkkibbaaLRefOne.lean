
/- The page's own answers for layer 4: one (the label that a text begins with). -/
import Derived.Test.YtbcgjgefkkibbaaLRefText
namespace Go.Proofs.Ytbcgjgefkkibbaa
open Go.RowKit

/-- What stands ahead of the first '=', and what is behind it. -/
def cutEq : List UInt8 → Option (List UInt8 × List UInt8)
  | [] => none
  | c :: t => if c = 61 then some ([], t) else (cutEq t).map fun r => (c :: r.1, r.2)
/-- A value told, and what is behind it (from the ',' on); none: a '\' with nothing behind it. -/
def valL : List UInt8 → Option (List UInt8 × List UInt8)
  | [] => some ([], [])
  | [c] => if c = 44 then some ([], [c]) else if c = 92 then none else some ([c], [])
  | c :: d :: t => if c = 44 then some ([], c :: d :: t) else if c = 92 then (valL t).map fun r => (d :: r.1, r.2) else (valL (d :: t)).map fun r => (c :: r.1, r.2)
def oneL (l : List UInt8) : Option (List UInt8 × List UInt8 × List UInt8) := (cutEq l).bind fun p => (valL p.2).map fun r => (p.1, r.1, r.2)
theorem cutEq_drop (l : List UInt8) (k : Nat) (hk : k < l.length) : cutEq (l.drop k) = if l[k] = 61 then some ([], l.drop (k + 1)) else (cutEq (l.drop (k + 1))).map fun r => (l[k] :: r.1, r.2) := by
  rw [List.drop_eq_getElem_cons hk]
  rfl
theorem valL_comma (l : List UInt8) (k : Nat) (hk : k < l.length) (h : l[k] = 44) : valL (l.drop k) = some ([], l.drop k) := by
  rw [List.drop_eq_getElem_cons hk, h]
  cases l.drop (k + 1) with
  | nil => simp [valL]
  | cons d t => simp [valL]
theorem valL_end (l : List UInt8) (k : Nat) (hk : k + 1 = l.length) (h : l[k]'(by omega) = 92) : valL (l.drop k) = none := by
  rw [List.drop_eq_getElem_cons (by omega), h, List.drop_eq_nil_of_le (by omega)]
  simp [valL]
theorem valL_skip (l : List UInt8) (k : Nat) (hk : k + 1 < l.length) (h : l[k]'(by omega) = 92) : valL (l.drop k) = (valL (l.drop (k + 2))).map fun r => (l[k + 1] :: r.1, r.2) := by
  rw [List.drop_eq_getElem_cons (by omega), h, List.drop_eq_getElem_cons hk]
  simp [valL]
theorem valL_plain (l : List UInt8) (k : Nat) (hk : k < l.length) (h1 : l[k] ≠ 44) (h2 : l[k] ≠ 92) : valL (l.drop k) = (valL (l.drop (k + 1))).map fun r => (l[k] :: r.1, r.2) := by
  rw [List.drop_eq_getElem_cons hk]
  cases l.drop (k + 1) with
  | nil => simp [valL, h1, h2]
  | cons d t => simp [valL, h1, h2]
theorem byte_ne {c : UInt8} {n : Nat} (hn : n < 256) (h : ¬ c.toNat = n) : c ≠ UInt8.ofNat n := fun e => h (by rw [e, UInt8.toNat_ofNat']; omega)
theorem byte_is {c : UInt8} {n : Nat} (hn : n < 256) (h : c.toNat = n) : c = UInt8.ofNat n := UInt8.toNat_inj.1 (by rw [h, UInt8.toNat_ofNat']; omega)

/-- What one answers. -/
def OneP (s : ByteArray) (e : Ending) : Prop :=
  (∃ x y r : ByteArray, oneL s.data.toList = some (x.data.toList, y.data.toList, r.data.toList) ∧ e = .returned (.tuple #[.agg #[.string x, .string y], .string r, .bool true])) ∨
  (oneL s.data.toList = none ∧ ∃ x y : ByteArray, e = .returned (.tuple #[.agg #[.string x, .string y], .string s, .bool false]))

/-- Two blocks that hold a label each. -/
def OneD (w : World) (a b c d : ByteArray) (V : World) : Prop := HasC V w.heap.size 41 #[.string a, .string b] ∧ HasC V (w.heap.size + 1) 41 #[.string c, .string d] ∧ Below w.heap.size w V
theorem OneD.drew {w V : World} {a b c d : ByteArray} (h : OneD w a b c d V) : OneD w a b c d V.drew := ⟨h.1, h.2.1, h.2.2.trans ((Below.refl _ _).drew.mono (Nat.le_refl _))⟩
theorem OneD.set1 {w V : World} {a b c d a' b' : ByteArray} (h : OneD w a b c d V) : OneD w a' b' c d ((V.setCell ⟨w.heap.size, 0, none⟩ (.string a')).setCell ⟨w.heap.size, 1, none⟩ (.string b')) :=
  ⟨HasC.eq ((h.1.set 0 _).set 1 _) rfl, (h.2.1.far _ _ (by simp)).far _ _ (by simp), (h.2.2.setCell (p := ⟨w.heap.size, 0, none⟩) (Nat.le_refl _) _).setCell (p := ⟨w.heap.size, 1, none⟩) (Nat.le_refl _) _⟩
theorem OneD.set2 {w V : World} {a b c d d' : ByteArray} (h : OneD w a b c d V) : OneD w a b c d' (V.setCell ⟨w.heap.size + 1, 1, none⟩ (.string d')) :=
  ⟨h.1.far _ _ (by simp), HasC.eq (h.2.1.set 1 _) rfl, h.2.2.setCell (p := ⟨w.heap.size + 1, 1, none⟩) (Nat.le_succ _) _⟩

set_option maxHeartbeats 2000000 in
set_option maxRecDepth 100000 in
theorem refOne_any (s : ByteArray) (hs : s.size ≤ 1000000) (w : World) :
    Calls Try.prog 32 #[.string s] w fun e w' => OneP s e ∧ Below w.heap.size w w' := by
  go_enter Try.func32, Try.ntmps32
  go_wp2_with fail
  go_loopw [5] (fun i wr => ∃ k : Nat, k ≤ s.size ∧ i = .int .i64 k ∧ Hid (cutEq s.data.toList = (cutEq (s.data.toList.drop k)).map fun r => (s.data.toList.take k ++ r.1, r.2)) ∧ wr = w.alloc (.cells #[.string { data := #[] }, .string { data := #[] }] 41))
    (fun i _ => s.size - (intOf i).toNat)
  case atStart => exact ⟨0, Nat.zero_le _, rfl, (show cutEq s.data.toList = (cutEq (s.data.toList.drop 0)).map fun r => (s.data.toList.take 0 ++ r.1, r.2) by simp), rfl⟩
  case round =>
    obtain ⟨k, hk, rfl, HE, rfl⟩ := hrel
    by_cases hlt : k < s.size
    · have hkl : k < s.data.toList.length := by rw [lenL]; exact hlt
      have hget : s.data.toList[k] = s[k] := rfl
      have hb8 := s[k].toNat_lt
      have hstep := cutEq_drop s.data.toList k hkl
      rw [hget] at hstep
      by_cases h61 : s[k].toNat = 61
      · have hc : s[k] = 61 := byte_is (by decide) h61
        rw [if_pos hc] at hstep
        have hcut := HE.out
        rw [hstep] at hcut
        have HCUT := Lib.hid hcut
        have b1 : ((s[k].toNat : Int) == 61) = true := by simp; omega
        have bk : ((k : Int) == (s.size : Int)) = false := by simp; omega
        have b2 : ((s[k].toNat : Int) != 61) = false := by simp; omega
        have hnm : (s.extract 0 k).data.toList = s.data.toList.take k := by rw [extL, List.drop_zero]
        obtain ⟨X, hX⟩ : ∃ X, s.extract 0 k = X := ⟨_, rfl⟩
        have HNM := Lib.hid hnm
        clear hstep hcut hc h61 hget hnm
        go_wp2_with fail
        go_loopw [7] (fun i wr => ∃ (m : Nat) (V : ByteArray), m ≤ s.size ∧ i = .int .i64 m ∧ V.size ≤ m ∧ Hid (valL (s.data.toList.drop (k + 1)) = (valL (s.data.toList.drop m)).map fun r => (V.data.toList ++ r.1, r.2)) ∧ OneD w { data := #[] } { data := #[] } X V wr)
          (fun i _ => s.size - (intOf i).toNat)
        case atStart => exact ⟨k + 1, { data := #[] }, by omega, by go_num, Nat.zero_le _, (show valL (s.data.toList.drop (k + 1)) = (valL (s.data.toList.drop (k + 1))).map fun r => ((ByteArray.data { data := #[] }).toList ++ r.1, r.2) by simp), (HasC.new _ _ _).alloc _, HasC.at_ _ _ _ (by simp), ((Below.refl _ _).alloc (Nat.le_refl _) _).alloc (by simp) _⟩
        case round =>
          obtain ⟨m, V, hm, rfl, hVm, HV, hD⟩ := hrel
          have d0 : wr.cell? ⟨w.heap.size + 1, 0, none⟩ = some (.string X) := hD.2.1.cell 0
          have d1 : wr.cell? ⟨w.heap.size + 1, 1, none⟩ = some (.string V) := hD.2.1.cell 1
          have g0 : wr.cell? ⟨w.heap.size, 0, none⟩ = some (.string { data := #[] }) := hD.1.cell 0
          have g1 : wr.cell? ⟨w.heap.size, 1, none⟩ = some (.string { data := #[] }) := hD.1.cell 1
          have z0 := hD.1.frozen 0
          have z1 := hD.1.frozen 1
          have z2 := hD.2.1.frozen 0
          have z3 := hD.2.1.frozen 1
          by_cases hml : m < s.size
          · have hml2 : m < s.data.toList.length := by rw [lenL]; exact hml
            have hgm : s.data.toList[m] = s[m] := rfl
            have hm8 := s[m].toNat_lt
            by_cases h44 : s[m].toNat = 44
            · have hv := valL_comma s.data.toList m hml2 (by rw [hgm]; exact byte_is (by decide) h44)
              have hone : oneL s.data.toList = some (X.data.toList, V.data.toList, (s.extract m s.size).data.toList) := by
                unfold oneL
                rw [HCUT.out]
                simp only [Option.map_some, Option.bind_some, List.append_nil]
                rw [HV.out, hv, ← HNM.out, hX, extL, List.take_of_length_le (by rw [lenL]; exact Nat.le_refl _)]
                simp
              have HO := Lib.hid hone
              have c1 : ((s[m].toNat : Int) == 44) = true := by simp; omega
              clear hv hone h44 hgm
              go_wp2_with fail
              have hD4 := (hD.set1 (a' := X) (b' := V)).drew
              go_region
              go_wp2_with fail
              refine bodyPost_ret (v := .tuple #[.agg #[.string X, .string V], .string (s.extract m s.size), .bool true]) ?_ rfl ⟨.inl ⟨_, _, _, HO.out, rfl⟩, hD4.2.2⟩
              simp [results, Try.results32, go_sem, g0, g1]
            · have c1 : ((s[m].toNat : Int) == 44) = false := by simp; omega
              by_cases h92 : s[m].toNat = 92
              · have c2 : ((s[m].toNat : Int) == 92) = true := by simp; omega
                by_cases hme : m + 1 = s.size
                · have hv := valL_end s.data.toList m (by rw [lenL]; exact hme) (by rw [hgm]; exact byte_is (by decide) h92)
                  have hone : oneL s.data.toList = none := by
                    unfold oneL
                    rw [HCUT.out]
                    simp only [Option.map_some, Option.bind_some]
                    rw [HV.out, hv]
                    rfl
                  have HO := Lib.hid hone
                  have c3 : ((m : Int) + 1 == (s.size : Int)) = true := by simp; omega
                  clear hv hone h44 h92 hgm
                  go_wp2_with fail
                  have hD4 := hD.set1 (a' := X) (b' := V)
                  refine bodyPost_ret (v := .tuple #[.agg #[.string X, .string V], .string s, .bool false]) ?_ rfl ⟨.inr ⟨HO.out, _, _, rfl⟩, hD4.2.2⟩
                  simp [results, Try.results32, go_sem, g0, g1]
                · have hm1 : m + 1 < s.data.toList.length := by rw [lenL]; omega
                  have hv := valL_skip s.data.toList m hm1 (by rw [hgm]; exact byte_is (by decide) h92)
                  have c3 : ((m : Int) + 1 == (s.size : Int)) = false := by simp; omega
                  have hsl : ∀ W : World, (Instr.slice 9 (.string s) (some (.int .i64 ((m : Int) + 1))) (some (.int .i64 ((m : Int) + 1 + 1))) none).run Try.prog W = .ok (.string (s.extract (m + 1) (m + 1 + 1))) W := fun W => by
                    rw [run_slice_string (P := Try.prog) W 9 s .i64 .i64 ((m : Int) + 1) ((m : Int) + 1 + 1) Try.underlying9 (by omega) (by omega) (by omega)]
                    rfl
                  have hone : (s.extract (m + 1) (m + 1 + 1)).data.toList = [s.data.toList[m + 1]] := by
                    rw [extL, List.drop_take, show m + 1 + 1 - (m + 1) = 1 by omega, List.drop_eq_getElem_cons hm1]
                    rfl
                  obtain ⟨O, hO⟩ : ∃ O, s.extract (m + 1) (m + 1 + 1) = O := ⟨_, rfl⟩
                  have hOz : O.size ≤ 1 := by rw [← hO]; simp; omega
                  rw [hO] at hone
                  simp only [hO] at hsl
                  have hnx : Hid (valL (s.data.toList.drop (k + 1)) = (valL (s.data.toList.drop (m + 1 + 1))).map fun r => ((V ++ O).data.toList ++ r.1, r.2)) := by
                    show valL (s.data.toList.drop (k + 1)) = _
                    rw [HV.out, hv, appL, hone]
                    cases valL (s.data.toList.drop (m + 2)) <;> simp
                  clear hv hone h44 h92 hgm hO
                  go_wp2_with fail
                  have hD4 := (hD.set2 (d' := V ++ O)).drew
                  go_region
                  go_wp2_with fail
                  go_roundw
                  case rel => exact ⟨m + 1 + 1, V ++ O, by omega, by go_num, by rw [ByteArray.size_append]; omega, hnx, hD4⟩
                  case measure => simp [intOf]; omega
              · have c2 : ((s[m].toNat : Int) == 92) = false := by simp; omega
                have hv := valL_plain s.data.toList m hml2 (by rw [hgm]; exact byte_ne (by decide) h44) (by rw [hgm]; exact byte_ne (by decide) h92)
                have hsl : ∀ W : World, (Instr.slice 9 (.string s) (some (.int .i64 (m : Int))) (some (.int .i64 ((m : Int) + 1))) none).run Try.prog W = .ok (.string (s.extract m (m + 1))) W := fun W => by
                  rw [run_slice_string (P := Try.prog) W 9 s .i64 .i64 (m : Int) ((m : Int) + 1) Try.underlying9 (by omega) (by omega) (by omega)]
                  rfl
                have hone : (s.extract m (m + 1)).data.toList = [s.data.toList[m]] := by
                  rw [extL, List.drop_take, show m + 1 - m = 1 by omega, List.drop_eq_getElem_cons hml2]
                  rfl
                obtain ⟨O, hO⟩ : ∃ O, s.extract m (m + 1) = O := ⟨_, rfl⟩
                have hOz : O.size ≤ 1 := by rw [← hO]; simp; omega
                rw [hO] at hone
                simp only [hO] at hsl
                have hnx : Hid (valL (s.data.toList.drop (k + 1)) = (valL (s.data.toList.drop (m + 1))).map fun r => ((V ++ O).data.toList ++ r.1, r.2)) := by
                  show valL (s.data.toList.drop (k + 1)) = _
                  rw [HV.out, hv, appL, hone]
                  cases valL (s.data.toList.drop (m + 1)) <;> simp
                clear hv hone h44 h92 hgm hO
                go_wp2_with fail
                have hD4 := (hD.set2 (d' := V ++ O)).drew
                go_region
                go_wp2_with fail
                go_roundw
                case rel => exact ⟨m + 1, V ++ O, by omega, by go_num, by rw [ByteArray.size_append]; omega, hnx, hD4⟩
                case measure => simp [intOf]; omega
          · have hd : s.data.toList.drop m = [] := List.drop_eq_nil_of_le (by rw [lenL]; omega)
            have hone : oneL s.data.toList = some (X.data.toList, V.data.toList, (ByteArray.data { data := #[] }).toList) := by
              unfold oneL
              rw [HCUT.out]
              simp only [Option.map_some, Option.bind_some, List.append_nil]
              rw [HV.out, hd, ← HNM.out, hX]
              simp [valL]
            have HO := Lib.hid hone
            clear hd hone
            go_wp2_with fail
            have hD4 := hD.set1 (a' := X) (b' := V)
            refine bodyPost_ret (v := .tuple #[.agg #[.string X, .string V], .string { data := #[] }, .bool true]) ?_ rfl ⟨.inl ⟨_, _, _, HO.out, rfl⟩, hD4.2.2⟩
            simp [results, Try.results32, go_sem, g0, g1]
      · have hc : s[k] ≠ 61 := byte_ne (by decide) h61
        rw [if_neg hc] at hstep
        have hnx : Hid (cutEq s.data.toList = (cutEq (s.data.toList.drop (k + 1))).map fun r => (s.data.toList.take (k + 1) ++ r.1, r.2)) := by
          show cutEq s.data.toList = _
          rw [HE.out, hstep, List.take_succ_eq_append_getElem hkl, hget]
          cases cutEq (s.data.toList.drop (k + 1)) <;> simp
        have b1 : ((s[k].toNat : Int) == 61) = false := by simp; omega
        clear hstep hc h61 hget
        go_wp2_with fail
        go_roundw
        case rel => exact ⟨k + 1, by omega, by go_num, hnx, by first | trivial | rfl⟩
        case measure => simp [intOf]; omega
    · have hd : s.data.toList.drop k = [] := List.drop_eq_nil_of_le (by rw [lenL]; omega)
      have hno : oneL s.data.toList = none := by
        unfold oneL
        rw [HE.out, hd]
        rfl
      have HNO := Lib.hid hno
      have hks : k = s.size := by omega
      clear hd hno
      go_wp2_with fail
      refine bodyPost_ret (v := .tuple #[.agg #[.string { data := #[] }, .string { data := #[] }], .string s, .bool false]) ?_ rfl ⟨.inr ⟨HNO.out, _, _, rfl⟩, (Below.refl _ _).alloc (Nat.le_refl _) _⟩
      simp [results, Try.results32, go_sem]
end Go.Proofs.Ytbcgjgefkkibbaa
