
/- The page's own answers for layer 4: Text. -/
import Derived.Test.YtbcgjgefkkibbaaLRefRight
namespace Go.Proofs.Ytbcgjgefkkibbaa
open Go.RowKit

/-- A value's bytes in a text. -/
def escC (c : UInt8) : List UInt8 := if c = 44 ∨ c = 92 then [92, c] else [c]
def escL (l : List UInt8) : List UInt8 := l.flatMap escC
/-- A label's bytes; a set's. -/
def labL (x : Lab) : List UInt8 := x.1.data.toList ++ 61 :: escL x.2.data.toList
def joinL : List Lab → List UInt8
  | [] => []
  | [x] => labL x
  | x :: y :: L => labL x ++ 44 :: joinL (y :: L)
def textB (L : List Lab) : ByteArray := ⟨(joinL L).toArray⟩
def TextV (L : List Lab) : Value := if rightB L = true then .tuple #[.string (textB L), .int .i64 0] else .tuple #[.string { data := #[] }, .int .i64 40]
theorem esc_len : ∀ l : List UInt8, (escL l).length ≤ 2 * l.length := by
  intro l
  induction l with
  | nil => simp [escL]
  | cons c l ih =>
    have h1 : (escC c).length ≤ 2 := by unfold escC; split <;> simp
    have : escL (c :: l) = escC c ++ escL l := by simp [escL]
    rw [this, List.length_append, List.length_cons]
    omega
theorem esc_snoc (l : List UInt8) (c : UInt8) : escL (l ++ [c]) = escL l ++ escC c := by simp [escL]
theorem join_snoc (L : List Lab) (x : Lab) (h : L ≠ []) : joinL (L ++ [x]) = joinL L ++ 44 :: labL x := by
  induction L with
  | nil => exact absurd rfl h
  | cons y L ih =>
    cases L with
    | nil => rfl
    | cons z L =>
      show labL y ++ 44 :: joinL ((z :: L) ++ [x]) = labL y ++ 44 :: joinL (z :: L) ++ 44 :: labL x
      rw [ih (by simp)]
      simp
theorem lab_len (x : Lab) (h : x.1.size ≤ 3000 ∧ x.2.size ≤ 3000) : (labL x).length ≤ 9001 := by
  have := esc_len x.2.data.toList
  unfold labL
  rw [List.length_append, List.length_cons]
  simp at this ⊢
  omega
theorem join_len : ∀ L : List Lab, smallLb L → (joinL L).length ≤ 9002 * L.length := by
  intro L
  induction L with
  | nil => intro _; simp [joinL]
  | cons x L ih =>
    intro h
    have h1 := lab_len x (h x (List.mem_cons_self ..))
    have h2 := ih fun y hy => h y (List.mem_cons_of_mem _ hy)
    cases L with
    | nil => show (labL x).length ≤ _; simp; omega
    | cons z L =>
      show (labL x ++ 44 :: joinL (z :: L)).length ≤ _
      rw [List.length_append, List.length_cons, List.length_cons (a := x)]
      omega
theorem right_len {L : List Lab} (h : rightB L = true) : 1 ≤ L.length ∧ L.length ≤ 6 := by
  unfold rightB at h
  simp only [Bool.and_eq_true, decide_eq_true_eq] at h
  exact h.2
theorem right_val (L : List Lab) (v : Value) (b : Bool) (hb : rightB L = b) (hn : L.length ≤ 1000) (sa : smallLb L) (W : World) (hL : LblSl W v L) :
    Calls Try.prog 23 #[v] W fun e w' => e = .returned (.bool b) ∧ Below W.heap.size W w' := by
  rw [← hb]
  exact refRight_any L v W hL hn sa

set_option maxHeartbeats 2000000 in
set_option maxRecDepth 100000 in
theorem refText_any4 (L : List Lab) (v : Value) (w : World) (h : LblSl w v L) (hn : L.length ≤ 1000) (sa : smallLb L) :
    Calls Try.prog 19 #[v] w fun e w' => e = .returned (TextV L) ∧ Below w.heap.size w w' := by
  cases hr : rightB L with
  | false =>
    have hv : TextV L = .tuple #[.string { data := #[] }, .int .i64 40] := by unfold TextV; rw [hr]; rfl
    rw [hv]
    have HR := Lib.hid (fun W hL => right_val L v false hr hn sa W hL)
    clear hv
    go_enter Try.func19, Try.ntmps19
    go_wp2_with fail
    with_reducible refine (HR.out _ h).mono ?_
    rintro e w2 ⟨rfl, hb⟩
    go_wp2_with fail
    go_ret2
    exact ⟨rfl, hb⟩
  | true =>
    have hv : TextV L = .tuple #[.string (textB L), .int .i64 0] := by unfold TextV; rw [hr]; rfl
    rw [hv]
    have HR := Lib.hid (fun W hL => right_val L v true hr hn sa W hL)
    have h6 := (right_len hr).2
    obtain ⟨T, hT⟩ : ∃ T, textB L = T := ⟨_, rfl⟩
    have HT := Lib.hid hT
    rw [hT]
    clear hv hT hr
    obtain ⟨ao, c, hv2, hc⟩ := h.shape
    subst hv2
    obtain ⟨n, hnn⟩ : ∃ n, n = L.length := ⟨_, rfl⟩
    rw [← hnn] at HR h6 hn ⊢
    have HL := Lib.hid h
    have HC := Lib.hid hc
    have HN := Lib.hid hnn
    have SA := Lib.hid sa
    have hL0 : LblSl w (.slice ao n c) L := by rw [hnn]; exact h
    clear hc hnn h sa
    go_enter Try.func19, Try.ntmps19
    go_wp2_with fail
    with_reducible refine (HR.out _ hL0).mono ?_
    rintro e w2 ⟨rfl, hb2⟩
    go_wp2_with fail
    go_loopw [4, 5] (fun sv i wr => ∃ (k : Nat) (S : ByteArray), k ≤ n ∧ i = .int .i64 k ∧ sv = .string S ∧ Hid (S.data.toList = joinL (L.take k)) ∧ Below w.heap.size w wr) (fun _ i _ => n - (intOf i).toNat)
    case atStart => exact ⟨0, { data := #[] }, Nat.zero_le _, rfl, rfl, rfl, hb2⟩
    case round =>
      obtain ⟨k, S, hk, rfl, rfl, HS, hbel⟩ := hrel
      by_cases hlt : k < n
      · have hkl : k < L.length := by have := HN.out; omega
        have hSz : S.size ≤ 54012 := by
          have h1 := join_len (L.take k) (fun x hx => SA.out x (List.mem_of_mem_take hx))
          rw [← HS.out, lenL, List.length_take] at h1
          omega
        obtain ⟨g, o, rfl, hcc⟩ := HC.out k hkl
        obtain ⟨s1, s2⟩ := SA.out _ (List.getElem_mem hkl)
        obtain ⟨x, y, hxy⟩ : ∃ x y, L[k] = (x, y) := ⟨_, _, rfl⟩
        rw [hxy] at hcc s1 s2
        dsimp only at hcc s1 s2
        have HX := Lib.hid hxy
        have c0 := (hcc wr hbel).1
        have c1 := (hcc wr hbel).2
        clear hxy hcc
        have hsnoc : joinL (L.take (k + 1)) = (if k = 0 then [] else S.data.toList ++ [44]) ++ (x.data.toList ++ 61 :: escL y.data.toList) := by
          rw [List.take_succ_eq_append_getElem hkl, HX.out]
          by_cases hk0 : k = 0
          · subst hk0
            rfl
          · rw [if_neg hk0, join_snoc _ _ (fun e => by have h := congrArg List.length e; rw [List.length_take, show ([] : List Lab).length = 0 from rfl] at h; omega), ← HS.out]
            simp [labL]
        have hcase : (k = 0 ∧ ∃ p, S ++ x ++ (⟨#[61]⟩ : ByteArray) = p ∧ p.size ≤ 57014 ∧ Hid (joinL (L.take (k + 1)) = p.data.toList ++ escL y.data.toList)) ∨
            (k ≠ 0 ∧ ∃ p, S ++ (⟨#[44]⟩ : ByteArray) ++ x ++ (⟨#[61]⟩ : ByteArray) = p ∧ p.size ≤ 57014 ∧ Hid (joinL (L.take (k + 1)) = p.data.toList ++ escL y.data.toList)) := by
          have e1 : (⟨#[61]⟩ : ByteArray).size = 1 := rfl
          have e2 : (⟨#[44]⟩ : ByteArray).size = 1 := rfl
          by_cases hk0 : k = 0
          · refine .inl ⟨hk0, _, rfl, by simp only [ByteArray.size_append, e1]; omega, ?_⟩
            have hS0 : S.data.toList = [] := by rw [HS.out, hk0]; rfl
            show joinL (L.take (k + 1)) = _
            rw [hsnoc, if_pos hk0]
            simp [hS0]
          · refine .inr ⟨hk0, _, rfl, by simp only [ByteArray.size_append, e1, e2]; omega, ?_⟩
            show joinL (L.take (k + 1)) = _
            rw [hsnoc, if_neg hk0]
            simp
        clear hsnoc
        have hcv : ∀ W : World, (convert 58 9 (.slice (some ⟨W.heap.size, 0, none⟩) 1 1)).run Try.prog (W.alloc (.cells #[.int .u8 92] 5)) = .ok (.string ⟨#[92]⟩) (W.alloc (.cells #[.int .u8 92] 5)) := fun W =>
          run_convert_bytes_back (P := Try.prog) _ 58 9 5 ⟨W.heap.size, 0, none⟩ 1 [92] Try.underlying58 Try.underlying5 Try.underlying9
            (fun j hj => match j, hj with
              | 0, _ => World.cell?_alloc_at _ _ _ _ rfl)
        rcases hcase with ⟨hk0, p, hp, hpz, HPJ⟩ | ⟨hk0, p, hp, hpz, HPJ⟩
        · subst hk0
          simp only [Nat.zero_mul, Nat.add_zero] at c0 c1
          go_wp2_with fail
          clear hp
          go_loopw [4, 7] (fun sv i wr2 => ∃ (m : Nat) (T2 : ByteArray), m ≤ y.size ∧ i = .int .i64 m ∧ sv = .string T2 ∧ Hid (T2.data.toList = p.data.toList ++ escL (y.data.toList.take m)) ∧ Below w.heap.size w wr2) (fun _ i _ => y.size - (intOf i).toNat)
          case atStart => exact ⟨0, p, Nat.zero_le _, rfl, rfl, by simp [escL, Hid], hbel⟩
          case round =>
            obtain ⟨m, T2, hm, rfl, rfl, HT2, hbel2⟩ := hrel
            by_cases hml : m < y.size
            · have hml2 : m < y.data.toList.length := by rw [lenL]; exact hml
              have hTz : T2.size ≤ 63014 := by
                have h1 := esc_len (y.data.toList.take m)
                have h2 := congrArg List.length HT2.out
                rw [List.length_append, lenL, lenL] at h2
                rw [List.length_take, lenL] at h1
                omega
              have htk : escL (y.data.toList.take (m + 1)) = escL (y.data.toList.take m) ++ escC y[m] := by
                rw [List.take_succ_eq_append_getElem hml2, esc_snoc]
                rfl
              have hone : (y.extract m (m + 1)).data.toList = [y[m]] := by
                rw [extL, List.drop_take, show m + 1 - m = 1 by omega, List.drop_eq_getElem_cons hml2]
                rfl
              have hlt8 := y[m].toNat_lt
              have hosz : (y.extract m (m + 1)).size ≤ 1 := by simp; omega
              have hsl : ∀ W : World, (Instr.slice 9 (.string y) (some (.int .i64 (m : Int))) (some (.int .i64 ((m : Int) + 1))) none).run Try.prog W = .ok (.string (y.extract m (m + 1))) W := fun W => by
                rw [run_slice_string (P := Try.prog) W 9 y .i64 .i64 m (m + 1) Try.underlying9 (by omega) (by omega) (by omega)]
                rfl
              obtain ⟨O, hO⟩ : ∃ O, y.extract m (m + 1) = O := ⟨_, rfl⟩
              rw [hO] at hone hosz
              simp only [hO] at hsl
              clear hO
              by_cases h44 : y[m].toNat = 44 ∨ y[m].toNat = 92
              · have hesc : escC y[m] = [92, y[m]] := by
                  unfold escC
                  rw [if_pos (h44.imp (fun e => UInt8.toNat_inj.1 e) (fun e => UInt8.toNat_inj.1 e))]
                have hnew : Hid ((T2 ++ (⟨#[92]⟩ : ByteArray) ++ O).data.toList = p.data.toList ++ escL (y.data.toList.take (m + 1))) := by
                  show (T2 ++ (⟨#[92]⟩ : ByteArray) ++ O).data.toList = _
                  rw [appL, appL, hone, htk, hesc, HT2.out]
                  simp
                have hcv2 := hcv wr
                have e92 : (⟨#[92]⟩ : ByteArray).size = 1 := rfl
                clear htk hone hesc hcv
                rcases h44 with h44 | h44
                · have b1 : ((y[m].toNat : Int) == 44) = true := by simp; omega
                  clear h44
                  go_wp2_with fail
                  go_roundw
                  case rel => exact ⟨m + 1, _, by omega, by go_num, rfl, hnew, (hbel2.alloc hbel2.size _)⟩
                  case measure => simp [intOf]; omega
                · have b1 : ((y[m].toNat : Int) == 44) = false := by simp; omega
                  have b2 : ((y[m].toNat : Int) == 92) = true := by simp; omega
                  clear h44
                  go_wp2_with fail
                  go_roundw
                  case rel => exact ⟨m + 1, _, by omega, by go_num, rfl, hnew, (hbel2.alloc hbel2.size _)⟩
                  case measure => simp [intOf]; omega
              · have hesc : escC y[m] = [y[m]] := by
                  unfold escC
                  rw [if_neg (fun e => h44 (e.imp (fun e => by rw [e]; rfl) (fun e => by rw [e]; rfl)))]
                have hnew : Hid ((T2 ++ O).data.toList = p.data.toList ++ escL (y.data.toList.take (m + 1))) := by
                  show (T2 ++ O).data.toList = _
                  rw [appL, hone, htk, hesc, HT2.out]
                  simp
                have b1 : ((y[m].toNat : Int) == 44) = false := by simp; omega
                have b2 : ((y[m].toNat : Int) == 92) = false := by simp; omega
                clear htk hone hesc hcv h44
                go_wp2_with fail
                go_roundw
                case rel => exact ⟨m + 1, _, by omega, by go_num, rfl, hnew, hbel2⟩
                case measure => simp [intOf]; omega
            · have hmm : y.data.toList.take m = y.data.toList := List.take_of_length_le (by rw [lenL]; omega)
              have hfin : Hid (T2.data.toList = joinL (L.take (0 + 1))) := by
                show T2.data.toList = _
                rw [HPJ.out, HT2.out, hmm]
              clear hmm hcv
              go_wp2_with fail
              go_roundw
              case rel => exact ⟨0 + 1, T2, by omega, by go_num, rfl, hfin, hbel2⟩
              case measure => simp [intOf]; omega
        · have hd0 : decide (0 < k) = true := by simp; omega
          go_wp2_with fail
          clear hp
          go_loopw [4, 7] (fun sv i wr2 => ∃ (m : Nat) (T2 : ByteArray), m ≤ y.size ∧ i = .int .i64 m ∧ sv = .string T2 ∧ Hid (T2.data.toList = p.data.toList ++ escL (y.data.toList.take m)) ∧ Below w.heap.size w wr2) (fun _ i _ => y.size - (intOf i).toNat)
          case atStart => exact ⟨0, p, Nat.zero_le _, rfl, rfl, by simp [escL, Hid], hbel⟩
          case round =>
            obtain ⟨m, T2, hm, rfl, rfl, HT2, hbel2⟩ := hrel
            by_cases hml : m < y.size
            · have hml2 : m < y.data.toList.length := by rw [lenL]; exact hml
              have hTz : T2.size ≤ 63014 := by
                have h1 := esc_len (y.data.toList.take m)
                have h2 := congrArg List.length HT2.out
                rw [List.length_append, lenL, lenL] at h2
                rw [List.length_take, lenL] at h1
                omega
              have htk : escL (y.data.toList.take (m + 1)) = escL (y.data.toList.take m) ++ escC y[m] := by
                rw [List.take_succ_eq_append_getElem hml2, esc_snoc]
                rfl
              have hone : (y.extract m (m + 1)).data.toList = [y[m]] := by
                rw [extL, List.drop_take, show m + 1 - m = 1 by omega, List.drop_eq_getElem_cons hml2]
                rfl
              have hlt8 := y[m].toNat_lt
              have hosz : (y.extract m (m + 1)).size ≤ 1 := by simp; omega
              have hsl : ∀ W : World, (Instr.slice 9 (.string y) (some (.int .i64 (m : Int))) (some (.int .i64 ((m : Int) + 1))) none).run Try.prog W = .ok (.string (y.extract m (m + 1))) W := fun W => by
                rw [run_slice_string (P := Try.prog) W 9 y .i64 .i64 m (m + 1) Try.underlying9 (by omega) (by omega) (by omega)]
                rfl
              obtain ⟨O, hO⟩ : ∃ O, y.extract m (m + 1) = O := ⟨_, rfl⟩
              rw [hO] at hone hosz
              simp only [hO] at hsl
              clear hO
              by_cases h44 : y[m].toNat = 44 ∨ y[m].toNat = 92
              · have hesc : escC y[m] = [92, y[m]] := by
                  unfold escC
                  rw [if_pos (h44.imp (fun e => UInt8.toNat_inj.1 e) (fun e => UInt8.toNat_inj.1 e))]
                have hnew : Hid ((T2 ++ (⟨#[92]⟩ : ByteArray) ++ O).data.toList = p.data.toList ++ escL (y.data.toList.take (m + 1))) := by
                  show (T2 ++ (⟨#[92]⟩ : ByteArray) ++ O).data.toList = _
                  rw [appL, appL, hone, htk, hesc, HT2.out]
                  simp
                have hcv2 := hcv wr
                have e92 : (⟨#[92]⟩ : ByteArray).size = 1 := rfl
                clear htk hone hesc hcv
                rcases h44 with h44 | h44
                · have b1 : ((y[m].toNat : Int) == 44) = true := by simp; omega
                  clear h44
                  go_wp2_with fail
                  go_roundw
                  case rel => exact ⟨m + 1, _, by omega, by go_num, rfl, hnew, (hbel2.alloc hbel2.size _)⟩
                  case measure => simp [intOf]; omega
                · have b1 : ((y[m].toNat : Int) == 44) = false := by simp; omega
                  have b2 : ((y[m].toNat : Int) == 92) = true := by simp; omega
                  clear h44
                  go_wp2_with fail
                  go_roundw
                  case rel => exact ⟨m + 1, _, by omega, by go_num, rfl, hnew, (hbel2.alloc hbel2.size _)⟩
                  case measure => simp [intOf]; omega
              · have hesc : escC y[m] = [y[m]] := by
                  unfold escC
                  rw [if_neg (fun e => h44 (e.imp (fun e => by rw [e]; rfl) (fun e => by rw [e]; rfl)))]
                have hnew : Hid ((T2 ++ O).data.toList = p.data.toList ++ escL (y.data.toList.take (m + 1))) := by
                  show (T2 ++ O).data.toList = _
                  rw [appL, hone, htk, hesc, HT2.out]
                  simp
                have b1 : ((y[m].toNat : Int) == 44) = false := by simp; omega
                have b2 : ((y[m].toNat : Int) == 92) = false := by simp; omega
                clear htk hone hesc hcv h44
                go_wp2_with fail
                go_roundw
                case rel => exact ⟨m + 1, _, by omega, by go_num, rfl, hnew, hbel2⟩
                case measure => simp [intOf]; omega
            · have hmm : y.data.toList.take m = y.data.toList := List.take_of_length_le (by rw [lenL]; omega)
              have hfin : Hid (T2.data.toList = joinL (L.take (k + 1))) := by
                show T2.data.toList = _
                rw [HPJ.out, HT2.out, hmm]
              clear hmm hcv
              go_wp2_with fail
              go_roundw
              case rel => exact ⟨k + 1, T2, by omega, by go_num, rfl, hfin, hbel2⟩
              case measure => simp [intOf]; omega
      · have hkk : L.take k = L := List.take_of_length_le (by have := HN.out; omega)
        have hST : S = T := by
          rw [← HT.out]
          apply baL
          rw [HS.out, hkk]
          rfl
        clear hkk
        subst hST
        go_wp2_with fail
        go_ret2
        exact ⟨rfl, hbel⟩
end Go.Proofs.Ytbcgjgefkkibbaa
