/- The statements' walks: ExactFull. -/
import Derived.Test.YtncjbbgenngegaaELawsP
namespace Go.Proofs.Ytncjbbgenngegaa
open Go.RowKit

theorem wrap_u64 (x : Int) : IntKind.u64.wrap x = x % 18446744073709551616 := by simp [IntKind.wrap, IntKind.signed, IntKind.bits]
/-- k numbers from f on. -/
def upN (f : Nat) : Nat → List Nat
  | 0 => []
  | k + 1 => upN f k ++ [(f + k) % 18446744073709551616]
theorem up_len (f : Nat) : ∀ k, (upN f k).length = k
  | 0 => rfl
  | k + 1 => by unfold upN; rw [List.length_append, up_len f k]; rfl
theorem up_mem (f x : Nat) : ∀ k, x ∈ upN f k ↔ ∃ i, i < k ∧ x = (f + i) % 18446744073709551616
  | 0 => by simp [upN]
  | k + 1 => by
    unfold upN
    rw [List.mem_append, up_mem f x k, List.mem_singleton]
    constructor
    · rintro (⟨i, h1, h2⟩ | h)
      · exact ⟨i, by omega, h2⟩
      · exact ⟨k, by omega, h⟩
    · rintro ⟨i, h1, h2⟩
      by_cases h : i = k
      · subst h; exact .inr h2
      · exact .inl ⟨i, by omega, h2⟩
theorem put_more {x : Nat} : ∀ {A : List Nat}, x ∉ A → (putN x A).length = A.length + 1
  | [], _ => rfl
  | a :: t, h => by
    have h1 : ¬ a = x := fun e => h (e ▸ List.mem_cons_self ..)
    have h2 : x ∉ t := fun e => h (List.mem_cons_of_mem _ e)
    unfold putN
    by_cases hl : a < x
    · rw [if_pos hl, List.length_cons, List.length_cons, put_more h2]
    · rw [if_neg hl, if_neg h1]; rfl
theorem of_up_len (f : Nat) : ∀ k, k ≤ 100 → (ofN (upN f k)).length = k
  | 0, _ => rfl
  | k + 1, h => by
    show (ofN (upN f k ++ _)).length = k + 1
    rw [of_snoc, put_more, of_up_len f k (by omega)]
    rw [mem_of, up_mem]
    rintro ⟨i, h1, h2⟩
    omega
/-- What the sixty-four numbers, and one more, come to. -/
theorem full_big {f n : Nat} (hn : 64 < n) (h : n ≤ 70) : ofP (upN f n) = ([], 60) := by
  unfold ofP
  rw [if_neg (by rw [of_up_len f n (by omega)]; omega)]
theorem full_ok {f n : Nat} (hn : n ≤ 64) : ofP (upN f n) = (ofN (upN f n), 0) := by
  unfold ofP
  rw [if_pos (by rw [of_up_len f n (by omega)]; omega)]
theorem full_same {f n : Nat} (hf : f < 18446744073709551616) (hn : n ≤ 64) (h0 : 0 < n) : addP (ofN (upN f n)) f = (ofN (upN f n), 0) := by
  have hl : (ofN (upN f n)).length ≤ 64 := by rw [of_up_len f n (by omega)]; omega
  have hm : f ∈ upN f n := (up_mem f f n).2 ⟨0, h0, by omega⟩
  have e : ofN (ofN (upN f n) ++ [f]) = ofN (upN f n) := of_congr fun x => by
    rw [List.mem_append, mem_of, List.mem_singleton]
    exact ⟨fun h => h.elim id (fun e => e ▸ hm), .inl⟩
  unfold addP
  rw [if_pos (of_right hl)]
  unfold ofP
  rw [e, if_pos hl]
theorem full_more {f n p : Nat} (hp : p = (f + 18446744073709551615) % 18446744073709551616) (hn : n ≤ 64) : ((addP (ofN (upN f n)) p).2 = 0 ↔ n < 64) ∧ (addP (ofN (upN f n)) p).1.length ≤ 64 := by
  have hl : (ofN (upN f n)).length ≤ 64 := by rw [of_up_len f n (by omega)]; omega
  have hm : p ∉ ofN (upN f n) := by
    rw [mem_of, up_mem]
    rintro ⟨i, h1, h2⟩
    omega
  have e : (ofN (ofN (upN f n) ++ [p])).length = n + 1 := by
    rw [of_snoc, of_rise (rise_of _), put_more hm, of_up_len f n (by omega)]
  unfold addP
  rw [if_pos (of_right hl)]
  unfold ofP
  by_cases h : n < 64
  · rw [if_pos (by omega)]
    exact ⟨⟨fun _ => h, fun _ => rfl⟩, by dsimp only; omega⟩
  · rw [if_neg (by omega)]
    exact ⟨⟨fun e => (by cases e), fun e => absurd e h⟩, Nat.zero_le _⟩
set_option maxHeartbeats 16000000 in
set_option maxRecDepth 100000 in
theorem lawFull_any (x0 : Int) (f : Nat) (w : World) (hf : f < 18446744073709551616) :
    Calls Try.prog 7 #[.int .i64 x0, nV f] w fun e w' => e = .returned (.bool true) ∧ Below w.heap.size w w' := by
  by_cases h60 : x0 < 60
  · go_enter Try.func7, Try.ntmps7
    go_wp2_with fail
    with_reducible refine (shown6_any _).mono ?_
    rintro e w1 ⟨rfl, hk⟩
    go_wp2_with fail
    go_ret
    exact ⟨rfl, hk⟩
  by_cases h70 : 70 < x0
  · go_enter Try.func7, Try.ntmps7
    go_wp2_with fail
    with_reducible refine (shown6_any _).mono ?_
    rintro e w1 ⟨rfl, hk⟩
    go_wp2_with fail
    go_ret
    exact ⟨rfl, hk⟩
  obtain ⟨n, rfl⟩ : ∃ n : Nat, x0 = (n : Int) := ⟨x0.toNat, by omega⟩
  have hn60 : 60 ≤ n := by omega
  have hn70 : n ≤ 70 := by omega
  go_enter Try.func7, Try.ntmps7
  go_wp2_with fail
  with_reducible refine (shown6_any _).mono ?_
  rintro e w1 ⟨rfl, hk⟩
  have HF := Lib.hid hf
  clear hf
  go_wp2_with fail
  go_loopw [6, 7] (fun v i wr => ∃ k : Nat, k ≤ n ∧ i = .int .i64 k ∧ wr.ownsRow w.heap.size 25 1 v k (numL (upN f k)) ∧ Below w.heap.size w wr) (fun _ i _ => n - (intOf i).toNat)
  case atStart => exact ⟨0, Nat.zero_le _, rfl, World.ownsRow_nil _ _ _ _, hk⟩
  case round =>
    obtain ⟨k, hkn, rfl, hown, hbel⟩ := hrel
    by_cases hlt : k < n
    · obtain ⟨x, hx⟩ : ∃ x, x = (f + k) % 18446744073709551616 := ⟨_, rfl⟩
      have hxi : IntKind.u64.wrap ((f : Int) + (k : Int)) = (x : Int) := by rw [wrap_u64]; omega
      have hup : upN f (k + 1) = upN f k ++ [x] := by rw [hx]; rfl
      have HUP := Lib.hid hup
      have HO := Lib.hid hown
      have hbs := hbel.size
      clear hup hx hown
      go_wp2_with (at_builtin; go_loud (refine wpList_appN _ rfl (.tmp 27) (.tmp 32) rfl w.heap.size _ k (numL (upN f k)) rfl (HO.out.alloc _) (.slice (some ⟨wr.heap.size, 0, none⟩) 1 1) 1 (numL [x]) rfl (srcN_one wr x) (by omega) (by simp; omega) ?_; intro v2 w2 hown2 hgrow2; have HB2 : Below w.heap.size w w2 := (hbel.alloc (by omega) _).grown hgrow2 (by simp; omega) (fun k hk => (HO.out.lt _ hk).1); have HO2 := Lib.hid hown2; clear hown2 hgrow2))
      go_roundw
      case rel => exact ⟨k + 1, by omega, by go_num, by rw [HUP.out, numL_app]; exact HO2.out, HB2⟩
      case measure => simp [intOf]; omega
    · obtain rfl : k = n := by omega
      have hsl := numSl_of_owns (L := upN f k) (by rw [up_len]; exact hown)
      obtain ⟨ao, ac, rfl, _⟩ := hsl.shape
      have HS := Lib.hid hsl
      have O1 := Lib.hid (fun W v h => xOf_any (upN f k) v W h (by rw [up_len]; omega))
      rw [up_len] at HS ⊢
      have hk := hbel
      clear hsl hown hbel
      by_cases h64 : 64 < k
      · rw [full_big h64 hn70] at O1
        have T1 : Hid (∀ W v, NumSl W v [] → Calls Try.prog 20 #[.agg #[v]] W fun e w' => e = .returned (.int .u64 0) ∧ Below W.heap.size W w') := fun W v h => xCount_any [] v W h (by decide)
        go_wp2_with fail
        with_reducible refine (O1.out _ _ HS.out).mono ?_
        rintro e x1 ⟨⟨y1, rfl, z1⟩, hb⟩
        have hk := hk.trans (hb.mono hk.size)
        obtain ⟨ao1, cc1, rfl, _⟩ := z1.sl.shape
        obtain ⟨u1, hu1, hbu1, at1⟩ := at_new x1 (.slice ao1 ([] : List Nat).length cc1) [] z1.sl
        have hk := hk.trans (hbu1.mono hk.size)
        have k1 := at1.cell
        clear z1 hb hbu1
        dsimp only [List.length_nil] at hu1 at1 k1 ⊢
        go_wp2_with fail
        with_reducible refine (T1.out _ _ at1.sl).mono ?_
        rintro e x2 ⟨rfl, hb⟩
        have hk := hk.trans (hb.mono hk.size)
        go_wp2_with fail
        go_ret
        exact ⟨rfl, hk⟩
      · have h64' : k ≤ 64 := by omega
        rw [full_ok h64'] at O1
        have hl : (ofN (upN f k)).length ≤ 64 := by rw [of_up_len f k (by omega)]; omega
        obtain ⟨p, hp⟩ : ∃ p, p = (f + 18446744073709551615) % 18446744073709551616 := ⟨_, rfl⟩
        have hpi : IntKind.u64.wrap ((f : Int) - 1) = (p : Int) := by rw [wrap_u64]; omega
        have A1 := Lib.hid (fun W v h => xAdd_any (ofN (upN f k)) f v W h (by omega))
        have A2 := Lib.hid (fun W v h => xAdd_any (ofN (upN f k)) p v W h (by omega))
        rw [full_same HF.out h64' (by omega)] at A1
        have hmore := full_more (n := k) hp h64'
        have S1 := Lib.hid (fun W va vb hA hB => xSame_any (ofN (upN f k)) (ofN (upN f k)) va vb W hA hB (by omega) (by omega))
        rw [decide_eq_true rfl] at S1
        obtain ⟨X, hX⟩ : ∃ X, ofN (upN f k) = X := ⟨_, rfl⟩
        rw [hX] at O1 A1 A2 S1 hmore
        obtain ⟨⟨Z, g⟩, hP⟩ : ∃ P, addP X p = P := ⟨_, rfl⟩
        rw [hP] at A2 hmore
        have HG := Lib.hid hmore.1
        clear hX hP hmore hp hl
        go_wp2_with fail
        with_reducible refine (O1.out _ _ HS.out).mono ?_
        rintro e x1 ⟨⟨y1, rfl, z1⟩, hb⟩
        have hk := hk.trans (hb.mono hk.size)
        obtain ⟨ao1, cc1, rfl, _⟩ := z1.sl.shape
        have zs1 : NumSl x1 (.slice ao1 X.length cc1) X := z1.sl
        obtain ⟨u1, hu1, hbu1, at1⟩ := at_new x1 (.slice ao1 X.length cc1) X zs1
        have hk := hk.trans (hbu1.mono hk.size)
        clear zs1 z1 hb hbu1
        have k1 := at1.cell
        go_wp2_with fail
        with_reducible refine (A1.out _ _ at1.sl).mono ?_
        rintro e x2 ⟨⟨y2, rfl, z2⟩, hb⟩
        have hk := hk.trans (hb.mono hk.size)
        have at1 := at1.on hb
        obtain ⟨ao2, cc2, rfl, _⟩ := z2.sl.shape
        have zs2 : NumSl x2 (.slice ao2 X.length cc2) X := z2.sl
        obtain ⟨u2, hu2, hbu2, at2⟩ := at_new x2 (.slice ao2 X.length cc2) X zs2
        have hk := hk.trans (hbu2.mono hk.size)
        have at1 := at1.on hbu2
        clear zs2 z2 hb hbu2
        clear k1
        have k1 := at1.cell
        go_wp2_with fail
        with_reducible refine (A2.out _ _ at1.sl).mono ?_
        rintro e x3 ⟨⟨y3, rfl, z3⟩, hb⟩
        have hk := hk.trans (hb.mono hk.size)
        have at1 := at1.on hb
        have at2 := at2.on hb
        obtain ⟨ao3, cc3, rfl, _⟩ := z3.sl.shape
        have zs3 : NumSl x3 (.slice ao3 Z.length cc3) Z := z3.sl
        obtain ⟨u3, hu3, hbu3, at3⟩ := at_new x3 (.slice ao3 Z.length cc3) Z zs3
        have hk := hk.trans (hbu3.mono hk.size)
        have at1 := at1.on hbu3
        have at2 := at2.on hbu3
        clear zs3 z3 hb hbu3
        clear k1
        have k1 := at1.cell
        have k2 := at2.cell
        by_cases hlt : k < 64
        · have hg : g = 0 := HG.out.2 hlt
          subst hg
          go_wp2_with fail
          with_reducible refine (S1.out _ _ _ at1.sl at2.sl).mono ?_
          rintro e x4 ⟨rfl, hb⟩
          have hk := hk.trans (hb.mono hk.size)
          go_wp2_with fail
          go_ret
          exact ⟨congrArg (fun b => Ending.returned (Value.bool b)) (decide_eq_true (by omega : (k : Int) < 64)), hk⟩
        · have hg : ¬ (g : Int) = 0 := fun e => hlt (HG.out.1 (by omega))
          have hg2 : ((g : Int) == 0) = false := by simpa using hg
          go_wp2_with fail
          with_reducible refine (S1.out _ _ _ at1.sl at2.sl).mono ?_
          rintro e x4 ⟨rfl, hb⟩
          have hk := hk.trans (hb.mono hk.size)
          go_wp2_with fail
          go_ret
          exact ⟨congrArg (fun b => Ending.returned (Value.bool !b)) (decide_eq_false (by omega : ¬ (k : Int) < 64)), hk⟩
end Go.Proofs.Ytncjbbgenngegaa
