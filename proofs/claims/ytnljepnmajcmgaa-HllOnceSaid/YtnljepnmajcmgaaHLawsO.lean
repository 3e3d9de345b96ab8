/- The statements' walks: HllOnce. -/
import Derived.Test.YtnljepnmajcmgaaHLawsG
import Derived.Deep.RegionHeldLaw
namespace Go.Proofs.Ytnljepnmajcmgaa
open Go.RowKit

set_option maxHeartbeats 16000000 in
set_option maxRecDepth 100000 in
theorem lawOnce7_any (b : Int) (l : List Nat) (x0 : Int) (v : Value) (w : World) (h : NumSl w v l) (hn : l.length ≤ maxLen) (hl : ∀ x ∈ l, x < 18446744073709551616) :
    Calls Try.prog 8 #[.int .i64 b, v, .int .i64 x0] w fun e w' => e = .returned (.bool true) ∧ Below w.heap.size w w' := by
  have HV := Lib.hid h
  have FB := Lib.hid (fun W h => few7_any l v W h hn)
  have lU : (l.take 100).length ≤ 200 := by rw [List.length_take]; omega
  have hlU : ∀ x ∈ l.take 100, x < 18446744073709551616 := fun x hx => hl x (List.mem_of_mem_take hx)
  obtain ⟨U, hU⟩ : ∃ U, l.take 100 = U := ⟨_, rfl⟩
  rw [hU] at FB lU hlU
  obtain ⟨a1, c1, rfl, _⟩ := h.shape
  obtain ⟨n1, hn1⟩ : ∃ n, n = l.length := ⟨_, rfl⟩
  rw [← hn1] at FB HV ⊢
  have HL := Lib.hid hlU
  clear h hn hU hn1 hl hlU
  cases hq : okB b with
  | false =>
    have O1 := Lib.hid (fun W v h => kOf_bad hq U lU HL.out v W h)
    clear hq
    go_enter Try.func8, Try.ntmps8
    go_wp2_with fail
    with_reducible refine (shown7_any _).mono ?_
    rintro e w1 ⟨rfl, hk⟩
    go_wp2_with fail
    with_reducible refine (FB.out _ (HV.out.below hk)).mono ?_
    rintro e w2 ⟨s2, rfl, hs2, rfl⟩
    go_wp2_with fail
    with_reducible refine (O1.out _ _ hs2).mono ?_
    rintro e x1 ⟨rfl, hb⟩
    have hk := (hk.trans (hb.mono hk.size)).alloc (hk.trans (hb.mono hk.size)).size (Obj.cells #[.int .i64 0, .string { data := #[] }] 23)
    clear hb
    go_wp2_with fail
    go_ret
    exact ⟨rfl, hk⟩
  | true =>
    obtain ⟨n, rfl, g3, g8⟩ := okB_nat hq
    have O1 := Lib.hid (fun W v h => kOf g3 g8 U lU HL.out v W h)
    obtain ⟨S, hS⟩ : ∃ S, regS (ofR n U) = S := ⟨_, rfl⟩
    simp only [hS] at O1
    have HS := Lib.hid hS
    have HQ := Lib.hid hq
    clear hS hq
    go_enter Try.func8, Try.ntmps8
    go_wp2_with fail
    with_reducible refine (shown7_any _).mono ?_
    rintro e w1 ⟨rfl, hk⟩
    go_wp2_with fail
    with_reducible refine (FB.out _ (HV.out.below hk)).mono ?_
    rintro e w2 ⟨s2, rfl, hs2, rfl⟩
    obtain ⟨ao, ac, rfl, hcells⟩ := hs2.shape
    obtain ⟨m, hmU⟩ : ∃ m, m = U.length := ⟨_, rfl⟩
    have HC := Lib.hid hcells
    have HS2 := Lib.hid hs2
    have HMU := Lib.hid hmU
    rw [← hmU] at HS2 lU ⊢
    have hk2 := Below.refl w2.heap.size w2
    clear hcells hs2 hmU
    go_wp2_with fail
    with_reducible refine (O1.out _ _ HS2.out).mono ?_
    rintro e x1 ⟨rfl, hb⟩
    have hk := hk.trans (hb.mono hk.size)
    have hk2 := hk2.trans (hb.mono hk2.size)
    obtain ⟨u1, hu1, hbu1, at1⟩ := atH_new x1 (n : Int) S
    have hk := hk.trans (hbu1.mono hk.size)
    have hk2 := hk2.trans (hbu1.mono hk2.size)
    clear hb hbu1
    by_cases h0 : x0 < 0
    · go_wp2_with fail
      go_ret
      exact ⟨rfl, hk⟩
    by_cases hm0 : (m : Int) ≤ x0
    · go_wp2_with fail
      go_ret
      exact ⟨rfl, hk⟩
    obtain ⟨k, rfl⟩ : ∃ k : Nat, x0 = (k : Int) := ⟨x0.toNat, by omega⟩
    have hkm : k < m := by omega
    have hkU : k < U.length := by have := HMU.out; omega
    obtain ⟨g, o, rfl, hc0⟩ := HC.out k hkU
    have hyU := List.getElem_mem hkU
    obtain ⟨y, hy⟩ : ∃ y, U[k] = y := ⟨_, rfl⟩
    rw [hy] at hyU hc0
    have hy64 := HL.out y hyU
    have A1 := Lib.hid (fun W => kAdd g3 g8 U y hy64 W)
    rw [of_again n hyU, HS.out] at A1
    have hpl : placeH (n : Int) y = (atP n y, rankP n y) := by unfold placeH; rw [if_pos HQ.out, Int.toNat_natCast]
    have P1 := Lib.hid (fun W => hPlace_any (n : Int) y W hy64)
    rw [hpl] at P1
    have hal : atP n y < 2 ^ n := at_lt (by omega) hy64
    have hmx := mx_mem (b := n) hyU
    have hr1 := rank_pos n y (by omega)
    have hmle := mx_le n (atP n y) U
    have hsz : S.size = 2 ^ n := by rw [← HS.out, regS_size, of_size]
    have hget : ∀ (h2 : atP n y < S.size), (S[atP n y]'h2).toNat = mxR n (atP n y) U := by
      intro h2
      have e1 := of_at n U (atP n y) (by rw [of_size]; exact hal)
      have e2 := regS_get (ofR n U) (byteL_of U) (atP n y) (by rw [of_size]; exact hal) (by rw [regS_size, of_size]; exact hal)
      rw [e1] at e2
      have hSS := HS.out
      subst hSS
      exact e2
    obtain ⟨a, ha⟩ : ∃ a, atP n y = a := ⟨_, rfl⟩
    obtain ⟨r, hr⟩ : ∃ r, rankP n y = r := ⟨_, rfl⟩
    obtain ⟨pn, hpn⟩ : ∃ p, 2 ^ n = p := ⟨_, rfl⟩
    have hp256 : pn ≤ 256 := by rw [← hpn]; exact pow_le8 g8
    simp only [ha, hr, hpn] at P1 hal hmx hr1 hmle hsz hget
    obtain ⟨gv, hgv⟩ : ∃ g, mxR n a U = g := ⟨_, rfl⟩
    rw [hgv] at hmx hmle
    have hgv65 : gv ≤ 65 := Nat.le_trans hmle (Nat.sub_le 65 n)
    have hat : ∀ h2 : a < S.size, (S[a]'h2).toNat = gv := fun h2 => (hget h2).trans hgv
    have hwg := wrap64_small (y := (gv : Int)) (by omega) (by omega)
    have hx := (at1 : HasC u1 x1.heap.size 23 #[.int .i64 (n : Int), .string S])
    have c0 := hx.cell 0
    have c1 := hx.cell 1
    have c2 := hc0 _ hk2
    have hltx := hx.lt
    have HX := Lib.hid hx
    have HK := Lib.hid hk
    have HCX := Lib.hid hc0
    have K0 := Lib.hid c0
    have K1 := Lib.hid c1
    have K2 := Lib.hid c2
    have hgl := World.block_lt_of_cell? _ _ c2
    clear hget hpl ha hr hpn hgv hmle hy hyU hy64 at1 hx hc0 hk
    go_wp2_with fail
    go_region_held_law (fun w' => w'.cell? ⟨x1.heap.size, 0, none⟩ = some (.int .i64 n) ∧ w'.cell? ⟨x1.heap.size, 1, none⟩ = some (.string S) ∧ w'.cell? ⟨g, o + k, none⟩ = some (nV y))
      (first
        | go_keep
        | exact ⟨(HK8.out.cell (p := ⟨x1.heap.size, 0, none⟩) hltx).trans K0.out, (HK8.out.cell (p := ⟨x1.heap.size, 1, none⟩) hltx).trans K1.out, (HK8.out.cell (p := ⟨g, o + k, none⟩) hgl).trans K2.out⟩
        | exact ⟨((HK8.out.alloc HK8.out.size _).cell (p := ⟨x1.heap.size, 0, none⟩) hltx).trans K0.out, ((HK8.out.alloc HK8.out.size _).cell (p := ⟨x1.heap.size, 1, none⟩) hltx).trans K1.out, ((HK8.out.alloc HK8.out.size _).cell (p := ⟨g, o + k, none⟩) hgl).trans K2.out⟩
        | exact ⟨(((HK8.out.setCell (p := ⟨u1.heap.size, 0, none⟩) (Nat.le_refl _) _).setCell (p := ⟨u1.heap.size, 1, none⟩) (Nat.le_refl _) _).cell (p := ⟨x1.heap.size, 0, none⟩) hltx).trans K0.out, (((HK8.out.setCell (p := ⟨u1.heap.size, 0, none⟩) (Nat.le_refl _) _).setCell (p := ⟨u1.heap.size, 1, none⟩) (Nat.le_refl _) _).cell (p := ⟨x1.heap.size, 1, none⟩) hltx).trans K1.out, (((HK8.out.setCell (p := ⟨u1.heap.size, 0, none⟩) (Nat.le_refl _) _).setCell (p := ⟨u1.heap.size, 1, none⟩) (Nat.le_refl _) _).cell (p := ⟨g, o + k, none⟩) hgl).trans K2.out⟩)
      (first
        | (go_at_call 15; (refine (A1.out u1.drew).mono ?_); rintro e w8 ⟨rfl, hb8⟩; have HK8 : Hid (Below u1.heap.size u1 w8) := ((Below.refl u1.heap.size u1).drew).trans (hb8.mono (show u1.heap.size ≤ u1.drew.heap.size from Nat.le_refl _)); clear hb8)
        | (go_at_call 15; (refine (A1.out (u1.drew.alloc (Obj.cells #[.int .i64 0, .string { data := #[] }] 23))).mono ?_); rintro e w8 ⟨rfl, hb8⟩; have HL8 : Hid (HasC w8 u1.heap.size 23 #[.int .i64 0, .string { data := #[] }]) := (HasC.new u1.drew 23 #[.int .i64 0, .string { data := #[] }]).below hb8 (by simp); have g0 := HL8.out.cell 0; have g1 := HL8.out.cell 1; have f0 := HL8.out.frozen 0; have f1 := HL8.out.frozen 1; have HK8 : Hid (Below u1.heap.size u1 w8) := (((Below.refl u1.heap.size u1).drew).alloc (Nat.le_refl _) _).trans (hb8.mono (by simp)); clear hb8))
    all_goals clear c0 c1 c2
    all_goals first
        | (have F1 : Below u1.heap.size u1 (w8.alloc (Obj.cells #[.int .i64 (n : Int), .string S] 23)) := HK8.out.alloc HK8.out.size _
           have F2 : (w8.alloc (Obj.cells #[.int .i64 (n : Int), .string S] 23)).cell? ⟨w8.heap.size, 0, none⟩ = some (.int .i64 (n : Int)) ∧ (w8.alloc (Obj.cells #[.int .i64 (n : Int), .string S] 23)).cell? ⟨w8.heap.size, 1, none⟩ = some (.string S) := ⟨(HasC.new w8 23 #[.int .i64 (n : Int), .string S]).cell 0, (HasC.new w8 23 #[.int .i64 (n : Int), .string S]).cell 1⟩
           generalize w8.alloc (Obj.cells #[.int .i64 (n : Int), .string S] 23) = WF at F1 F2 ⊢
           have hB8 := HasC.below (T := 23) HX.out F1 hltx
           have m0 := hB8.cell 0
           have m1 := hB8.cell 1
           have hk8 := HK.out.trans (F1.mono HK.out.size)
           have d0 := F2.1
           have d1 := F2.2
           have ccx := HCX.out WF (hk2.trans (F1.mono hk2.size))
           clear hB8 F1 F2
           go_wp2_with fail
           (with_reducible refine (P1.out _).mono ?_)
           rintro e w9 ⟨rfl, hb9⟩
           have m0 := (hb9.cell (p := ⟨x1.heap.size, 0, none⟩) (World.block_lt_of_cell? _ _ m0)).trans m0
           have m1 := (hb9.cell (p := ⟨x1.heap.size, 1, none⟩) (World.block_lt_of_cell? _ _ m1)).trans m1
           have d0 := (hb9.cell (World.block_lt_of_cell? _ _ d0)).trans d0
           have d1 := (hb9.cell (World.block_lt_of_cell? _ _ d1)).trans d1
           have hk9 := hk8.trans (hb9.mono hk8.size)
           clear hb9 hk8 ccx
           go_wp2_with fail
           go_ret
           exact ⟨by simp; try omega, hk9⟩)
        | (have F1 : Below u1.heap.size u1 ((w8.setCell ⟨u1.heap.size, 0, none⟩ (.int .i64 (n : Int))).setCell ⟨u1.heap.size, 1, none⟩ (.string S)) := (HK8.out.setCell (p := ⟨u1.heap.size, 0, none⟩) (Nat.le_refl _) _).setCell (p := ⟨u1.heap.size, 1, none⟩) (Nat.le_refl _) _
           have hL9 := HasC.eq ((HL8.out.set 0 (.int .i64 (n : Int))).set 1 (.string S)) (cs' := #[.int .i64 (n : Int), .string S]) rfl
           have F2 : ((w8.setCell ⟨u1.heap.size, 0, none⟩ (.int .i64 (n : Int))).setCell ⟨u1.heap.size, 1, none⟩ (.string S)).cell? ⟨u1.heap.size, 0, none⟩ = some (.int .i64 (n : Int)) ∧ ((w8.setCell ⟨u1.heap.size, 0, none⟩ (.int .i64 (n : Int))).setCell ⟨u1.heap.size, 1, none⟩ (.string S)).cell? ⟨u1.heap.size, 1, none⟩ = some (.string S) := ⟨hL9.cell 0, hL9.cell 1⟩
           clear hL9
           generalize (w8.setCell ⟨u1.heap.size, 0, none⟩ (.int .i64 (n : Int))).setCell ⟨u1.heap.size, 1, none⟩ (.string S) = WF at F1 F2 ⊢
           have hB8 := HasC.below (T := 23) HX.out F1 hltx
           have m0 := hB8.cell 0
           have m1 := hB8.cell 1
           have hk8 := HK.out.trans (F1.mono HK.out.size)
           have d0 := F2.1
           have d1 := F2.2
           have ccx := HCX.out WF (hk2.trans (F1.mono hk2.size))
           clear hB8 F1 F2
           go_wp2_with fail
           (with_reducible refine (P1.out _).mono ?_)
           rintro e w9 ⟨rfl, hb9⟩
           have m0 := (hb9.cell (p := ⟨x1.heap.size, 0, none⟩) (World.block_lt_of_cell? _ _ m0)).trans m0
           have m1 := (hb9.cell (p := ⟨x1.heap.size, 1, none⟩) (World.block_lt_of_cell? _ _ m1)).trans m1
           have d0 := (hb9.cell (World.block_lt_of_cell? _ _ d0)).trans d0
           have d1 := (hb9.cell (World.block_lt_of_cell? _ _ d1)).trans d1
           have hk9 := hk8.trans (hb9.mono hk8.size)
           clear hb9 hk8 ccx
           go_wp2_with fail
           go_ret
           exact ⟨by simp; try omega, hk9⟩)
end Go.Proofs.Ytnljepnmajcmgaa
