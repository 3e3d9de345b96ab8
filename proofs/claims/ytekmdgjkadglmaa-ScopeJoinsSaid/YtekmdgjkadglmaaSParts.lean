/- Package scope: what stands between a scope's semicolons: the iterator, a range over it. -/
import Derived.Test.YtekmdgjkadglmaaSCut
import Derived.Test.YtekmdgjkadglmaaLEach
import Derived.RegionIn
namespace Go.Proofs.Ytekmdgjkadglmaa
open Go.RowKit Go.Shelf
attribute [local go_sem] Oper.semAt_some

/-- A scope's parts; the empty one has none. -/
def segsL (s : ByteArray) : List ByteArray := if s.size = 0 then [] else termsL s
theorem split_cut : ∀ (l cur : List UInt8), splitF cur l = match cutAt 59 l with
    | some r => (⟨(cur ++ r.1).toArray⟩ : ByteArray) :: splitF [] r.2
    | none => [(⟨(cur ++ l).toArray⟩ : ByteArray)] := by
  intro l
  induction l with
  | nil => intro cur; simp [splitF, cutAt]
  | cons c t ih =>
    intro cur
    have hs : splitF cur (c :: t) = if c = 59 then ⟨cur.toArray⟩ :: splitF [] t else splitF (cur ++ [c]) t := rfl
    have hc : cutAt 59 (c :: t) = if c = 59 then some ([], t) else (cutAt 59 t).map fun r => (c :: r.1, r.2) := rfl
    rw [hs, hc]
    by_cases h : c = 59
    · rw [if_pos h, if_pos h]
      simp
    · rw [if_neg h, if_neg h, ih]
      cases cutAt 59 t with
      | none => simp
      | some r => simp
theorem terms_step (s : ByteArray) : termsL s = (cutV 59 s).1 :: (if (cutV 59 s).2.2 = true then termsL (cutV 59 s).2.1 else []) := by
  unfold termsL cutV
  rw [split_cut]
  cases cutAt 59 s.data.toList with
  | none =>
    have e : (⟨s.data.toList.toArray⟩ : ByteArray) = s := baL rfl
    simp [e]
  | some r => simp
theorem cutV_size (b : UInt8) (s : ByteArray) : (cutV b s).1.size ≤ s.size ∧ (cutV b s).2.1.size ≤ s.size := by
  unfold cutV
  rcases cutAt_idx b s.data.toList with ⟨h1, _⟩ | ⟨i, _, h2, h3⟩
  · rw [h1]
    exact ⟨Nat.le_refl _, Nat.zero_le _⟩
  · rw [h3]
    rw [lenL] at h2
    dsimp only
    constructor
    · rw [← lenL]; simp; omega
    · rw [← lenL]; simp
/-- What comes: a label of what stands ahead of the '=' and behind it, and whether there is one. -/
def encC (t : ByteArray) : Array Value := #[.agg #[.string (cutV 61 t).1, .string (cutV 61 t).2.1], .bool (cutV 61 t).2.2]
def restL (r : ByteArray) (m : Bool) : List ByteArray := if m = true then termsL r else []
def meaT : Value → Value → Nat
  | .string r, .bool m => (restL r m).length
  | _, _ => 0

set_option maxHeartbeats 1000000 in
set_option maxRecDepth 100000 in
theorem cut1 (n : Nat) (hn : 1 ≤ n) (l Bn : Nat) (s : ByteArray) (hs : s.size ≤ 3000) (J : Nat → World → Prop) (Jx : World → Prop) (hJ : ∀ k W W', J k W → Below W.heap.size W W' → J k W')
    (hY : ∀ k (hk : k < (segsL s).length) W, J k W → YieldAt Fence.wide (n - 1) Try.prog l (encC (segsL s)[k]) W fun e W' => (e = .returned (.bool true) ∧ J (k + 1) W') ∨ (e = .returned (.bool false) ∧ Jx W'))
    (W : World) (hB : W.cell? ⟨Bn, 0, none⟩ = some (.string s)) (h0 : J 0 W) :
    CallsIn Fence.wide n Try.prog 29 #[.func (.yield l) #[] #[], .pointer (some ⟨Bn, 0, none⟩)] W fun e W' => (∃ v, e = .returned v) ∧ (J (segsL s).length W' ∨ Jx W') := by
  obtain ⟨T, hT⟩ : ∃ T, T = segsL s := ⟨_, rfl⟩
  have HT := Lib.hid hT
  have hY' : ∀ k (hk : k < T.length) W, J k W → YieldAt Fence.wide (n - 1) Try.prog l (encC T[k]) W fun e W' => (e = .returned (.bool true) ∧ J (k + 1) W') ∨ (e = .returned (.bool false) ∧ Jx W') := by subst hT; exact hY
  rw [← hT]
  have HY := Lib.hid hY'
  have HJ := Lib.hid hJ
  obtain ⟨more, hmore⟩ : ∃ more : Bool, more = !s.toList.isEmpty := ⟨_, rfl⟩
  have hrest : T = restL s more := by
    rw [hT, hmore]
    unfold segsL restL
    by_cases h : s.size = 0
    · have : s.toList = [] := by rw [ByteArray.toList_eq]; exact List.length_eq_zero_iff.1 (by rw [lenL]; exact h)
      rw [if_pos h, this]
      simp
    · have : s.toList ≠ [] := by rw [ByteArray.toList_eq]; intro e; have := congrArg List.length e; rw [lenL] at this; exact h this
      rw [if_neg h]
      simp [this]
  have HR := Lib.hid hrest
  clear hT hY hY' hJ hrest
  refine callsIn_of_wp Try.func29 rfl trivial ?_ rfl
  simp only [Try.ntmps29, List.size_toArray, List.length_cons, List.length_nil, Nat.reduceAdd, Nat.reduceSub, Array.replicate_succ, Array.replicate_zero, List.push_toArray, List.append_toArray, List.nil_append, List.cons_append]
  have hmm := Lib.hid hmore
  clear hmore
  gi_wp2
  gi_region
  rw [← hmm.out]
  have hJ0 := HJ.out 0 W W.drew h0 ((Below.refl _ _).drew)
  generalize W.drew = W1 at hJ0 ⊢
  clear h0 hB hmm
  gi_wp2
  gi_loopw [3, 4] (fun r m wr => ∃ (k : Nat) (rs : ByteArray) (mb : Bool), .string rs = r ∧ .bool mb = m ∧ rs.size ≤ 3000 ∧ k ≤ T.length ∧ J k wr ∧ Hid (T.drop k = restL rs mb)) (fun r m _ => meaT r m)
  case atStart => exact ⟨0, s, more, rfl, rfl, hs, Nat.zero_le _, hJ0, HR.out⟩
  case round =>
    obtain ⟨k, rs, mb, rfl, rfl, hrs, hk, hJk, HD⟩ := hrel
    cases mb with
    | false =>
      have hkl : k = T.length := by
        have := congrArg List.length HD.out
        rw [List.length_drop] at this
        have : T.length - k = 0 := this
        omega
      gi_wp2
      go_end0
      exact ⟨⟨_, rfl⟩, .inl (by rw [← hkl]; exact hJk)⟩
    | true =>
      have hstep := terms_step rs
      have hd : T.drop k = termsL rs := HD.out
      have hkl : k < T.length := by
        have := congrArg List.length hd
        rw [hstep, List.length_drop] at this
        simp at this
        omega
      have hdc := List.drop_eq_getElem_cons hkl
      rw [hd, hstep] at hdc
      obtain ⟨ht, hnext⟩ := (List.cons.injEq ..).mp hdc
      have hsz := cutV_size 59 rs
      obtain ⟨part, hpart⟩ : ∃ part, part = T[k] := ⟨_, rfl⟩
      have hY1 := fun W h => HY.out k hkl W h
      rw [← hpart] at ht hY1
      have C1 := Lib.hid (fun W => cut_any rs 59 W (by omega))
      obtain ⟨cv, hcv⟩ : ∃ cv, cv = cutV 59 rs := ⟨_, rfl⟩
      rw [← hcv] at C1 ht hnext hsz
      obtain ⟨c1, c2, c3⟩ := cv
      dsimp only at C1 ht hnext hsz
      subst ht
      have C2 := Lib.hid (fun W => cut_any c1 61 W (by omega))
      have hnext2 : Hid (T.drop (k + 1) = restL c2 c3) := hnext.symm
      have hlen : (restL c2 c3).length < (restL rs true).length := by
        have e1 : restL rs true = termsL rs := rfl
        rw [e1, ← hd, ← hnext2.out, List.length_drop, List.length_drop]
        omega
      have HLEN := Lib.hid hlen
      have HY1 := Lib.hid hY1
      clear hstep hd hdc hnext hpart hcv hY1 hlen
      gi_wp2_with fail
      refine ⟨trivial, ?_⟩
      refine (callsIn_wide.2 (C1.out _)).mono ?_
      rintro e W3 ⟨rfl, hb3⟩
      have hJ3 := HJ.out _ _ _ hJk hb3
      clear hJk hb3 C1
      gi_wp2_with fail
      refine ⟨trivial, ?_⟩
      refine (callsIn_wide.2 (C2.out _)).mono ?_
      rintro e W4 ⟨rfl, hb4⟩
      have hJ4 := HJ.out _ _ _ hJ3 hb4
      clear hJ3 hb4 C2
      obtain ⟨fn, tmps, assign, body, hy, hR⟩ := HY1.out W4 hJ4
      unfold encC at hy
      clear HY1
      gi_wp2
      refine hR.mono ?_
      rintro e W5 (⟨rfl, hJ5⟩ | ⟨rfl, hJx5⟩)
      · gi_wp2
        go_roundw
        case rel => exact ⟨k + 1, c2, c3, rfl, rfl, by omega, by omega, hJ5, hnext2⟩
        case measure => exact HLEN.out
      · gi_wp2
        refine bodyPost_ret (results_none rfl _ _ _) rfl ?_
        exact ⟨⟨_, rfl⟩, .inr hJx5⟩

set_option maxHeartbeats 1000000 in
/-- A range over a scope's parts: what holds when so many have come (I), where a round has left by a jump (Ix). -/
theorem range_parts {n : Nat} (h1 : 2 ≤ n) {g : Operand} {ps : Array Tmp} {assign body : Code} {Q : Exit → Act → World → Prop} {a : Act} {w : World} {Bn : Nat} {s : ByteArray}
    (hg : a.eval g = .func (.func 29) #[] #[.pointer (some ⟨Bn, 0, none⟩)]) (hps : ps.size = 2)
    (hn1 : s.size ≤ 3000)
    (I : Nat → World → Prop) (Ix : Code → World → Prop) (hbel : ∀ k W W', I k W → w.heap.size + 1 < W.heap.size → Below W.heap.size W W' → I k W') (hbox : ∀ W, I 0 W → W.cell? ⟨Bn, 0, none⟩ = some (.string s))
    (hIp : ∀ k W (lo o : Loop), I k W → Lp w.heap.size (.loop lo) W → I k (W.putObj (w.heap.size + 1) (.loop o))) (hXp : ∀ c W (lo o : Loop), Ix c W → Lp w.heap.size (.loop lo) W → Ix c (W.putObj (w.heap.size + 1) (.loop o)))
    (h0 : ∀ o : Loop, I 0 ((w.alloc (.deferred (some []))).alloc (.loop o)))
    (hbody : ∀ k (hk : k < (segsL s).length) W, I k W → ∀ rd bz : Loop, Lp w.heap.size (.loop rd) W →
      assign.wpIn (Fence.wide.inRound (w.heap.size + 1)) (n - 1 - 1) Try.prog (Exit.then (fun a₁ w₁ => Lp w.heap.size (.loop rd) w₁ ∧ body.wpIn (Fence.wide.inRound (w.heap.size + 1)) (n - 1 - 1) Try.prog (eachPost w.heap.size (.loop bz) (I (k + 1)) Ix) a₁ (w₁.putObj (w.heap.size + 1) (.loop bz))) (fun _ _ _ => False))
        { tmps := (ps.zip (encC (segsL s)[k])).foldl (fun tmps (t, a) => tmps.setIfInBounds t a) a.tmps, defers := [] } W)
    (hdone : ∀ W, I (segsL s).length W → W.heap[w.heap.size]? = some (.deferred (some [])) → Q .normal { a with defers := { target := .collected w.heap.size, args := #[] } :: a.defers } W)
    (hstop : ∀ c W, Ix c W → W.heap[w.heap.size]? = some (.deferred (some [])) → c.wpIn Fence.wide n Try.prog Q { a with defers := { target := .collected w.heap.size, args := #[] } :: a.defers } W) :
    (Code.rangeFunc g ps assign body).wpIn Fence.wide n Try.prog Q a w := by
  refine wpIn_rangeFunc fun fn _ => ?_
  have he := run_enterLoop_outer (P := Try.prog) (w := w) fn a.tmps ps assign body
  obtain ⟨o, ho⟩ : ∃ o : Loop, o = { state := .ready, pending := none, fn, tmps := a.tmps, params := ps, assign, body, defers := w.heap.size } := ⟨_, rfl⟩
  rw [← ho] at he
  have hst : o.state = .ready := by rw [ho]
  have hpe : o.pending = none := by rw [ho]
  have hto : o.tmps = a.tmps := by rw [ho]
  have hpo : o.params = ps := by rw [ho]
  have hao : o.assign = assign := by rw [ho]
  have hbo : o.body = body := by rw [ho]
  clear ho
  have hL1 : Lp w.heap.size (.loop o) ((w.alloc (.deferred (some []))).alloc (.loop o)) := by
    refine ⟨?_, ?_⟩
    · exact (Below.heap_alloc _ _ _ (by simp)).trans (World.alloc_heap_new w _)
    · have := World.alloc_heap_new (w.alloc (.deferred (some []))) (.loop o)
      rwa [World.size_alloc] at this
  have hI1 := h0 o
  generalize (w.alloc (.deferred (some []))).alloc (.loop o) = W1 at he hL1 hI1
  refine ⟨_, _, W1, { target := .fn (.func 29) #[.pointer (some ⟨Bn, 0, none⟩)], args := #[.func (.yield (w.heap.size + 1)) #[] #[]] }, W1, 29, _, W1, he, ?_, fun _ _ => trivial, ?_, fun _ => by omega,
    (cut1 (n - 1) (by omega) (w.heap.size + 1) Bn s hn1 (fun k W => I k W ∧ Lp w.heap.size (.loop o) W) (fun W => ∃ (j : Code) (o' : Loop), Ix j W ∧ o'.state = .done ∧ o'.pending = some j ∧ Lp w.heap.size (.loop o') W)
      (fun k W W' h hb => ⟨hbel k W W' h.1 h.2.lt hb, h.2.below hb h.2.lt⟩) ?_ W1 (hbox W1 hI1) ⟨hI1, hL1⟩).mono ?_⟩
  · simp only [resolve, hg]
    simp [go_sem]
  · have eg : ∀ args w, (callFunc 29 args).run Try.prog w = .ok (.enter 29 args) w := enters_of Try.func29 (by kernel_rfl) rfl
    simp [invoke, go_sem, eg]
  · rintro k hk W ⟨hI, hL⟩
    have hb := hbody k hk W hI o { o with state := .busy } hL
    refine ⟨_, _, _, _, run_yield hL.2 (by rw [hpo, hps]; rfl), roundIn_of_wpIn trivial ?_⟩
    rw [hpo, hto, hao, hbo]
    refine wpIn_mono hb ?_
    rintro e a' W'
    cases e with
    | normal =>
      rintro ⟨hL', hbd⟩
      refine ⟨_, run_beginRound hL'.2 hst, ?_⟩
      refine wpIn_mono hbd ?_
      rintro e2 a2 W2 hp
      have hready : ({ ({ o with state := .busy } : Loop) with state := .ready, pending := none } : Loop) = o := by
        cases o
        dsimp only at hst hpe
        subst hst
        subst hpe
        rfl
      cases e2 with
      | normal =>
        obtain ⟨hLb, hI2⟩ := hp
        refine ⟨_, _, run_endRound none hLb.2, .inl ⟨rfl, hIp _ _ _ _ hI2 hLb, ?_⟩⟩
        have := hLb.put (.loop { ({ o with state := .busy } : Loop) with state := .ready, pending := none })
        rw [hready] at this
        simpa [hready] using this
      | ret => obtain ⟨hLb, hx⟩ := hp; exact ⟨_, _, run_endRound (some .ret) hLb.2, .inr ⟨rfl, _, _, hXp _ _ _ _ hx hLb, rfl, rfl, hLb.put _⟩⟩
      | exit id => obtain ⟨hLb, hx⟩ := hp; exact ⟨_, _, run_endRound (some (.exit id)) hLb.2, .inr ⟨rfl, _, _, hXp _ _ _ _ hx hLb, rfl, rfl, hLb.put _⟩⟩
      | goto t => obtain ⟨hLb, hx⟩ := hp; exact ⟨_, _, run_endRound (some (.goto t)) hLb.2, .inr ⟨rfl, _, _, hXp _ _ _ _ hx hLb, rfl, rfl, hLb.put _⟩⟩
      | panic _ => exact hp
      | outgrown => exact hp
    | _ => exact fun h => h
  · rintro e W ⟨⟨v, rfl⟩, ⟨hI, hL⟩ | ⟨j, o', hx, hs', hp', hL⟩⟩
    · refine ⟨none, W.putObj (w.heap.size + 1) (.loop { o with state := .exhausted }), ?_, ?_⟩
      · rw [run_endLoop (P := Try.prog) hL.2 (by rw [hst]; simp), hpe]
      · exact hdone _ (hIp _ _ _ _ hI hL) (hL.put (.loop { o with state := .exhausted })).1
    · refine ⟨some j, W.putObj (w.heap.size + 1) (.loop { o' with state := .exhausted }), ?_, hstop j _ (hXp _ _ _ _ hx hL) (hL.put (.loop { o' with state := .exhausted })).1⟩
      rw [run_endLoop (P := Try.prog) hL.2 (by rw [hs']; simp), hp']
end Go.Proofs.Ytekmdgjkadglmaa
