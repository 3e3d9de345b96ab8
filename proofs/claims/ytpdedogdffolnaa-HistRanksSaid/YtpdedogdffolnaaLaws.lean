/- Laws of the walk that hold over every program: two arrays of four numbers of 64 bits compared; a scope without a jump, inside a fence. -/
import Derived.WalkKit
import Derived.RangeFuncNested
import Derived.Deep.Draws
namespace Go.Proofs.Ytpdedogdffolnaa
open Go.RowKit

section
variable {P : Program}

/-- Two arrays of four numbers of 64 bits are the same if all four are. -/
theorem eq_arr4 (w : World) (n : Nat) (t e : TypeId) (a0 a1 a2 a3 b0 b1 b2 b3 : Int) (ht : P.underlying t = some (.array 4 e)) (he : P.underlying e = some (.int .u64)) (hs : (P.info? e).map (·.size) = some 1)
    (hq' : ∀ w' (x y : Int), (Op.equalIn n e (.int .u64 x) (.int .u64 y)).run P w' = .ok (x == y) w') :
    (Op.equalIn (n + 1) t (.agg #[.int .u64 a0, .int .u64 a1, .int .u64 a2, .int .u64 a3]) (.agg #[.int .u64 b0, .int .u64 b1, .int .u64 b2, .int .u64 b3])).run P w = .ok (a0 == b0 && a1 == b1 && a2 == b2 && a3 == b3) w := by
  cases hq : P.info? e with
  | none => simp [hq] at hs
  | some i =>
    have hi : i.size = 1 := by simpa [hq] using hs
    have hz : ∀ w', (sizeOf e).run P w' = .ok 1 w' := fun w' => by simp [sizeOf, typeInfo, hq, hi]
    have hp : ∀ w' (a0 a1 a2 a3 : Int) (j : Nat) (v : Value), #[Value.int .u64 a0, .int .u64 a1, .int .u64 a2, .int .u64 a3][j]? = some v → (part e #[.int .u64 a0, .int .u64 a1, .int .u64 a2, .int .u64 a3] j).run P w' = .ok v w' := fun w' a0 a1 a2 a3 j v hv => by
      simp [part, isAgg, run_underlying he, hv]
    simp only [Op.equalIn, Sem.run_bind, run_underlying ht, Result.andThen_ok, hz]
    rw [Std.Legacy.Range.forIn_eq_forIn_range']
    simp only [Std.Legacy.Range.size]
    cases h0 : (a0 == b0) <;> cases h1 : (a1 == b1) <;> cases h2 : (a2 == b2) <;> cases h3 : (a3 == b3) <;> simp [List.range'_succ, hp, hq', h0, h1, h2, h3]

theorem eql_arr4 (w : World) (t e : TypeId) (a0 a1 a2 a3 b0 b1 b2 b3 : Int) (ht : P.underlying t = some (.array 4 e)) (he : P.underlying e = some (.int .u64)) (hs : (P.info? e).map (·.size) = some 1) :
    (Op.equalIn 10000 t (.agg #[.int .u64 a0, .int .u64 a1, .int .u64 a2, .int .u64 a3]) (.agg #[.int .u64 b0, .int .u64 b1, .int .u64 b2, .int .u64 b3])).run P w = .ok (a0 == b0 && a1 == b1 && a2 == b2 && a3 == b3) w :=
  eq_arr4 w 9999 t e a0 a1 a2 a3 b0 b1 b2 b3 ht he hs fun w' x y => run_equalIn_int w' 9998 e .u64 .u64 x y he

theorem stepR_scope' {b : Frame} {a : Act} {k : List Item} {cs : List Frame} {w : World} {c : Code} :
    step P (lone (b.atR a (.code (.scope c) :: k)) cs w) = .next (lone (b.atR a (.code c :: .inScope c :: k)) cs w) :=
  step_lone_go (by simp [stepG, stepG.exec, Frame.atR])
theorem stepR_inScope' {b : Frame} {a : Act} {k : List Item} {cs : List Frame} {w : World} {c : Code} :
    step P (lone (b.atR a (.inScope c :: k)) cs w) = .next (lone (b.atR a k) cs w) :=
  step_lone_go (by simp [stepG, stepG.exec, Frame.atR])

/-- A scope through which the run goes without a jump to a label, inside a fence. -/
theorem wpIn_scope' {F : Fence} {n : Nat} {Q : Exit → Act → World → Prop} {a : Act} {w : World} {c : Code} (h : c.wpIn F n P (Exit.noGoto Q) a w) : (Code.scope c).wpIn F n P Q a w := by
  intro b k cs hro hb hr
  have h0 : (lone (b.atR a (.code (.scope c) :: k)) cs w).fenced P F := fenced_calm hb hr rfl
  obtain ⟨e, a₁, w₁, hq, harr⟩ := h b (.inScope c :: k) cs hro hb hr
  cases e with
  | normal => exact ⟨.normal, a₁, w₁, hq, .head h0 stepR_scope' (StepsIn.trans harr (.one (fenced_calm hb hr rfl) stepR_inScope'))⟩
  | exit id =>
    have hx : exitTo id (.inScope c :: k) = exitTo id k := by simp [exitTo]
    exact ⟨.exit id, a₁, w₁, hq, fun k' hk => .head h0 stepR_scope' (harr.1 k' (by rw [hx]; exact hk)),
      fun hr' hk => let ⟨k₁, h1, h2⟩ := harr.2 hr' (by rw [hx]; exact hk); ⟨k₁, h1, .head h0 stepR_scope' h2⟩⟩
  | goto l => exact hq.elim
  | ret => exact ⟨_, a₁, w₁, hq, .of_steps (.one h0 stepR_scope') harr⟩
  | panic ch => exact ⟨_, a₁, w₁, hq, .of_steps (.one h0 stepR_scope') harr⟩
  | outgrown => exact ⟨_, a₁, w₁, hq, .of_steps (.one h0 stepR_scope') harr⟩
end

/-- A block that holds just these cells, none of them frozen. -/
def HasC (w : World) (b : Nat) (T : TypeId) (cs : Array Value) : Prop := w.heap[b]? = some (.cells cs T (0, 0))

section
variable {w w' : World} {b : Nat} {T : TypeId} {cs cs' : Array Value}
theorem HasC.lt (h : HasC w b T cs) : b < w.heap.size := (Array.getElem?_eq_some_iff.1 h).1
theorem HasC.cell (h : HasC w b T cs) (i : Nat) : w.cell? ⟨b, i, none⟩ = cs[i]? := cell_of_row w b i _ T (0, 0) h
theorem HasC.frozen (h : HasC w b T cs) (i : Nat) : w.frozen? ⟨b, i, none⟩ = false := by
  simp [World.frozen?, show w.heap[b]? = _ from h]
theorem HasC.eq (h : HasC w b T cs) (e : cs = cs') : HasC w b T cs' := e ▸ h
theorem HasC.set (h : HasC w b T cs) (i : Nat) (u : Value) : HasC (w.setCell ⟨b, i, none⟩ u) b T (cs.setIfInBounds i u) := by
  unfold HasC
  simp [World.setCell, Array.getElem?_modify, show w.heap[b]? = _ from h]
theorem HasC.far (h : HasC w b T cs) (p : Addr) (u : Value) (hne : b ≠ p.block) : HasC (w.setCell p u) b T cs := (Below.heap_setCell w p u b hne).trans h
theorem HasC.drewN (h : HasC w b T cs) (n : Nat) : HasC (w.drewN n) b T cs := h
theorem HasC.drew (h : HasC w b T cs) : HasC w.drew b T cs := h
theorem HasC.alloc (h : HasC w b T cs) (o : Obj) : HasC (w.alloc o) b T cs := (Below.heap_alloc w o b h.lt).trans h
theorem HasC.new (w : World) (T : TypeId) (cs : Array Value) : HasC (w.alloc (.cells cs T)) w.heap.size T cs := heap_alloc_new w _
theorem HasC.at_ (w : World) (T : TypeId) (cs : Array Value) (e : b = w.heap.size) : HasC (w.alloc (.cells cs T)) b T cs := e ▸ heap_alloc_new w _
theorem HasC.only {c : Nat} (h : HasC w b T cs) (ho : w.grownBy w' (some c)) (hne : b ≠ c) : HasC w' b T cs := (ho.block b h.lt (fun e => hne (by cases e; rfl))).trans h
theorem HasC.below {B : Nat} (h : HasC w b T cs) (hb : Below B w w') (hlt : b < B) : HasC w' b T cs := (hb.block b hlt).trans h
theorem own_hasC {β : Type} (b : Nat) (T : TypeId) (f : β → Array Value) : Own (fun s W => HasC W b T (f s)) := fun _ _ _ row hs hg hrow =>
  (hg.block b (HasC.lt hs) (fun e => by obtain ⟨o, ho, hc⟩ := hrow b e.symm; rw [show _ = _ from hs] at ho; cases ho; cases hc)).trans hs
theorem bel_drewN {B : Nat} (h : Below B w w') (n : Nat) : Below B w (w'.drewN n) := h.trans ⟨rfl, rfl, rfl, Nat.le_refl _, fun _ _ => rfl⟩
end

end Go.Proofs.Ytpdedogdffolnaa
