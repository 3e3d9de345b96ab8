/- Plain mathematics: bytes gone through one after another, up to the first one behind a number. Nothing of the program. -/
import Derived.Test.YthbfibnpfdegaaaDoorFMath
namespace Go.Proofs.YthbfibnpfdegaaaDoor

/-- Bytes with their places. -/
def prs (l : List UInt8) : List (Nat × UInt8) := l.zipIdx.map Prod.swap
theorem prs_length (l : List UInt8) : (prs l).length = l.length := by simp [prs]
theorem prs_take (l : List UInt8) (k : Nat) (h : k < l.length) : prs (l.take (k + 1)) = prs (l.take k) ++ [(k, l[k])] := by
  unfold prs
  rw [List.take_succ_eq_append_getElem h, List.zipIdx_append, List.map_append]
  simp
  omega
theorem prs_prefix (l : List UInt8) (k : Nat) : prs (l.take k) <+: prs l := by
  refine ⟨(((l.drop k).zipIdx (l.take k).length).map Prod.swap), ?_⟩
  unfold prs
  conv => rhs; rw [← List.take_append_drop k l]
  rw [List.zipIdx_append, List.map_append]
  simp

/-- What one byte more does to the number, the first byte and the size. -/
def stp (q : Nat × UInt8 × Nat) (x : Nat × UInt8) : Nat × UInt8 × Nat := if x.1 = 0 then (q.1, x.2, 1 + fol x.2.toNat) else ((256 * q.1 + x.2.toNat) % 18446744073709551616, q.2.1, q.2.2)
def fld (pre : List (Nat × UInt8)) : Nat × UInt8 × Nat := pre.foldl stp (0, 0, 1)
theorem fld_snoc (pre : List (Nat × UInt8)) (x : Nat × UInt8) : fld (pre ++ [x]) = stp (fld pre) x := by simp [fld]
/-- No byte of them was the first one behind the number. -/
def noStop (pre : List (Nat × UInt8)) : Prop := ∀ p x r, pre = p ++ x :: r → x.1 = 0 ∨ x.1 ≠ (fld p).2.2
theorem noStop_nil : noStop [] := fun p x r h => by simp at h
theorem noStop_snoc {pre : List (Nat × UInt8)} {x : Nat × UInt8} (h : noStop pre) (hx : x.1 = 0 ∨ x.1 ≠ (fld pre).2.2) : noStop (pre ++ [x]) := by
  intro p y r e
  rcases List.eq_nil_or_concat r with rfl | ⟨r', z, rfl⟩
  · obtain ⟨rfl, e2⟩ := List.append_inj' e rfl
    obtain rfl : x = y := by simpa using e2
    exact hx
  · rw [List.concat_eq_append, ← List.cons_append, ← List.append_assoc] at e
    obtain ⟨e1, _⟩ := List.append_inj' e rfl
    exact h p y r' e1

/-- The number behind the first byte, that byte, and how many bytes it asks for. -/
def rdN : List UInt8 → Nat × UInt8 × Nat
  | [] => (0, 0, 1)
  | c :: t => (numL (t.take (fol c.toNat)), c, 1 + fol c.toNat)

theorem fold_from (t : List UInt8) : ∀ (k : Nat) (q : Nat × UInt8 × Nat), 1 ≤ k → q.1 < 18446744073709551616 →
    ((t.zipIdx k).map Prod.swap).foldl stp q = ((q.1 * 256 ^ t.length + numL t) % 18446744073709551616, q.2) := by
  induction t with
  | nil => intro k q _ hq; simp [numL, Nat.mod_eq_of_lt hq]
  | cons c t ih =>
    intro k q hk hq
    have hs : stp q (k, c) = ((256 * q.1 + c.toNat) % 18446744073709551616, q.2) := by simp [stp, show k ≠ 0 by omega]
    rw [List.zipIdx_cons, List.map_cons, List.foldl_cons]
    show List.foldl stp (stp q (k, c)) _ = _
    rw [hs, ih (k + 1) _ (by omega) (Nat.mod_lt _ (by decide))]
    simp only [Prod.mk.injEq, and_true]
    rw [numL_cons, List.length_cons, Nat.pow_succ, Nat.add_mod, Nat.mul_mod, Nat.mod_mod, ← Nat.mul_mod, ← Nat.add_mod]
    congr 1
    rw [Nat.add_mul, Nat.mul_comm 256 q.1, Nat.mul_assoc, Nat.mul_comm 256 (256 ^ t.length), Nat.add_assoc]
theorem fld_prs (c : UInt8) (t : List UInt8) : fld (prs (c :: t)) = (numL t % 18446744073709551616, c, 1 + fol c.toNat) := by
  have hs : stp (0, 0, 1) (0, c) = (0, c, 1 + fol c.toNat) := by simp [stp]
  unfold fld prs
  rw [List.zipIdx_cons, List.map_cons, List.foldl_cons]
  show List.foldl stp (stp (0, 0, 1) (0, c)) _ = _
  rw [hs, fold_from t (0 + 1) _ (by omega) (by simp)]
  simp
theorem num_small (t : List UInt8) (k : Nat) (hk : k ≤ 8) : numL (t.take k) % 18446744073709551616 = numL (t.take k) := by
  apply Nat.mod_eq_of_lt
  have h1 := numL_lt (t.take k)
  have h2 : 256 ^ (t.take k).length ≤ 256 ^ 8 := Nat.pow_le_pow_right (by decide) (by simp; omega)
  have h3 : (256 ^ 8 : Nat) = 18446744073709551616 := by decide
  omega
theorem fol_byte (c : UInt8) : fol c.toNat ≤ 8 := fol_le _ (by have := c.toNat_lt; omega)
theorem done_rd (l : List UInt8) (h : noStop (prs l)) : fld (prs l) = rdN l := by
  cases l with
  | nil => rfl
  | cons c t =>
    have hc := fol_byte c
    by_cases hlt : fol c.toNat < t.length
    · exfalso
      have hk : 1 + fol c.toNat < (c :: t).length := by simp; omega
      obtain ⟨r, hr⟩ := prs_prefix (c :: t) (1 + fol c.toNat + 1)
      rw [prs_take _ _ hk, List.append_assoc] at hr
      have h2 := h _ _ _ hr.symm
      have e3 : (fld (prs (List.take (1 + fol c.toNat) (c :: t)))).2.2 = 1 + fol c.toNat := by
        rw [Nat.add_comm 1 (fol c.toNat), List.take_succ_cons, fld_prs]
        simp
        omega
      rcases h2 with h2 | h2
      · simp only at h2
        omega
      · exact h2 e3.symm
    · rw [fld_prs]
      simp only [rdN]
      rw [← num_small t _ hc, List.take_of_length_le (by omega)]
theorem stop_rd (l : List UInt8) (pre : List (Nat × UInt8)) (x : Nat × UInt8) (h : pre ++ [x] <+: prs l) (h0 : x.1 ≠ 0) (hx : x.1 = (fld pre).2.2) : fld pre = rdN l := by
  have hlen : pre.length < l.length := by
    have := h.length_le
    rw [prs_length] at this
    simp at this
    omega
  have e : pre ++ [x] = prs (l.take pre.length) ++ [(pre.length, l[pre.length])] := by
    rw [← prs_take l _ hlen]
    have h2 := prs_prefix l (pre.length + 1)
    have := List.prefix_of_prefix_length_le h h2 (by rw [prs_length, List.length_take]; simp; omega)
    exact this.eq_of_length (by rw [prs_length, List.length_take]; simp; omega)
  obtain ⟨e1, e2⟩ := List.append_inj' e rfl
  obtain rfl : x = (pre.length, l[pre.length]) := by simpa using e2
  generalize pre.length = k at *
  cases l with
  | nil => simp at hlen
  | cons c t =>
    have hc := fol_byte c
    obtain ⟨j, rfl⟩ : ∃ j, k = j + 1 := ⟨k - 1, by simp at h0; omega⟩
    rw [e1, List.take_succ_cons, fld_prs] at hx ⊢
    simp only [rdN]
    have : j = fol c.toNat := by simp at hx; omega
    rw [this, num_small t _ hc]
theorem rd_more (l : List UInt8) (h : l.length < (rdN l).2.2) : getL l = .more := by
  cases l with
  | nil => rfl
  | cons c t =>
    simp only [rdN, List.length_cons] at h
    simp only [getL]
    rw [if_pos (by omega)]
theorem rd_else (l : List UInt8) (h : (rdN l).2.2 ≤ l.length) : ∃ c t, l = c :: t ∧ fol c.toNat ≤ t.length ∧ rdN l = (numL (t.take (fol c.toNat)), c, 1 + fol c.toNat) ∧ numL (t.take (fol c.toNat)) < 256 ^ fol c.toNat := by
  cases l with
  | nil => simp [rdN] at h
  | cons c t =>
    simp only [rdN, List.length_cons] at h
    refine ⟨c, t, rfl, by omega, rfl, ?_⟩
    have := numL_lt (t.take (fol c.toNat))
    rwa [show (t.take (fol c.toNat)).length = fol c.toNat by simp; omega] at this
theorem num_end {l t : List UInt8} {c : UInt8} {m vv z : Nat} (hl : l = c :: t) (hz : z ≤ l.length) (hzz : z = 1 + fol c.toNat) (hm : m = numL (t.take (fol c.toNat))) (hv : vv = valN c.toNat m) :
    (getL l = .bad ∧ (putL vv).length < z) ∨ (getL l = .ok vv z ∧ ¬ (putL vv).length < z) := by
  subst hl hm hv hzz
  rcases get_cases (c :: t) with ⟨_, h⟩ | ⟨c', t', h, _, _, h'⟩
  · rcases h with h | ⟨c', t', h, h'⟩
    · cases h
    · obtain ⟨rfl, rfl⟩ := List.cons.inj h
      simp at hz
      omega
  · obtain ⟨rfl, rfl⟩ := List.cons.inj h
    rcases h' with ⟨h1, h2⟩ | ⟨h1, h2, _⟩
    · exact .inl ⟨h1, h2⟩
    · exact .inr ⟨h1, by omega⟩
end Go.Proofs.YthbfibnpfdegaaaDoor
