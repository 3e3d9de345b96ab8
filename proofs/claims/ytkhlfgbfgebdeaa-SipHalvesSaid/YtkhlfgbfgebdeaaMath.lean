/- The plain mathematics of sums of bytes with a key: numbers of 64 bits, a round and its undoing, the words of a text. No Go here. -/
import Derived.WalkKit
namespace Go.Proofs.Ytkhlfgbfgebdeaa

/-- A number of 64 bits, as the model's integer. -/
def n64 (x : BitVec 64) : Int := (x.toNat : Int)

theorem n64_nonneg (x : BitVec 64) : 0 ≤ n64 x := Int.natCast_nonneg _
theorem n64_lt (x : BitVec 64) : n64 x < 18446744073709551616 := by
  have := x.isLt
  unfold n64
  omega

theorem n64_inj {x y : BitVec 64} (h : n64 x = n64 y) : x = y := by
  unfold n64 at h
  exact BitVec.eq_of_toNat_eq (by omega)
theorem n64_beq (x y : BitVec 64) : (n64 x == n64 y) = decide (x = y) := by
  by_cases h : x = y
  · subst h; simp
  · rw [decide_eq_false h]
    exact beq_eq_false_iff_ne.2 fun e => h (n64_inj e)

theorem of_n64 (x : BitVec 64) : BitVec.ofInt 64 (n64 x) = x := by
  unfold n64
  rw [BitVec.ofInt_natCast]
  exact BitVec.eq_of_toNat_eq (by simp)
theorem of_n64_wf {n : Int} (h : (Lit.int .u64 n).wf = true) : ∃ x : BitVec 64, n = n64 x := by
  have hb : 0 ≤ n ∧ n ≤ 18446744073709551615 := by simpa [Lit.wf, IntKind.min, IntKind.max, IntKind.signed, IntKind.bits] using h
  refine ⟨BitVec.ofNat 64 n.toNat, ?_⟩
  unfold n64
  rw [BitVec.toNat_ofNat, Nat.mod_eq_of_lt (by omega)]
  omega
theorem n64_wf (x : BitVec 64) : (Lit.int .u64 (n64 x)).wf = true := WalkArith.wf_u64 ⟨n64_nonneg x, by have := n64_lt x; omega⟩

theorem wrap_n64 (x : BitVec 64) : IntKind.u64.wrap (n64 x) = n64 x := by
  rw [IntKind.wrap_u64]
  have := n64_nonneg x
  have := n64_lt x
  omega
theorem wrap_add (x y : BitVec 64) : IntKind.u64.wrap (n64 x + n64 y) = n64 (x + y) := by
  rw [IntKind.wrap_u64]
  unfold n64
  rw [BitVec.toNat_add]
  omega
theorem wrap_sub (x y : BitVec 64) : IntKind.u64.wrap (n64 x - n64 y) = n64 (x - y) := by
  rw [IntKind.wrap_u64]
  unfold n64
  rw [BitVec.toNat_sub]
  have := y.isLt
  omega
theorem xor_n64 (x y : BitVec 64) : bits .xor .u64 (n64 x) (n64 y) = n64 (x ^^^ y) := by
  show IntKind.u64.wrap ((BitVec.ofInt 64 (n64 x) ^^^ BitVec.ofInt 64 (n64 y)).toNat : Int) = _
  rw [of_n64, of_n64]
  exact wrap_n64 _
theorem or_n64 (x y : BitVec 64) : bits .or .u64 (n64 x) (n64 y) = n64 (x ||| y) := by
  show IntKind.u64.wrap ((BitVec.ofInt 64 (n64 x) ||| BitVec.ofInt 64 (n64 y)).toNat : Int) = _
  rw [of_n64, of_n64]
  exact wrap_n64 _

theorem shl_n64 (x : BitVec 64) (k : Nat) : IntKind.u64.wrap (n64 x * (2 ^ k : Nat)) = n64 (x <<< k) := by
  rw [IntKind.wrap_u64]
  unfold n64
  rw [BitVec.toNat_shiftLeft, Nat.shiftLeft_eq]
  omega
theorem shr_n64 (x : BitVec 64) (k : Nat) : n64 x / (2 ^ k : Nat) = n64 (x >>> k) := by
  unfold n64
  rw [BitVec.toNat_ushiftRight, Nat.shiftRight_eq_div_pow]
  omega

/-- A number, turned. -/
def rot (x : BitVec 64) (k : Nat) : BitVec 64 := x <<< k ||| x >>> (64 - k)

theorem rot_n64 (x : BitVec 64) (k : Nat) (a b : Int) (ha : a = (2 ^ k : Nat)) (hb : b = (2 ^ (64 - k) : Nat)) :
    bits .or .u64 (IntKind.u64.wrap (n64 x * a)) (n64 x / b) = n64 (rot x k) := by
  rw [ha, hb, shl_n64, shr_n64, or_n64]
  rfl
theorem rot13 (x : BitVec 64) : bits .or .u64 (IntKind.u64.wrap (n64 x * 8192)) (n64 x / 2251799813685248) = n64 (rot x 13) := rot_n64 x 13 _ _ rfl rfl
theorem rot16 (x : BitVec 64) : bits .or .u64 (IntKind.u64.wrap (n64 x * 65536)) (n64 x / 281474976710656) = n64 (rot x 16) := rot_n64 x 16 _ _ rfl rfl
theorem rot17 (x : BitVec 64) : bits .or .u64 (IntKind.u64.wrap (n64 x * 131072)) (n64 x / 140737488355328) = n64 (rot x 17) := rot_n64 x 17 _ _ rfl rfl
theorem rot21 (x : BitVec 64) : bits .or .u64 (IntKind.u64.wrap (n64 x * 2097152)) (n64 x / 8796093022208) = n64 (rot x 21) := rot_n64 x 21 _ _ rfl rfl
theorem rot32 (x : BitVec 64) : bits .or .u64 (IntKind.u64.wrap (n64 x * 4294967296)) (n64 x / 4294967296) = n64 (rot x 32) := rot_n64 x 32 _ _ rfl rfl
theorem rot43 (x : BitVec 64) : bits .or .u64 (IntKind.u64.wrap (n64 x * 8796093022208)) (n64 x / 2097152) = n64 (rot x 43) := rot_n64 x 43 _ _ rfl rfl
theorem rot47 (x : BitVec 64) : bits .or .u64 (IntKind.u64.wrap (n64 x * 140737488355328)) (n64 x / 131072) = n64 (rot x 47) := rot_n64 x 47 _ _ rfl rfl
theorem rot48 (x : BitVec 64) : bits .or .u64 (IntKind.u64.wrap (n64 x * 281474976710656)) (n64 x / 65536) = n64 (rot x 48) := rot_n64 x 48 _ _ rfl rfl
theorem rot51 (x : BitVec 64) : bits .or .u64 (IntKind.u64.wrap (n64 x * 2251799813685248)) (n64 x / 8192) = n64 (rot x 51) := rot_n64 x 51 _ _ rfl rfl

theorem rot_bit (x : BitVec 64) (k i : Nat) (hk : k ≤ 64) (hi : i < 64) : (rot x k).getLsbD i = if i < k then x.getLsbD (64 - k + i) else x.getLsbD (i - k) := by
  unfold rot
  rw [BitVec.getLsbD_or, BitVec.getLsbD_shiftLeft, BitVec.getLsbD_ushiftRight]
  by_cases h : i < k
  · simp [h, hi]
  · have : 64 ≤ 64 - k + i := by omega
    simp [h, hi, BitVec.getLsbD_of_ge x _ this]
/-- Turned on by as much as is missing to 64, a number is as it was. -/
theorem rot_back (x : BitVec 64) (j k : Nat) (h : j + k = 64) (h0 : 0 < j) (h1 : 0 < k) : rot (rot x j) k = x := by
  apply BitVec.eq_of_getLsbD_eq
  intro i hi
  rw [rot_bit _ _ _ (by omega) hi]
  split
  · rw [rot_bit _ _ _ (by omega) (by omega), if_neg (by omega)]
    congr 1
    omega
  · rw [rot_bit _ _ _ (by omega) (by omega), if_pos (by omega)]
    congr 1
    omega

/-- Four numbers. -/
structure Q4 where
  a : BitVec 64
  b : BitVec 64
  c : BitVec 64
  d : BitVec 64

/-- A round. -/
def rnd (v : Q4) : Q4 :=
  let a1 := v.a + v.b
  let b1 := rot v.b 13 ^^^ a1
  let a2 := rot a1 32
  let c1 := v.c + v.d
  let d1 := rot v.d 16 ^^^ c1
  let a3 := a2 + d1
  let d2 := rot d1 21 ^^^ a3
  let c2 := c1 + b1
  let b2 := rot b1 17 ^^^ c2
  ⟨a3, b2, rot c2 32, d2⟩

/-- A round, undone. -/
def bck (v : Q4) : Q4 :=
  let c2 := rot v.c 32
  let b1 := rot (v.b ^^^ c2) 47
  let c1 := c2 - b1
  let d1 := rot (v.d ^^^ v.a) 43
  let a2 := v.a - d1
  let d0 := rot (d1 ^^^ c1) 48
  let c0 := c1 - d0
  let a1 := rot a2 32
  let b0 := rot (b1 ^^^ a1) 51
  ⟨a1 - b0, b0, c0, d0⟩

theorem xor_xor (x y : BitVec 64) : x ^^^ y ^^^ y = x := by rw [BitVec.xor_assoc, BitVec.xor_self, BitVec.xor_zero]

theorem bck_rnd (v : Q4) : bck (rnd v) = v := by
  obtain ⟨a, b, c, d⟩ := v
  simp only [rnd, bck, rot_back _ 32 32 rfl (by decide) (by decide), xor_xor, rot_back _ 17 47 rfl (by decide) (by decide), rot_back _ 21 43 rfl (by decide) (by decide),
    rot_back _ 16 48 rfl (by decide) (by decide), rot_back _ 13 51 rfl (by decide) (by decide), BitVec.add_sub_cancel]
theorem rnd_bck (v : Q4) : rnd (bck v) = v := by
  obtain ⟨a, b, c, d⟩ := v
  simp only [rnd, bck, BitVec.sub_add_cancel, rot_back _ 32 32 rfl (by decide) (by decide), xor_xor, rot_back _ 47 17 rfl (by decide) (by decide), rot_back _ 43 21 rfl (by decide) (by decide),
    rot_back _ 48 16 rfl (by decide) (by decide), rot_back _ 51 13 rfl (by decide) (by decide)]
theorem rnd_inj {v w : Q4} (h : rnd v = rnd w) : v = w := by rw [← bck_rnd v, h, bck_rnd]

/-- As many rounds. -/
def rnds : Nat → Q4 → Q4
  | 0, v => v
  | n + 1, v => rnd (rnds n v)

/-- A number, taken in. -/
def tk (v : Q4) (m : BitVec 64) : Q4 :=
  let u := rnds 2 ⟨v.a, v.b, v.c, v.d ^^^ m⟩
  ⟨u.a ^^^ m, u.b, u.c, u.d⟩
/-- The sum of what was taken in. -/
def fin (v : Q4) : BitVec 64 :=
  let u := rnds 4 ⟨v.a, v.b, v.c ^^^ 255#64, v.d⟩
  u.a ^^^ u.b ^^^ u.c ^^^ u.d
theorem n255 : (255 : Int) = n64 255#64 := rfl
theorem n0 : (0 : Int) = n64 0#64 := rfl

/-- The four numbers at first. -/
def ini (a b : BitVec 64) : Q4 := ⟨a ^^^ 8317987319222330741#64, b ^^^ 7237128888997146477#64, a ^^^ 7816392313619706465#64, b ^^^ 8387220255154660723#64⟩
theorem ini0 (a : BitVec 64) : bits .xor .u64 (n64 a) 8317987319222330741 = n64 (a ^^^ 8317987319222330741#64) := xor_n64 a 8317987319222330741#64
theorem ini1 (a : BitVec 64) : bits .xor .u64 (n64 a) 7237128888997146477 = n64 (a ^^^ 7237128888997146477#64) := xor_n64 a 7237128888997146477#64
theorem ini2 (a : BitVec 64) : bits .xor .u64 (n64 a) 7816392313619706465 = n64 (a ^^^ 7816392313619706465#64) := xor_n64 a 7816392313619706465#64
theorem ini3 (a : BitVec 64) : bits .xor .u64 (n64 a) 8387220255154660723 = n64 (a ^^^ 8387220255154660723#64) := xor_n64 a 8387220255154660723#64

/-- A byte, shifted. -/
def bsh (b : UInt8) (j : Nat) : BitVec 64 := (BitVec.ofNat 64 b.toNat) <<< j
/-- The first k bytes, as a number, the least one first. -/
def wd : Nat → List UInt8 → BitVec 64
  | 0, _ => 0#64
  | k + 1, l => wd k l ||| bsh (l.getD k 0) (8 * k)
/-- What was taken in of pieces of a text. -/
def eat (v : Q4) (pre : List ByteArray) : Q4 := pre.foldl (fun v p => tk v (wd 8 p.data.toList)) v
theorem eat_snoc (v : Q4) (pre : List ByteArray) (p : ByteArray) : eat v (pre ++ [p]) = tk (eat v pre) (wd 8 p.data.toList) := by simp [eat]
theorem wd_short (l : List UInt8) : ∀ k j, l.length ≤ k → wd (k + j) l = wd k l := by
  intro k j h
  induction j with
  | zero => rfl
  | succ j ih =>
    show wd (k + j) l ||| bsh (l.getD (k + j) 0) (8 * (k + j)) = _
    rw [ih, List.getD_eq_getElem?_getD, List.getElem?_eq_none (by omega)]
    simp [bsh]
theorem wd_full (l : List UInt8) (k : Nat) (h : k = l.length) (h8 : k ≤ 8) : wd k l = wd 8 l := by
  obtain ⟨j, hj⟩ : ∃ j, 8 = k + j := ⟨8 - k, by omega⟩
  rw [hj]
  exact (wd_short l k j (by omega)).symm
theorem wd_next (l : List UInt8) (k : Nat) (h : k < l.length) : wd (k + 1) l = wd k l ||| bsh l[k] (8 * k) := by
  show wd k l ||| bsh (l.getD k 0) (8 * k) = _
  rw [List.getD_eq_getElem?_getD, List.getElem?_eq_getElem h]
  rfl
theorem byte_n64 (b : UInt8) : (b.toNat : Int) = n64 (BitVec.ofNat 64 b.toNat) := by
  unfold n64
  rw [BitVec.toNat_ofNat, Nat.mod_eq_of_lt (by have := b.toNat_lt; omega)]

theorem byte_shl (b : UInt8) (j : Nat) : IntKind.u64.wrap ((b.toNat : Int) * 2 ^ j) = n64 (bsh b j) := by
  unfold bsh
  rw [byte_n64, ← shl_n64]
  congr 2

theorem wrap_byte (b : UInt8) : IntKind.u64.wrap (b.toNat : Int) = (b.toNat : Int) := by rw [byte_n64, wrap_n64]
/-- A byte as a number, shifted by eight times as much as a counter. -/
theorem shl_byte8 (b : UInt8) (k : Nat) (h : k < 8) : Op.shift .shl .u64 (IntKind.u64.wrap (b.toNat : Int)) .i64 (IntKind.i64.wrap (8 * (k : Int))) = pure (.int .u64 (n64 (bsh b (8 * k)))) := by
  have g1 : IntKind.i64.wrap (8 * (k : Int)) = 8 * (k : Int) := IntWalk.i64_in _ (by omega)
  rw [g1, wrap_byte, shift_shl _ _ _ _ (by omega) (by simp [IntKind.bits]; omega)]
  have g4 : (8 * (k : Int)).toNat = 8 * k := by omega
  rw [g4, byte_shl]

end Go.Proofs.Ytkhlfgbfgebdeaa
