/- Plain words on check sums, over lists of octets. -/
import Derived.Test.Ytndccdoohmgmlab4P
namespace Go.Proofs.Ytndccdoohmgmlab.Pk

def poly : Nat := 3988292384
def ones : Nat := 4294967295

def stepS (r : Nat) : Nat := if r % 2 = 1 then r / 2 ^^^ poly else r / 2
def manyS : Nat → Nat → Nat
  | 0, r => r
  | k + 1, r => stepS (manyS k r)
def octS (r : Nat) (c : UInt8) : Nat := manyS 8 (r ^^^ c.toNat)
def regS : Nat → List UInt8 → Nat
  | r, [] => r
  | r, c :: l => regS (octS r c) l
def sumS (l : List UInt8) : Nat := ones ^^^ regS ones l

theorem lt32 {a b : Nat} (ha : a < 4294967296) (hb : b < 4294967296) : a ^^^ b < 4294967296 := Nat.xor_lt_two_pow (n := 32) ha hb
theorem poly_lt : poly < 4294967296 := by decide
theorem ones_lt : ones < 4294967296 := by decide

theorem stepS_lt {r : Nat} (h : r < 4294967296) : stepS r < 4294967296 := by
  unfold stepS
  split
  · exact lt32 (by omega) poly_lt
  · omega
theorem manyS_lt {r : Nat} (h : r < 4294967296) : ∀ k, manyS k r < 4294967296
  | 0 => h
  | k + 1 => stepS_lt (manyS_lt h k)
theorem octS_lt {r : Nat} (h : r < 4294967296) (c : UInt8) : octS r c < 4294967296 := manyS_lt (lt32 h (by have := c.toNat_lt; omega)) 8
theorem regS_lt : ∀ (l : List UInt8) {r : Nat}, r < 4294967296 → regS r l < 4294967296
  | [], _, h => h
  | c :: l, _, h => regS_lt l (octS_lt h c)
theorem regS_snoc : ∀ (l : List UInt8) (r : Nat) (c : UInt8), regS r (l ++ [c]) = octS (regS r l) c
  | [], _, _ => rfl
  | d :: l, r, c => regS_snoc l (octS r d) c
theorem sumS_lt (l : List UInt8) : sumS l < 4294967296 := lt32 ones_lt (regS_lt l ones_lt)

theorem low_xor (a b : Nat) : (a ^^^ b) % 2 = (a + b) % 2 := by
  have h := Nat.testBit_xor a b 0
  rw [Nat.testBit_zero, Nat.testBit_zero, Nat.testBit_zero] at h
  by_cases ha : a % 2 = 1 <;> by_cases hb : b % 2 = 1
  · rw [decide_eq_true ha, decide_eq_true hb] at h
    have := of_decide_eq_false h
    omega
  · rw [decide_eq_true ha, decide_eq_false hb] at h
    have := of_decide_eq_true h
    omega
  · rw [decide_eq_false ha, decide_eq_true hb] at h
    have := of_decide_eq_true h
    omega
  · rw [decide_eq_false ha, decide_eq_false hb] at h
    have := of_decide_eq_false h
    omega

theorem half_xor (a b : Nat) : (a ^^^ b) / 2 = a / 2 ^^^ b / 2 := by
  have := Nat.shiftRight_xor_distrib (a := a) (b := b) (i := 1)
  simpa [Nat.shiftRight_eq_div_pow] using this

theorem stepS_xor (a b : Nat) : stepS (a ^^^ b) = stepS a ^^^ stepS b := by
  have e := half_xor a b
  have m : (a ^^^ b) % 2 = (a + b) % 2 := low_xor _ _
  unfold stepS
  rw [e, m]
  have ca : a % 2 = 0 ∨ a % 2 = 1 := by omega
  have cb : b % 2 = 0 ∨ b % 2 = 1 := by omega
  rcases ca with ha | ha <;> rcases cb with hb | hb
  · rw [if_neg (by omega), if_neg (by omega), if_neg (by omega)]
  · rw [if_pos (by omega), if_neg (by omega), if_pos (by omega), Nat.xor_assoc]
  · rw [if_pos (by omega), if_pos (by omega), if_neg (by omega), Nat.xor_assoc, Nat.xor_assoc, Nat.xor_comm poly]
  · rw [if_neg (by omega), if_pos (by omega), if_pos (by omega), Nat.xor_assoc, Nat.xor_comm (b / 2), ← Nat.xor_assoc poly, Nat.xor_self, Nat.zero_xor]

theorem manyS_xor (a b : Nat) : ∀ k, manyS k (a ^^^ b) = manyS k a ^^^ manyS k b
  | 0 => rfl
  | k + 1 => by rw [manyS, manyS_xor a b k, stepS_xor, manyS, manyS]

/-- The exclusive or of three. -/
def x3 (a b c : Nat) : Nat := a ^^^ b ^^^ c
theorem x3_x3 (a b c d e f : Nat) : x3 a b c ^^^ x3 d e f = x3 (a ^^^ d) (b ^^^ e) (c ^^^ f) := by
  unfold x3
  ac_rfl
theorem x3_self (a : Nat) : x3 a a a = a := by unfold x3; rw [Nat.xor_self, Nat.zero_xor]

def mixS : List UInt8 → List UInt8 → List UInt8 → List UInt8
  | x :: a, y :: b, z :: c => (x ^^^ y ^^^ z) :: mixS a b c
  | _, _, _ => []

theorem octS_x3 (r s t : Nat) (x y z : UInt8) : octS (x3 r s t) (x ^^^ y ^^^ z) = x3 (octS r x) (octS s y) (octS t z) := by
  have e1 : (x ^^^ y ^^^ z).toNat = x3 x.toNat y.toNat z.toNat := by
    unfold x3
    rw [UInt8.toNat_xor, UInt8.toNat_xor]
  unfold octS
  rw [e1, x3_x3]
  unfold x3
  rw [manyS_xor (r ^^^ x.toNat ^^^ (s ^^^ y.toNat)), manyS_xor (r ^^^ x.toNat)]

theorem regF_x3 {f : Nat → UInt8 → Nat} (hf : ∀ r s t x y z, f (x3 r s t) (x ^^^ y ^^^ z) = x3 (f r x) (f s y) (f t z)) : ∀ (a b c : List UInt8) (r s t : Nat), b.length = a.length → c.length = a.length →
    (mixS a b c).foldl f (x3 r s t) = x3 (a.foldl f r) (b.foldl f s) (c.foldl f t)
  | [], [], [], _, _, _, _, _ => rfl
  | x :: a, y :: b, z :: c, r, s, t, h1, h2 => by
    rw [mixS, List.foldl_cons, hf, regF_x3 hf a b c _ _ _ (by simpa using h1) (by simpa using h2), List.foldl_cons, List.foldl_cons, List.foldl_cons]
  | [], _ :: _, _, _, _, _, h, _ => by simp at h
  | [], [], _ :: _, _, _, _, _, h => by simp at h
  | _ :: _, [], _, _, _, _, h, _ => by simp at h
  | _ :: _, _ :: _, [], _, _, _, _, h => by simp at h

theorem regS_fold : ∀ (l : List UInt8) (r : Nat), regS r l = l.foldl octS r
  | [], _ => rfl
  | c :: l, r => by rw [List.foldl_cons, ← regS_fold l]; rfl

theorem regS_x3 (a b c : List UInt8) (r s t : Nat) (h1 : b.length = a.length) (h2 : c.length = a.length) : regS (x3 r s t) (mixS a b c) = x3 (regS r a) (regS s b) (regS t c) := by
  rw [regS_fold, regS_fold, regS_fold, regS_fold]
  exact regF_x3 octS_x3 a b c r s t h1 h2

theorem sumS_x3 {a b c : List UInt8} (h1 : b.length = a.length) (h2 : c.length = a.length) : sumS (mixS a b c) = sumS a ^^^ sumS b ^^^ sumS c := by
  have h := regS_x3 a b c ones ones ones h1 h2
  rw [x3_self] at h
  have e : x3 ones ones ones ^^^ x3 (regS ones a) (regS ones b) (regS ones c) = x3 (ones ^^^ regS ones a) (ones ^^^ regS ones b) (ones ^^^ regS ones c) := x3_x3 _ _ _ _ _ _
  rw [x3_self, ← h] at e
  exact e

theorem mixS_length : ∀ (a b c : List UInt8), b.length = a.length → c.length = a.length → (mixS a b c).length = a.length
  | [], _, _, _, _ => by simp [mixS]
  | x :: a, y :: b, z :: c, h1, h2 => by rw [mixS, List.length_cons, mixS_length a b c (by simpa using h1) (by simpa using h2), List.length_cons]
  | _ :: _, [], _, h, _ => by simp at h
  | _ :: _, _ :: _, [], _, h => by simp at h

theorem mixS_at : ∀ (a b c : List UInt8) (j : Nat) (x y z : UInt8), a[j]? = some x → b[j]? = some y → c[j]? = some z → (mixS a b c)[j]? = some (x ^^^ y ^^^ z)
  | [], _, _, _, _, _, _, h, _, _ => by simp at h
  | _ :: _, [], _, _, _, _, _, _, h, _ => by simp at h
  | _ :: _, _ :: _, [], _, _, _, _, _, _, h => by simp at h
  | _ :: _, _ :: _, _ :: _, 0, _, _, _, h1, h2, h3 => by
    simp only [List.getElem?_cons_zero, Option.some.injEq] at h1 h2 h3
    subst h1 h2 h3
    simp [mixS]
  | _ :: a, _ :: b, _ :: c, j + 1, x, y, z, h1, h2, h3 => by
    rw [mixS, List.getElem?_cons_succ]
    exact mixS_at a b c j x y z (by simpa using h1) (by simpa using h2) (by simpa using h3)

/-! ### bit by bit -/
/-- The register, where the octet's bits come one by one. -/
def bitS (c : Nat) : Nat → Nat → Nat
  | 0, r => r
  | k + 1, r => if bitS c k r % 2 = c / 2 ^ k % 2 then bitS c k r / 2 else bitS c k r / 2 ^^^ poly

theorem manyS_bitS (c r : Nat) : ∀ k, manyS k (r ^^^ c) = bitS c k r ^^^ c / 2 ^ k
  | 0 => by simp [manyS, bitS]
  | k + 1 => by
    have m : (bitS c k r ^^^ c / 2 ^ k) % 2 = (bitS c k r + c / 2 ^ k) % 2 := low_xor _ _
    have hd : c / 2 ^ (k + 1) = c / 2 ^ k / 2 := by rw [Nat.div_div_eq_div_mul, Nat.pow_succ]
    rw [manyS, manyS_bitS c r k, stepS, half_xor, m, hd, bitS]
    by_cases h : bitS c k r % 2 = c / 2 ^ k % 2
    · rw [if_neg (by omega), if_pos h]
    · rw [if_pos (by omega), if_neg h, Nat.xor_assoc, Nat.xor_assoc, Nat.xor_comm poly]

theorem octS_bitS (r : Nat) (c : UInt8) : octS r c = bitS c.toNat 8 r := by
  have := c.toNat_lt
  rw [octS, manyS_bitS, Nat.div_eq_of_lt (by omega), Nat.xor_zero]

theorem bitS_lt {r : Nat} (c : Nat) (h : r < 4294967296) : ∀ k, bitS c k r < 4294967296
  | 0 => h
  | k + 1 => by
    have := bitS_lt c h k
    rw [bitS]
    split
    · omega
    · exact lt32 (by omega) poly_lt

theorem ones_sub {r : Nat} (h : r < 4294967296) : ones - r = ones ^^^ r := by
  have e : (~~~ (BitVec.ofNat 32 r)).toNat = ones - r := by
    rw [BitVec.toNat_not, BitVec.toNat_ofNat, Nat.mod_eq_of_lt h]; rfl
  have e2 : (BitVec.ofNat 32 ones ^^^ BitVec.ofNat 32 r).toNat = ones ^^^ r := by
    rw [BitVec.toNat_xor, BitVec.toNat_ofNat, BitVec.toNat_ofNat, Nat.mod_eq_of_lt h, Nat.mod_eq_of_lt ones_lt]
  rw [← e, ← e2]
  have e3 : BitVec.ofNat 32 ones = BitVec.allOnes 32 := by decide
  rw [e3]
  rw [BitVec.allOnes_xor]

end Go.Proofs.Ytndccdoohmgmlab.Pk
