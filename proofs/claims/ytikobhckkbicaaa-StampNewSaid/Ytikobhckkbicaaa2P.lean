/- Plain words on stamps: what each call answers, over lists, without any memory. -/
namespace Go.Proofs.Ytikobhckkbicaaa.Sk

def maxStamp : Int := 4611686018427387904

def isSt (n : Int) : Bool := decide (1 ≤ n ∧ n ≤ maxStamp)

/-- A number's lowest octets, the lowest one first. -/
def low : Nat → Nat → List UInt8
  | 0, _ => []
  | k + 1, n => UInt8.ofNat (n % 256) :: low k (n / 256)

/-- The number of which these are the octets. -/
def le : List UInt8 → Nat
  | [] => 0
  | b :: r => b.toNat + 256 * le r

/-- The same as a signed number. -/
def val (l : List UInt8) : Int := if le l < 9223372036854775808 then (le l : Int) else (le l : Int) - 18446744073709551616

def mk (n : Int) : List UInt8 := low 8 n.toNat

theorem low_length : ∀ k n, (low k n).length = k
  | 0, _ => rfl
  | k + 1, n => by simp [low, low_length k]

theorem mk_length (n : Int) : (mk n).length = 8 := low_length 8 _

theorem low_at : ∀ (k n j : Nat), j < k → (low k n)[j]? = some (UInt8.ofNat (n / 256 ^ j % 256))
  | 0, _, _, h => absurd h (by omega)
  | k + 1, n, 0, _ => by simp [low]
  | k + 1, n, j + 1, h => by
    simp only [low, List.getElem?_cons_succ]
    rw [low_at k (n / 256) j (by omega), Nat.div_div_eq_div_mul, Nat.pow_succ, Nat.mul_comm]

theorem le_low : ∀ (k n : Nat), n < 256 ^ k → le (low k n) = n
  | 0, n, h => by simp at h; simp [low, le, h]
  | k + 1, n, h => by
    simp only [low, le]
    rw [le_low k (n / 256) (by rw [Nat.pow_succ] at h; omega)]
    simp only [UInt8.toNat_ofNat']
    omega

theorem le_lt : ∀ (l : List UInt8), le l < 256 ^ l.length
  | [] => by simp [le]
  | b :: r => by
    have h := le_lt r
    have hb := b.toNat_lt
    simp only [le, List.length_cons, Nat.pow_succ]
    omega

theorem low_le : ∀ (l : List UInt8), low l.length (le l) = l
  | [] => rfl
  | b :: r => by
    have h := low_le r
    have hb := b.toNat_lt
    simp only [List.length_cons, low, le]
    rw [show (b.toNat + 256 * le r) % 256 = b.toNat from by omega, show (b.toNat + 256 * le r) / 256 = le r from by omega, h]
    congr 1
    exact UInt8.toNat_inj.1 (by simp)

theorem le_snoc (l : List UInt8) (b : UInt8) : le (l ++ [b]) = le l + 256 ^ l.length * b.toNat := by
  induction l with
  | nil => simp [le]
  | cons c r ih =>
    simp only [List.cons_append, le, ih, List.length_cons, Nat.pow_succ]
    rw [Nat.mul_add, ← Nat.mul_assoc, Nat.mul_comm 256 (256 ^ r.length)]
    omega

theorem p256 : 256 ^ 8 = 18446744073709551616 := by decide

theorem val_mk {n : Int} (h : isSt n = true) : val (mk n) = n := by
  have h : 1 ≤ n ∧ n ≤ 4611686018427387904 := of_decide_eq_true h
  have e : le (mk n) = n.toNat := le_low 8 _ (by rw [p256]; omega)
  rw [val, e, if_pos (by omega)]
  omega

theorem mk_val {l : List UInt8} (hl : l.length = 8) (h : isSt (val l) = true) : mk (val l) = l := by
  have h : 1 ≤ val l ∧ val l ≤ 4611686018427387904 := of_decide_eq_true h
  have h8 := low_le l
  have hlt := le_lt l
  rw [hl] at h8 hlt
  have e : (val l).toNat = le l := by
    simp only [val] at h ⊢
    split at h <;> rename_i hc
    · rw [if_pos hc]; omega
    · rw [p256] at hlt; omega
  rw [mk, e, h8]

theorem mk_inj {n m : Int} (h : isSt n = true) (h' : isSt m = true) (e : mk n = mk m) : n = m := by
  rw [← val_mk h, ← val_mk h', e]

def zeros (k : Nat) : List UInt8 := List.replicate k 0

theorem val_zeros : val (zeros 8) = 0 := by decide

theorem mk_ne_zeros {n : Int} (h : isSt n = true) : mk n ≠ zeros 8 := by
  intro e
  have h1 := val_mk h
  rw [e, val_zeros] at h1
  subst h1
  exact absurd h (by decide)

/-- Seal. -/
def seal_ (n : Int) (pay : List UInt8) : List UInt8 × Int :=
  if isSt n = false then ([], 1) else if 16 < pay.length then ([], 3) else (mk n ++ (pay ++ zeros (16 - pay.length)) ++ mk n, 0)

/-- Open. -/
def opens (b : List UInt8) : Int × List UInt8 × Int :=
  if b.length ≠ 32 then (0, [], 1)
  else if b.take 8 = zeros 8 ∧ b.drop 24 = zeros 8 then (0, [], 5)
  else if b.take 8 ≠ b.drop 24 ∨ isSt (val (b.take 8)) = false then (0, [], 8)
  else (val (b.take 8), (b.drop 8).take 16, 0)

def mixOk (o b : List UInt8) (many : Int) : Bool := decide (o.length = 32 ∧ b.length = 32 ∧ 0 ≤ many ∧ many ≤ 32)

/-- Mix. -/
def mix (o b : List UInt8) (many : Int) : List UInt8 × Int :=
  if mixOk o b many then (b.take many.toNat ++ o.drop many.toNat, 0) else ([], 1)

def isPr (g a : Int) : Bool := decide (1 ≤ g ∧ g ≤ 1099511627776 ∧ 0 ≤ a ∧ a < 1048576)

def pair (g a : Int) : Int × Int := if isPr g a then (g * 1048576 + a, 0) else (0, 1)

def unpair (n : Int) : Int × Int × Int := if isPr (n.tdiv 1048576) (n.tmod 1048576) then (n.tdiv 1048576, n.tmod 1048576, 0) else (0, 0, 1)

end Go.Proofs.Ytikobhckkbicaaa.Sk
