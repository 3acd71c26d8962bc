/- Turned vectors over lists; ways as numbers to the base four; what follows. -/
import Derived.Test.Ytjohknpjkcbjlaa6M
namespace Go.Proofs.Ytjohknpjkcbjlaa.Tw
open Go.Proofs.Ytjohknpjkcbjlaa Go.Proofs.Ytjohknpjkcbjlaa.Pk Go.Proofs.Ytjohknpjkcbjlaa.Vc

/-- Two numbers, turned by so many quarters. -/
def rot : Nat → Int × Int → Int × Int
  | 0, p => p
  | n + 1, p => (-(rot n p).2, (rot n p).1)
/-- A vector whose first pairs, so many, are turned. -/
def trn : Nat → Nat → List Int → List Int
  | k + 1, n, x :: y :: r => (rot (n % 4) (x, y)).1 :: (rot (n % 4) (x, y)).2 :: trn k (n / 4) r
  | _, _, v => v
def bot : Nat → Nat → Nat → Nat
  | 0, _, _ => 0
  | k + 1, a, b => (a % 4 + b % 4) % 4 + 4 * bot k (a / 4) (b / 4)
def nt : Nat → Nat → Nat
  | 0, _ => 0
  | k + 1, a => (4 - a % 4) % 4 + 4 * nt k (a / 4)

def okW (w : Int) : Bool := decide (0 ≤ w ∧ w ≤ 4611686018427387903)
def turn (v : List Int) (w : Int) : List Int × Int := if okV v && okW w then (trn 31 w.toNat v, 0) else ([], 1)
def back (v : List Int) (w : Int) : List Int × Int := if okW w then turn v ((nt 31 w.toNat : Nat) : Int) else ([], 1)
def both (a b : Int) : Int × Int := if okW a && okW b then (((bot 31 a.toNat b.toNat : Nat) : Int), 0) else (0, 1)
def nott (a : Int) : Int × Int := if okW a then (((nt 31 a.toNat : Nat) : Int), 0) else (0, 1)

theorem rot_add (a b : Nat) (p : Int × Int) : rot (a + b) p = rot a (rot b p) := by
  induction a with
  | zero => rw [Nat.zero_add]; rfl
  | succ a ih => rw [Nat.succ_add, rot, rot, ih]
theorem rot_four (p : Int × Int) : rot 4 p = p := by
  obtain ⟨x, y⟩ := p
  simp [rot]
theorem rot_mod (n : Nat) (p : Int × Int) : rot (n % 4) p = rot n p := by
  induction n using Nat.strongRecOn with
  | _ n ih =>
    by_cases h : n < 4
    · rw [Nat.mod_eq_of_lt h]
    · have e : n = (n - 4) + 4 := by omega
      have h2 := ih (n - 4) (by omega)
      rw [show n % 4 = (n - 4) % 4 by omega, h2]
      conv => rhs; rw [e, rot_add, rot_four]

theorem rot_cases (n : Nat) (x y : Int) : rot (n % 4) (x, y) = if n % 4 = 0 then (x, y) else if n % 4 = 1 then (-y, x) else if n % 4 = 2 then (-x, -y) else (y, -x) := by
  have h : n % 4 = 0 ∨ n % 4 = 1 ∨ n % 4 = 2 ∨ n % 4 = 3 := by omega
  rcases h with h | h | h | h <;> rw [h] <;> simp [rot]
theorem rot_in {n : Nat} {x y : Int} (hx : -32767 ≤ x ∧ x ≤ 32767) (hy : -32767 ≤ y ∧ y ≤ 32767) : (-32767 ≤ (rot (n % 4) (x, y)).1 ∧ (rot (n % 4) (x, y)).1 ≤ 32767) ∧ (-32767 ≤ (rot (n % 4) (x, y)).2 ∧ (rot (n % 4) (x, y)).2 ≤ 32767) := by
  rw [rot_cases]
  split
  · exact ⟨hx, hy⟩
  · split
    · exact ⟨by dsimp only; omega, hx⟩
    · split
      · exact ⟨by dsimp only; omega, by dsimp only; omega⟩
      · exact ⟨hy, by dsimp only; omega⟩

theorem trn_zero (n : Nat) (v : List Int) : trn 0 n v = v := by cases v <;> rfl
theorem trn_short (k n : Nat) {v : List Int} (h : v.length < 2) : trn k n v = v := by
  match k, v with
  | 0, v => exact trn_zero n v
  | k + 1, [] => rfl
  | k + 1, [_] => rfl
  | k + 1, _ :: _ :: _ =>
    simp at h
    omega

theorem trn_length : ∀ (k n : Nat) (v : List Int), (trn k n v).length = v.length
  | 0, n, v => by rw [trn_zero]
  | k + 1, n, [] => rfl
  | k + 1, n, [_] => rfl
  | k + 1, n, x :: y :: r => by rw [trn, List.length_cons, List.length_cons, trn_length k, List.length_cons, List.length_cons]
theorem trn_in : ∀ (k n : Nat) {v : List Int}, In v → In (trn k n v)
  | 0, n, v, h => by rw [trn_zero]; exact h
  | k + 1, n, [], h => h
  | k + 1, n, [_], h => h
  | k + 1, n, x :: y :: r, h => by
    have hx := h x (by simp)
    have hy := h y (by simp)
    have hr := trn_in k (n / 4) (v := r) fun z hz => h z (by simp [hz])
    have hb := rot_in (n := n) hx hy
    intro z hz
    rw [trn] at hz
    rcases List.mem_cons.1 hz with rfl | hz
    · exact hb.1
    · rcases List.mem_cons.1 hz with rfl | hz
      · exact hb.2
      · exact hr z hz

theorem trn_bot : ∀ (k a b : Nat) (v : List Int), trn k (bot k a b) v = trn k b (trn k a v)
  | 0, a, b, v => by rw [trn_zero, trn_zero, trn_zero]
  | k + 1, a, b, [] => rfl
  | k + 1, a, b, [_] => rfl
  | k + 1, a, b, x :: y :: r => by
    have e1 : bot (k + 1) a b % 4 = (a % 4 + b % 4) % 4 := by rw [bot]; omega
    have e2 : bot (k + 1) a b / 4 = bot k (a / 4) (b / 4) := by rw [bot]; omega
    have e3 : rot ((a % 4 + b % 4) % 4) (x, y) = rot (b % 4) (rot (a % 4) (x, y)) := by rw [rot_mod, Nat.add_comm, rot_add]
    rw [trn, trn, trn, e1, e2, e3, trn_bot k]
theorem trn_nt : ∀ (k a : Nat) (v : List Int), trn k (nt k a) (trn k a v) = v
  | 0, a, v => by rw [trn_zero, trn_zero]
  | k + 1, a, [] => rfl
  | k + 1, a, [_] => rfl
  | k + 1, a, x :: y :: r => by
    have e1 : nt (k + 1) a % 4 = (4 - a % 4) % 4 := by rw [nt]; omega
    have e2 : nt (k + 1) a / 4 = nt k (a / 4) := by rw [nt]; omega
    have e3 : rot ((4 - a % 4) % 4) (rot (a % 4) (x, y)) = (x, y) := by
      rw [rot_mod, ← rot_add, show 4 - a % 4 + a % 4 = 4 by omega, rot_four]
    have e4 : ((rot (a % 4) (x, y)).1, (rot (a % 4) (x, y)).2) = rot (a % 4) (x, y) := rfl
    rw [trn, trn, e1, e2, e4, e3, trn_nt k]

theorem bot_lt : ∀ (k a b : Nat), bot k a b < 4 ^ k
  | 0, _, _ => by simp [bot]
  | k + 1, a, b => by
    have := bot_lt k (a / 4) (b / 4)
    rw [bot, Nat.pow_succ]
    omega
theorem nt_lt : ∀ (k a : Nat), nt k a < 4 ^ k
  | 0, _ => by simp [nt]
  | k + 1, a => by
    have := nt_lt k (a / 4)
    rw [nt, Nat.pow_succ]
    omega
theorem bot_comm : ∀ (k a b : Nat), bot k a b = bot k b a
  | 0, _, _ => rfl
  | k + 1, a, b => by rw [bot, bot, bot_comm k, Nat.add_comm (a % 4)]
theorem bot_assoc : ∀ (k a b c : Nat), bot k (bot k a b) c = bot k a (bot k b c)
  | 0, _, _, _ => rfl
  | k + 1, a, b, c => by
    have e1 : bot (k + 1) a b % 4 = (a % 4 + b % 4) % 4 := by rw [bot]; omega
    have e2 : bot (k + 1) a b / 4 = bot k (a / 4) (b / 4) := by rw [bot]; omega
    have e3 : bot (k + 1) b c % 4 = (b % 4 + c % 4) % 4 := by rw [bot]; omega
    have e4 : bot (k + 1) b c / 4 = bot k (b / 4) (c / 4) := by rw [bot]; omega
    have h1 : bot (k + 1) (bot (k + 1) a b) c = (bot (k + 1) a b % 4 + c % 4) % 4 + 4 * bot k (bot (k + 1) a b / 4) (c / 4) := rfl
    have h2 : bot (k + 1) a (bot (k + 1) b c) = (a % 4 + bot (k + 1) b c % 4) % 4 + 4 * bot k (a / 4) (bot (k + 1) b c / 4) := rfl
    rw [h1, h2, e1, e2, e3, e4, bot_assoc k]
    omega
theorem bot_nt : ∀ (k a : Nat), bot k a (nt k a) = 0
  | 0, _ => rfl
  | k + 1, a => by
    have e1 : nt (k + 1) a % 4 = (4 - a % 4) % 4 := by rw [nt]; omega
    have e2 : nt (k + 1) a / 4 = nt k (a / 4) := by rw [nt]; omega
    have h1 : bot (k + 1) a (nt (k + 1) a) = (a % 4 + nt (k + 1) a % 4) % 4 + 4 * bot k (a / 4) (nt (k + 1) a / 4) := rfl
    rw [h1, e1, e2, bot_nt k]
    omega
theorem bot_zero : ∀ (k a : Nat), a < 4 ^ k → bot k a 0 = a
  | 0, a, h => by simp at h; rw [h]; rfl
  | k + 1, a, h => by
    rw [Nat.pow_succ] at h
    have h1 : bot (k + 1) a 0 = (a % 4 + 0 % 4) % 4 + 4 * bot k (a / 4) (0 / 4) := rfl
    rw [h1, Nat.zero_div, bot_zero k (a / 4) (by omega)]
    omega
theorem bot_four : ∀ (k a : Nat), bot k (bot k a a) (bot k a a) = 0
  | 0, _ => rfl
  | k + 1, a => by
    have e1 : bot (k + 1) a a % 4 = (a % 4 + a % 4) % 4 := by rw [bot]; omega
    have e2 : bot (k + 1) a a / 4 = bot k (a / 4) (a / 4) := by rw [bot]; omega
    have h1 : bot (k + 1) (bot (k + 1) a a) (bot (k + 1) a a) = (bot (k + 1) a a % 4 + bot (k + 1) a a % 4) % 4 + 4 * bot k (bot (k + 1) a a / 4) (bot (k + 1) a a / 4) := rfl
    rw [h1, e1, e2, bot_four k]
    omega

/-- A sum, its first two apart. -/
theorem sm_two (f : Nat → Int) (n : Nat) : sm f (n + 2) = f 0 + f 1 + sm (fun i => f (i + 2)) n := by
  rw [Nat.add_comm, sm_split]
  have e : (fun i => f (2 + i)) = fun i => f (i + 2) := by funext i; rw [Nat.add_comm]
  rw [e]
  simp [sm]
theorem rot_dif (n : Nat) (x y u v : Int) : ((rot (n % 4) (x, y)).1 - (rot (n % 4) (u, v)).1) * ((rot (n % 4) (x, y)).1 - (rot (n % 4) (u, v)).1) + ((rot (n % 4) (x, y)).2 - (rot (n % 4) (u, v)).2) * ((rot (n % 4) (x, y)).2 - (rot (n % 4) (u, v)).2) = (x - u) * (x - u) + (y - v) * (y - v) := by
  rw [rot_cases, rot_cases]
  have e1 : -y - -v = -(y - v) := by omega
  have e2 : -x - -u = -(x - u) := by omega
  split
  · rfl
  · split
    · dsimp only; rw [e1, Int.neg_mul_neg]; omega
    · split
      · dsimp only; rw [e1, e2, Int.neg_mul_neg, Int.neg_mul_neg]
      · dsimp only; rw [e2, Int.neg_mul_neg]; omega
theorem rot_pro (n : Nat) (x y u v : Int) : (rot (n % 4) (x, y)).1 * (rot (n % 4) (u, v)).1 + (rot (n % 4) (x, y)).2 * (rot (n % 4) (u, v)).2 = x * u + y * v := by
  rw [rot_cases, rot_cases]
  split
  · rfl
  · split
    · dsimp only; rw [Int.neg_mul_neg]; omega
    · split
      · dsimp only; rw [Int.neg_mul_neg, Int.neg_mul_neg]
      · dsimp only; rw [Int.neg_mul_neg]; omega
theorem trn_dif : ∀ (k n : Nat) (a b : List Int), a.length = b.length → sm (dif (trn k n a) (trn k n b)) a.length = sm (dif a b) a.length
  | 0, n, a, b, _ => by rw [trn_zero, trn_zero]
  | k + 1, n, [], b, h => by
    obtain rfl : b = [] := List.eq_nil_of_length_eq_zero h.symm
    rfl
  | k + 1, n, [x], b, h => by rw [trn_short (k + 1) n (v := b) (by rw [← h]; simp)]; rfl
  | k + 1, n, x :: y :: r, [], h => by simp at h
  | k + 1, n, x :: y :: r, [_], h => by simp at h
  | k + 1, n, x :: y :: r, u :: v :: s, h => by
    have hl : r.length = s.length := by simpa using h
    have ih := trn_dif k (n / 4) r s hl
    have e : (x :: y :: r).length = r.length + 2 := by simp
    rw [e, sm_two, sm_two]
    have f1 : ∀ i, dif (x :: y :: r) (u :: v :: s) (i + 2) = dif r s i := fun i => by simp [dif]
    have f2 : ∀ i, dif (trn (k + 1) n (x :: y :: r)) (trn (k + 1) n (u :: v :: s)) (i + 2) = dif (trn k (n / 4) r) (trn k (n / 4) s) i := fun i => by simp [dif, trn]
    rw [sm_congr fun i _ => f1 i, sm_congr fun i _ => f2 i, ih]
    have := rot_dif n x y u v
    simp only [dif, trn, List.getD_cons_zero, List.getD_cons_succ]
    omega
theorem trn_pro : ∀ (k n : Nat) (a b : List Int), a.length = b.length → sm (pro (trn k n a) (trn k n b)) a.length = sm (pro a b) a.length
  | 0, n, a, b, _ => by rw [trn_zero, trn_zero]
  | k + 1, n, [], b, h => by
    obtain rfl : b = [] := List.eq_nil_of_length_eq_zero h.symm
    rfl
  | k + 1, n, [x], b, h => by rw [trn_short (k + 1) n (v := b) (by rw [← h]; simp)]; rfl
  | k + 1, n, x :: y :: r, [], h => by simp at h
  | k + 1, n, x :: y :: r, [_], h => by simp at h
  | k + 1, n, x :: y :: r, u :: v :: s, h => by
    have hl : r.length = s.length := by simpa using h
    have ih := trn_pro k (n / 4) r s hl
    have e : (x :: y :: r).length = r.length + 2 := by simp
    rw [e, sm_two, sm_two]
    have f1 : ∀ i, pro (x :: y :: r) (u :: v :: s) (i + 2) = pro r s i := fun i => by simp [pro]
    have f2 : ∀ i, pro (trn (k + 1) n (x :: y :: r)) (trn (k + 1) n (u :: v :: s)) (i + 2) = pro (trn k (n / 4) r) (trn k (n / 4) s) i := fun i => by simp [pro, trn]
    rw [sm_congr fun i _ => f1 i, sm_congr fun i _ => f2 i, ih]
    have := rot_pro n x y u v
    simp only [pro, trn, List.getD_cons_zero, List.getD_cons_succ]
    omega

theorem trn_none : ∀ (k : Nat) (v : List Int), trn k 0 v = v
  | 0, v => trn_zero 0 v
  | k + 1, [] => rfl
  | k + 1, [_] => rfl
  | k + 1, x :: y :: r => by rw [trn, Nat.zero_div, trn_none k, Nat.zero_mod, rot]
/-- Two quarters everywhere. -/
def twos : Nat → Nat
  | 0 => 0
  | k + 1 => 2 + 4 * twos k
theorem trn_twos : ∀ (k : Nat) (v : List Int) (i : Nat) (x : Int), v[i]? = some x → (trn k (twos k) v)[i]? = some (if i < 2 * k ∧ i / 2 * 2 + 1 < v.length then -x else x)
  | 0, v, i, x, h => by rw [trn_zero, if_neg (by omega)]; exact h
  | k + 1, [], i, x, h => by simp at h
  | k + 1, [y], i, x, h => by
    have hi : i < 1 := by simpa using (List.getElem?_eq_some_iff.1 h).1
    rw [if_neg (by simp)]
    exact h
  | k + 1, a :: b :: r, i, x, h => by
    have e1 : twos (k + 1) % 4 = 2 := by rw [twos]; omega
    have e2 : twos (k + 1) / 4 = twos k := by rw [twos]; omega
    rw [trn, e1, e2]
    match i, h with
    | 0, h =>
      obtain rfl : a = x := by simpa using h
      simp [rot]
    | 1, h =>
      obtain rfl : b = x := by simpa using h
      simp [rot]
      omega
    | i + 2, h =>
      have h' : r[i]? = some x := by simpa using h
      have := trn_twos k r i x h'
      rw [List.getElem?_cons_succ, List.getElem?_cons_succ, this]
      have e3 : (i + 2 < 2 * (k + 1) ∧ (i + 2) / 2 * 2 + 1 < (a :: b :: r).length) ↔ (i < 2 * k ∧ i / 2 * 2 + 1 < r.length) := by
        rw [List.length_cons, List.length_cons]
        omega
      simp only [e3]

/-- So many pairs suffice. -/
theorem trn_fuel : ∀ (k m n : Nat) (v : List Int), v.length ≤ 2 * k + 1 → k ≤ m → trn m n v = trn k n v
  | 0, m, n, v, h, _ => by rw [trn_zero, trn_short m n (by omega)]
  | k + 1, 0, n, v, _, hm => by omega
  | k + 1, m + 1, n, [], _, _ => rfl
  | k + 1, m + 1, n, [_], _, _ => rfl
  | k + 1, m + 1, n, x :: y :: r, h, hm => by rw [trn, trn, trn_fuel k m (n / 4) r (by simp at h; omega) (by omega)]
theorem trn_split : ∀ (p k n : Nat) (v : List Int), 2 * p ≤ v.length → trn (p + k) n v = trn p n (v.take (2 * p)) ++ trn k (n / 4 ^ p) (v.drop (2 * p))
  | 0, k, n, v, _ => by
    rw [Nat.zero_add, trn_zero, Nat.pow_zero, Nat.div_one]
    simp
  | p + 1, k, n, [], h => by simp at h
  | p + 1, k, n, [_], h => by simp at h; omega
  | p + 1, k, n, x :: y :: r, h => by
    have e : p + 1 + k = (p + k) + 1 := by omega
    have e2 : 2 * (p + 1) = 2 * p + 2 := by omega
    rw [e, e2, trn, List.take_succ_cons, List.take_succ_cons, trn, List.drop_succ_cons, List.drop_succ_cons, trn_split p k (n / 4) r (by simp at h; omega), Nat.pow_succ, Nat.mul_comm (4 ^ p), Nat.div_div_eq_div_mul]
    rfl
theorem trn_parts {v : List Int} {n p : Nat} (h1 : v.length ≤ 62) (h2 : 2 * p < v.length) : trn 31 n v = trn 31 n (v.take (2 * p)) ++ trn 31 (n / 4 ^ p) (v.drop (2 * p)) := by
  have h3 := trn_split p (31 - p) n v (by omega)
  rw [show p + (31 - p) = 31 by omega] at h3
  rw [h3, trn_fuel p 31 n (v.take (2 * p)) (by rw [List.length_take]; omega) (by omega), trn_fuel (31 - p) 31 (n / 4 ^ p) (v.drop (2 * p)) (by rw [List.length_drop]; omega) (by omega)]

/-- What is behind the pairs that are turned stays. -/
theorem trn_rest : ∀ (k n : Nat) (v : List Int) (i : Nat), 2 * k ≤ i → (trn k n v)[i]? = v[i]?
  | 0, n, v, i, _ => by rw [trn_zero]
  | k + 1, n, [], i, _ => rfl
  | k + 1, n, [_], i, _ => rfl
  | k + 1, n, x :: y :: r, i, h => by
    obtain ⟨j, rfl⟩ : ∃ j, i = j + 2 := ⟨i - 2, by omega⟩
    rw [trn]
    simp only [List.getElem?_cons_succ]
    exact trn_rest k (n / 4) r j (by omega)
/-- One pair more. -/
theorem trn_step : ∀ (k n : Nat) (v : List Int) (x y : Int), v[2 * k]? = some x → v[2 * k + 1]? = some y →
    trn (k + 1) n v = ((trn k n v).set (2 * k) (rot (n / 4 ^ k % 4) (x, y)).1).set (2 * k + 1) (rot (n / 4 ^ k % 4) (x, y)).2
  | 0, n, [], x, y, h, _ => by simp at h
  | 0, n, [_], x, y, _, h => by simp at h
  | 0, n, a :: b :: r, x, y, h1, h2 => by
    obtain rfl : a = x := by simpa using h1
    obtain rfl : b = y := by simpa using h2
    rw [trn, trn_zero, trn_zero, Nat.pow_zero, Nat.div_one]
    rfl
  | k + 1, n, [], x, y, h, _ => by simp at h
  | k + 1, n, [_], x, y, h, _ => by simp at h
  | k + 1, n, a :: b :: r, x, y, h1, h2 => by
    have e1 : 2 * (k + 1) = 2 * k + 2 := by omega
    rw [e1] at h1 h2 ⊢
    have g1 : r[2 * k]? = some x := by simpa using h1
    have g2 : r[2 * k + 1]? = some y := by simpa using h2
    have e2 : n / 4 ^ (k + 1) = n / 4 / 4 ^ k := by rw [Nat.pow_succ, Nat.mul_comm (4 ^ k), Nat.div_div_eq_div_mul]
    rw [trn, trn_step k (n / 4) r x y g1 g2, trn, e2]
    rfl

theorem okW_yes {w : Int} (h : okW w = true) : ∃ n : Nat, w = (n : Int) ∧ n < 4 ^ 31 := by
  have := of_decide_eq_true h
  refine ⟨w.toNat, by omega, ?_⟩
  rw [show (4 : Nat) ^ 31 = 4611686018427387904 by decide]
  omega
theorem okW_mk {n : Nat} (h : n < 4 ^ 31) : okW (n : Int) = true := by
  rw [show (4 : Nat) ^ 31 = 4611686018427387904 by decide] at h
  exact decide_eq_true (by omega)
theorem turn_ok {v : List Int} {n : Nat} (h1 : okV v = true) (h2 : n < 4 ^ 31) : turn v (n : Int) = (trn 31 n v, 0) := by rw [turn, h1, okW_mk h2, Int.toNat_natCast]; rfl
theorem turn_no {v : List Int} {w : Int} (h : okV v = false ∨ okW w = false) : turn v w = ([], 1) := by
  rw [turn]
  rcases h with h | h <;> rw [h]
  · rfl
  · rw [Bool.and_false]; rfl
theorem turn_cases (v : List Int) (w : Int) : turn v w = ([], 1) ∨ ∃ n : Nat, w = (n : Int) ∧ n < 4 ^ 31 ∧ okV v = true ∧ turn v w = (trn 31 n v, 0) := by
  cases h1 : okV v
  · exact .inl (turn_no (.inl h1))
  · cases h2 : okW w
    · exact .inl (turn_no (.inr h2))
    · obtain ⟨n, rfl, hn⟩ := okW_yes h2
      exact .inr ⟨n, rfl, hn, rfl, turn_ok h1 hn⟩
theorem both_ok {a b : Nat} (h1 : a < 4 ^ 31) (h2 : b < 4 ^ 31) : both (a : Int) (b : Int) = (((bot 31 a b : Nat) : Int), 0) := by rw [both, okW_mk h1, okW_mk h2, Int.toNat_natCast, Int.toNat_natCast]; rfl
theorem both_no {a b : Int} (h : okW a = false ∨ okW b = false) : both a b = (0, 1) := by
  rw [both]
  rcases h with h | h <;> rw [h]
  · rfl
  · rw [Bool.and_false]; rfl
theorem nott_ok {a : Nat} (h : a < 4 ^ 31) : nott (a : Int) = (((nt 31 a : Nat) : Int), 0) := by rw [nott, okW_mk h, Int.toNat_natCast]; rfl
theorem nott_no {a : Int} (h : okW a = false) : nott a = (0, 1) := by rw [nott, h]; rfl
theorem back_ok {v : List Int} {n : Nat} (h : n < 4 ^ 31) : back v (n : Int) = turn v ((nt 31 n : Nat) : Int) := by rw [back, okW_mk h, Int.toNat_natCast]; rfl
theorem back_no {v : List Int} {w : Int} (h : okW w = false) : back v w = ([], 1) := by rw [back, h]; rfl

theorem okV_trn {v : List Int} (h : okV v = true) (s : Small v) (k n : Nat) : okV (trn k n v) = true ∧ Small (trn k n v) := by
  obtain ⟨h1, h2, h3⟩ := okV_yes h
  have hi : In v := fun x hx => ⟨h3 x hx, (s x hx).2⟩
  have ht := trn_in k n hi
  exact ⟨ht.okV (by rw [trn_length]; exact h1) (by rw [trn_length]; exact h2), ht.small⟩

end Go.Proofs.Ytjohknpjkcbjlaa.Tw
