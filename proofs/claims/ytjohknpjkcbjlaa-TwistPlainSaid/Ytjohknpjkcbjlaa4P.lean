/- Plain words on numbers as octets: what each call of layer 3 answers, over lists, without any memory. -/
namespace Go.Proofs.Ytjohknpjkcbjlaa.Pk

/-- A number's k lowest octets, the lowest one first. -/
def oct : Nat → Int → List UInt8
  | 0, _ => []
  | k + 1, n => UInt8.ofNat (n % 256).toNat :: oct k (n / 256)

/-- The number of which these are the octets, the lowest one first, without a sign. -/
def ule : List UInt8 → Nat
  | [] => 0
  | b :: r => b.toNat + 256 * ule r

/-- The same with its sign. -/
def num (l : List UInt8) : Int := if 2 * ule l < 256 ^ l.length then (ule l : Int) else (ule l : Int) - 256 ^ l.length

def fitsB (k : Nat) (n : Int) : Bool := decide (-(256 ^ k : Int) ≤ 2 * n ∧ 2 * n < 256 ^ k)

def octs (k : Nat) : List Int → List UInt8
  | [] => []
  | n :: r => oct k n ++ octs k r

def isW (width : Int) : Bool := decide (1 ≤ width ∧ width ≤ 8)

def put (b : List UInt8) (width : Int) (l : List Int) : List UInt8 × Int :=
  if isW width = false then ([], 1) else if l.all (fitsB width.toNat) = false then ([], 4) else if 65536 < b.length + width.toNat * l.length then ([], 3) else (b ++ octs width.toNat l, 0)

def nums (k : Nat) : Nat → List UInt8 → List Int
  | 0, _ => []
  | n + 1, b => num (b.take k) :: nums k n (b.drop k)

def takeOk (width n : Int) : Bool := decide ((1 ≤ width ∧ width ≤ 8) ∧ 0 ≤ n ∧ n ≤ 65536)

def take (b : List UInt8) (width n : Int) : List Int × List UInt8 × Int :=
  if takeOk width n = false then ([], [], 1) else if b.length < n.toNat * width.toNat then ([], [], 2) else (nums width.toNat n.toNat b, b.drop (n.toNat * width.toNat), 0)

theorem oct_length : ∀ k n, (oct k n).length = k
  | 0, _ => rfl
  | k + 1, n => by simp [oct, oct_length k]

theorem octs_length (k : Nat) : ∀ l, (octs k l).length = k * l.length
  | [] => by simp [octs]
  | n :: r => by rw [octs, List.length_append, oct_length, octs_length k r, List.length_cons, Nat.mul_succ]; omega

theorem octs_append (k : Nat) : ∀ a b, octs k (a ++ b) = octs k a ++ octs k b
  | [], b => rfl
  | n :: r, b => by rw [List.cons_append, octs, octs, octs_append k r b, List.append_assoc]

theorem nums_length (k : Nat) : ∀ n b, (nums k n b).length = n
  | 0, _ => rfl
  | n + 1, b => by rw [nums, List.length_cons, nums_length k n]

theorem oct_at : ∀ (k : Nat) (n : Int) (j : Nat), j < k → (oct k n)[j]? = some (UInt8.ofNat (n / 256 ^ j % 256).toNat)
  | 0, _, _, h => absurd h (by omega)
  | k + 1, n, 0, _ => by simp [oct]
  | k + 1, n, j + 1, h => by
    rw [oct, List.getElem?_cons_succ, oct_at k (n / 256) j (by omega), Int.ediv_ediv_of_nonneg (by omega), Int.pow_succ, Int.mul_comm]

theorem oct_succ : ∀ (k : Nat) (n : Int), oct (k + 1) n = oct k n ++ [UInt8.ofNat (n / 256 ^ k % 256).toNat]
  | 0, n => by simp [oct]
  | k + 1, n => by
    rw [oct, oct_succ k (n / 256), oct, List.cons_append, Int.ediv_ediv_of_nonneg (by omega), Int.pow_succ, Int.mul_comm 256]

theorem ule_lt : ∀ (l : List UInt8), ule l < 256 ^ l.length
  | [] => by simp [ule]
  | b :: r => by
    have h := ule_lt r
    have hb := b.toNat_lt
    simp only [ule, List.length_cons, Nat.pow_succ]
    omega

theorem ule_snoc : ∀ (l : List UInt8) (b : UInt8), ule (l ++ [b]) = ule l + 256 ^ l.length * b.toNat
  | [], b => by simp [ule]
  | c :: r, b => by
    rw [List.cons_append, ule, ule_snoc r b, ule, List.length_cons, Nat.pow_succ, Nat.mul_add, Nat.add_assoc, Nat.mul_comm (256 ^ r.length) 256, Nat.mul_assoc]

theorem ule_oct : ∀ (k : Nat) (n : Int), (ule (oct k n) : Int) = n % 256 ^ k
  | 0, n => by simp [ule, oct, Int.emod_one]
  | k + 1, n => by
    have h := ule_oct k (n / 256)
    have hp : (0 : Int) < 256 ^ k := Int.pow_pos (by omega)
    have e : (UInt8.ofNat (n % 256).toNat).toNat = (n % 256).toNat := by
      rw [UInt8.toNat_ofNat']
      omega
    rw [oct, ule, e, Int.natCast_add, Int.natCast_mul, h, Int.pow_succ, Int.mul_comm _ 256]
    have e2 : n % (256 * 256 ^ k) = n % 256 + 256 * (n / 256 % 256 ^ k) := by
      rw [Int.emod_def n (256 * 256 ^ k), Int.emod_def (n / 256), Int.ediv_ediv_of_nonneg (by omega), Int.emod_def n 256, Int.mul_sub, Int.mul_assoc]
      omega
    rw [e2]
    omega

theorem oct_ule : ∀ (l : List UInt8), oct l.length (ule l : Int) = l
  | [] => rfl
  | b :: r => by
    have hb := b.toNat_lt
    rw [List.length_cons, oct, ule]
    have e1 : ((b.toNat + 256 * ule r : Nat) : Int) % 256 = b.toNat := by omega
    have e2 : ((b.toNat + 256 * ule r : Nat) : Int) / 256 = (ule r : Int) := by omega
    rw [e1, e2, oct_ule r]
    congr 1
    exact UInt8.toNat_inj.1 (by rw [UInt8.toNat_ofNat']; omega)

/-- Octets hang on the number alone, as far as they go. -/
theorem oct_sub : ∀ (k : Nat) (n : Int), oct k (n - 256 ^ k) = oct k n
  | 0, n => rfl
  | k + 1, n => by
    have e : (256 : Int) ^ (k + 1) = 256 * 256 ^ k := by rw [Int.pow_succ, Int.mul_comm]
    have e1 : (n - 256 * (256 : Int) ^ k) % 256 = n % 256 := by omega
    have e2 : (n - 256 * (256 : Int) ^ k) / 256 = n / 256 - 256 ^ k := by omega
    rw [oct, e, e1, e2, oct_sub k, oct]

theorem cast_pow (k : Nat) : ((256 ^ k : Nat) : Int) = (256 : Int) ^ k := by simp

theorem num_bounds (l : List UInt8) : -(256 ^ l.length : Int) ≤ 2 * num l ∧ 2 * num l < 256 ^ l.length := by
  have h := ule_lt l
  have e := cast_pow l.length
  have h0 : (0 : Int) < 256 ^ l.length := Int.pow_pos (by omega)
  unfold num
  split <;> omega

theorem fits_num (l : List UInt8) : fitsB l.length (num l) = true := decide_eq_true (num_bounds l)

theorem oct_num (l : List UInt8) : oct l.length (num l) = l := by
  unfold num
  split
  · exact oct_ule l
  · rw [oct_sub, oct_ule]

theorem num_oct {k : Nat} {n : Int} (h : fitsB k n = true) : num (oct k n) = n := by
  obtain ⟨h1, h2⟩ := of_decide_eq_true h
  have hu := ule_oct k n
  have hl := oct_length k n
  have e := cast_pow k
  have hp : (0 : Int) < 256 ^ k := Int.pow_pos (by omega)
  unfold num
  rw [hl]
  by_cases h0 : 0 ≤ n
  · have e1 : n % 256 ^ k = n := Int.emod_eq_of_lt h0 (by omega)
    rw [if_pos (by omega)]
    omega
  · have e1 : n % 256 ^ k = n + 256 ^ k := by
      rw [← Int.add_emod_right]
      exact Int.emod_eq_of_lt (by omega) (by omega)
    rw [if_neg (by omega)]
    omega

theorem nums_octs {k : Nat} : ∀ {l : List Int}, l.all (fitsB k) = true → ∀ r, nums k l.length (octs k l ++ r) = l
  | [], _, _ => rfl
  | n :: l, h, r => by
    rw [List.all_cons, Bool.and_eq_true] at h
    rw [List.length_cons, nums, octs, List.append_assoc, List.take_left' (oct_length k n), List.drop_left' (oct_length k n), num_oct h.1, nums_octs h.2]

theorem fits_nums {k : Nat} : ∀ {n : Nat} {b : List UInt8}, n * k ≤ b.length → (nums k n b).all (fitsB k) = true
  | 0, _, _ => rfl
  | n + 1, b, h => by
    rw [Nat.succ_mul] at h
    have hl : (b.take k).length = k := by rw [List.length_take]; omega
    rw [nums, List.all_cons, fits_nums (by rw [List.length_drop]; omega), Bool.and_true]
    have := fits_num (b.take k)
    rwa [hl] at this

theorem octs_nums {k : Nat} : ∀ {n : Nat} {b : List UInt8}, n * k ≤ b.length → octs k (nums k n b) = b.take (n * k)
  | 0, b, _ => by simp [nums, octs]
  | n + 1, b, h => by
    rw [Nat.succ_mul] at h
    have hl : (b.take k).length = k := by rw [List.length_take]; omega
    have := oct_num (b.take k)
    rw [hl] at this
    rw [nums, octs, this, octs_nums (by rw [List.length_drop]; omega), Nat.succ_mul, Nat.add_comm, List.take_add]

theorem nums_append (k : Nat) : ∀ (n m : Nat) (b : List UInt8), nums k (n + m) b = nums k n b ++ nums k m (b.drop (n * k))
  | 0, m, b => by simp [nums]
  | n + 1, m, b => by
    rw [Nat.succ_add, nums, nums_append k n m, nums, List.cons_append, List.drop_drop, Nat.succ_mul, Nat.add_comm k]

theorem isW_yes {width : Int} (h : isW width = true) : ∃ k : Nat, width = (k : Int) ∧ 1 ≤ k ∧ k ≤ 8 := by
  have := of_decide_eq_true h
  exact ⟨width.toNat, by omega, by omega, by omega⟩

theorem put_cases (b : List UInt8) (width : Int) (l : List Int) :
    (isW width = false ∧ put b width l = ([], 1)) ∨ (∃ k : Nat, width = (k : Int) ∧ 1 ≤ k ∧ k ≤ 8 ∧ l.all (fitsB k) = false ∧ put b width l = ([], 4)) ∨
    (∃ k : Nat, width = (k : Int) ∧ 1 ≤ k ∧ k ≤ 8 ∧ l.all (fitsB k) = true ∧ 65536 < b.length + k * l.length ∧ put b width l = ([], 3)) ∨
    (∃ k : Nat, width = (k : Int) ∧ 1 ≤ k ∧ k ≤ 8 ∧ l.all (fitsB k) = true ∧ b.length + k * l.length ≤ 65536 ∧ put b width l = (b ++ octs k l, 0)) := by
  cases h : isW width
  · exact .inl ⟨rfl, by simp [put, h]⟩
  · obtain ⟨k, rfl, k1, k8⟩ := isW_yes h
    cases ha : l.all (fitsB k)
    · exact .inr (.inl ⟨k, rfl, k1, k8, ha, by simp [put, h, ha]⟩)
    · by_cases hl : 65536 < b.length + k * l.length
      · exact .inr (.inr (.inl ⟨k, rfl, k1, k8, ha, hl, by simp [put, h, ha, hl]⟩))
      · exact .inr (.inr (.inr ⟨k, rfl, k1, k8, ha, by omega, by simp [put, h, ha, hl]⟩))

theorem take_cases (b : List UInt8) (width n : Int) :
    (takeOk width n = false ∧ take b width n = ([], [], 1)) ∨
    (∃ k m : Nat, width = (k : Int) ∧ n = (m : Int) ∧ 1 ≤ k ∧ k ≤ 8 ∧ m ≤ 65536 ∧ b.length < m * k ∧ take b width n = ([], [], 2)) ∨
    (∃ k m : Nat, width = (k : Int) ∧ n = (m : Int) ∧ 1 ≤ k ∧ k ≤ 8 ∧ m ≤ 65536 ∧ m * k ≤ b.length ∧ take b width n = (nums k m b, b.drop (m * k), 0)) := by
  cases h : takeOk width n
  · exact .inl ⟨rfl, by simp [take, h]⟩
  · obtain ⟨⟨h1, h2⟩, h3, h4⟩ := of_decide_eq_true h
    obtain ⟨k, rfl⟩ : ∃ k : Nat, width = (k : Int) := ⟨width.toNat, by omega⟩
    obtain ⟨m, rfl⟩ : ∃ m : Nat, n = (m : Int) := ⟨n.toNat, by omega⟩
    by_cases hl : b.length < m * k
    · exact .inr (.inl ⟨k, m, rfl, rfl, by omega, by omega, by omega, hl, by simp [take, h, hl]⟩)
    · exact .inr (.inr ⟨k, m, rfl, rfl, by omega, by omega, by omega, by omega, by simp [take, h, hl]⟩)

end Go.Proofs.Ytjohknpjkcbjlaa.Pk
