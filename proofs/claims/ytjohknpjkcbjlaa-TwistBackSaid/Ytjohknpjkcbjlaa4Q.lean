/- What follows over lists, for the laws of layer 3. -/
import Derived.Test.Ytjohknpjkcbjlaa4P
namespace Go.Proofs.Ytjohknpjkcbjlaa.Pk

theorem oct_take : ∀ (k m : Nat) (n : Int), k ≤ m → (oct m n).take k = oct k n
  | 0, _, _, _ => by simp [oct]
  | k + 1, 0, _, h => absurd h (by omega)
  | k + 1, m + 1, n, h => by rw [oct, List.take_succ_cons, oct_take k m _ (by omega), oct]

theorem pow_mono {k j : Nat} (h : k ≤ j) : (256 : Int) ^ k ≤ 256 ^ j := by
  have := Nat.pow_le_pow_right (n := 256) (by omega) h
  rw [← cast_pow, ← cast_pow]
  exact Int.ofNat_le.2 this

theorem fits_more {k m : Nat} {n : Int} (h : fitsB k n = true) (hm : k ≤ m) : fitsB m n = true := by
  obtain ⟨h1, h2⟩ := of_decide_eq_true h
  have := pow_mono hm
  exact decide_eq_true (by omega)

/-- An octet behind a number's own is that of its sign. -/
theorem oct_sign {k m j : Nat} {n : Int} (h : fitsB k n = true) (hj : k ≤ j) (hm : j < m) : (oct m n)[j]? = some (if n < 0 then 255 else 0) := by
  obtain ⟨h1, h2⟩ := of_decide_eq_true (fits_more h hj)
  have hp : (0 : Int) < 256 ^ j := Int.pow_pos (by omega)
  rw [oct_at m n j hm]
  congr 1
  split
  · have e : n / 256 ^ j = -1 := by
      rw [Int.ediv_eq_iff_of_pos hp]
      constructor <;> omega
    rw [e]; rfl
  · have e : n / 256 ^ j = 0 := Int.ediv_eq_zero_of_lt (by omega) (by omega)
    rw [e]; rfl

/-- One number. -/
theorem put_one (width n : Int) : (∃ e, e ≠ 0 ∧ put [] width [n] = ([], e)) ∨ (∃ k : Nat, width = (k : Int) ∧ 1 ≤ k ∧ k ≤ 8 ∧ fitsB k n = true ∧ put [] width [n] = (oct k n, 0)) := by
  rcases put_cases [] width [n] with ⟨_, h⟩ | ⟨k, e, _, _, _, h⟩ | ⟨k, e, _, _, _, _, h⟩ | ⟨k, e, k1, k8, hf, _, h⟩
  · exact .inl ⟨1, by decide, h⟩
  · exact .inl ⟨4, by decide, h⟩
  · exact .inl ⟨3, by decide, h⟩
  · refine .inr ⟨k, e, k1, k8, by simpa using hf, ?_⟩
    rw [h, octs, octs, List.append_nil, List.nil_append]

/-- It in more octets. -/
theorem put_more {k m : Nat} {n : Int} (k1 : 1 ≤ k) (hf : fitsB k n = true) (hm : k ≤ m) (m8 : m ≤ 8) : put [] (m : Int) [n] = (oct m n, 0) := by
  have hfm := fits_more hf hm
  rcases put_one (m : Int) n with ⟨e, he, h⟩ | ⟨k', e, _, _, _, h⟩
  · exfalso
    rcases put_cases [] (m : Int) [n] with ⟨h', _⟩ | ⟨k', e', _, _, h', _⟩ | ⟨k', e', _, _, _, h', _⟩ | ⟨k', e', _, _, _, _, h'⟩
    · have := of_decide_eq_false h'; omega
    · obtain rfl : m = k' := by omega
      simp [hfm] at h'
    · simp only [List.length_cons, List.length_nil] at h'
      omega
    · rw [h'] at h
      injection h with _ h
      exact he h.symm
  · obtain rfl : m = k' := by omega
    exact h

/-- A list of numbers in octets. -/
theorem put_list (b : List UInt8) (width : Int) (l : List Int) : (∃ e, e ≠ 0 ∧ put b width l = ([], e)) ∨ (∃ k : Nat, width = (k : Int) ∧ 1 ≤ k ∧ k ≤ 8 ∧ l.all (fitsB k) = true ∧ b.length + k * l.length ≤ 65536 ∧ put b width l = (b ++ octs k l, 0)) := by
  rcases put_cases b width l with ⟨_, h⟩ | ⟨k, e, _, _, _, h⟩ | ⟨k, e, _, _, _, _, h⟩ | ⟨k, e, k1, k8, hf, hl, h⟩
  · exact .inl ⟨1, by decide, h⟩
  · exact .inl ⟨4, by decide, h⟩
  · exact .inl ⟨3, by decide, h⟩
  · exact .inr ⟨k, e, k1, k8, hf, hl, h⟩

theorem put_list_ok {b : List UInt8} {k : Nat} {l : List Int} (k1 : 1 ≤ k) (k8 : k ≤ 8) (ha : l.all (fitsB k) = true) (h : b.length + k * l.length ≤ 65536) : put b (k : Int) l = (b ++ octs k l, 0) := by
  rcases put_cases b (k : Int) l with ⟨h1, _⟩ | ⟨k', e, _, _, h1, _⟩ | ⟨k', e, _, _, _, h1, _⟩ | ⟨k', e, _, _, _, _, h2⟩
  · have := of_decide_eq_false h1
    omega
  · obtain rfl : k = k' := by omega
    rw [ha] at h1
    cases h1
  · obtain rfl : k = k' := by omega
    omega
  · obtain rfl : k = k' := by omega
    exact h2

theorem take_ok {b : List UInt8} {k m : Nat} (k1 : 1 ≤ k) (k8 : k ≤ 8) (hm : m ≤ 65536) (h : m * k ≤ b.length) : take b (k : Int) (m : Int) = (nums k m b, b.drop (m * k), 0) := by
  rw [take, if_neg (by rw [takeOk, decide_eq_true (by omega)]; exact Bool.noConfusion), Int.toNat_natCast, Int.toNat_natCast, if_neg (by omega)]

/-- What is put is taken. -/
theorem take_put {k : Nat} {l : List Int} (k1 : 1 ≤ k) (k8 : k ≤ 8) (ha : l.all (fitsB k) = true) (hl : l.length ≤ 65536) (r : List UInt8) : take (octs k l ++ r) (k : Int) (l.length : Int) = (l, r, 0) := by
  have e : (octs k l).length = l.length * k := by rw [octs_length, Nat.mul_comm]
  rw [take_ok k1 k8 hl (by rw [List.length_append, e]; omega), nums_octs ha, List.drop_left' e]

/-- What is taken is put. -/
theorem put_take {b : List UInt8} {k m : Nat} (k1 : 1 ≤ k) (k8 : k ≤ 8) (h : m * k ≤ b.length) (hb : b.length ≤ 65536) : put [] (k : Int) (nums k m b) = (b.take (m * k), 0) := by
  rw [put_list_ok k1 k8 (fits_nums h) (by rw [nums_length, List.length_nil, Nat.zero_add, Nat.mul_comm]; omega), octs_nums h, List.nil_append]

theorem take_list (b : List UInt8) (width n : Int) : (∃ e, e ≠ 0 ∧ take b width n = ([], [], e)) ∨ (∃ k m : Nat, width = (k : Int) ∧ n = (m : Int) ∧ 1 ≤ k ∧ k ≤ 8 ∧ m ≤ 65536 ∧ m * k ≤ b.length ∧ take b width n = (nums k m b, b.drop (m * k), 0)) := by
  rcases take_cases b width n with ⟨_, h⟩ | ⟨k, m, _, _, _, _, _, _, h⟩ | h
  · exact .inl ⟨1, by decide, h⟩
  · exact .inl ⟨2, by decide, h⟩
  · exact .inr h

theorem all_take {α : Type} {p : α → Bool} {l : List α} (h : l.all p = true) (n : Nat) : (l.take n).all p = true ∧ (l.drop n).all p = true := by
  have e := List.take_append_drop n l
  rw [← e, List.all_append, Bool.and_eq_true] at h
  exact h

theorem octs_split (k n : Nat) (l : List Int) : octs k (l.take n) ++ octs k (l.drop n) = octs k l := by rw [← octs_append, List.take_append_drop]

end Go.Proofs.Ytjohknpjkcbjlaa.Pk
