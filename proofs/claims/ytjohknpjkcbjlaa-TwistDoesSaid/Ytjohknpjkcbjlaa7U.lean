/- Quarters as powers of the imaginary unit: what the program's own complex numbers stand for. -/
import Derived.Test.Ytjohknpjkcbjlaa7F
import Derived.Test.Ytjohknpjkcbjlaa7P
import Derived.WalkLawsBesides
namespace Go.Proofs.Ytjohknpjkcbjlaa
open Go.RowKit Tw Fl

theorem rot_unit (n : Nat) : (rot n (1, 0)).1.natAbs ≤ 1 ∧ (rot n (1, 0)).2.natAbs ≤ 1 := by
  have := rot_cases n 1 0
  rw [rot_mod] at this
  rw [this]
  split
  · decide
  · split
    · decide
    · split <;> decide
/-- A pair that is turned, as a product of complex numbers. -/
theorem rot_mul (n : Nat) (x y : Int) : rot n (x, y) = (x * (rot n (1, 0)).1 - y * (rot n (1, 0)).2, x * (rot n (1, 0)).2 + y * (rot n (1, 0)).1) := by
  have h1 := rot_cases n 1 0
  have h2 := rot_cases n x y
  rw [rot_mod] at h1 h2
  rw [h1, h2]
  split
  · simp
  · split
    · simp
    · split <;> simp

/-- One quarter more, by floats. -/
theorem rot_next {j re im : Nat} (h : IsZ re (rot j (1, 0)).1 ∧ IsZ im (rot j (1, 0)).2) : ∃ r2 i2, cMulBits re im 0 4607182418800017408 = some (r2, i2) ∧ IsZ r2 (rot (j + 1) (1, 0)).1 ∧ IsZ i2 (rot (j + 1) (1, 0)).2 := by
  have hu := rot_unit j
  obtain ⟨r2, i2, hm, hr, hi⟩ := isZ_cmul h.1 h.2 isZ_zero isZ_one (by omega) (by omega) (by omega) (by omega)
  refine ⟨r2, i2, hm, ?_⟩
  rw [rot]
  exact ⟨by simpa using hr, by simpa using hi⟩
/-- A pair of numbers of sixteen bits by a power of the unit. -/
theorem rot_by {a b re im n : Nat} {x y : Int} (hx : -32767 ≤ x ∧ x ≤ 32767) (hy : -32767 ≤ y ∧ y ≤ 32767) (ha : IsZ a x) (hb : IsZ b y) (h : IsZ re (rot n (1, 0)).1 ∧ IsZ im (rot n (1, 0)).2) :
    ∃ r2 i2, cMulBits a b re im = some (r2, i2) ∧ IsZ r2 (rot n (x, y)).1 ∧ IsZ i2 (rot n (x, y)).2 := by
  have hu := rot_unit n
  have hp : ∀ u v : Int, u.natAbs ≤ 32767 → v.natAbs ≤ 1 → (u * v).natAbs < 2251799813685248 := fun u v h1 h2 => by
    rw [Int.natAbs_mul]
    have := Nat.mul_le_mul h1 h2
    omega
  obtain ⟨r2, i2, hm, hr, hi⟩ := isZ_cmul ha hb h.1 h.2 (hp _ _ (by omega) hu.1) (hp _ _ (by omega) hu.2) (hp _ _ (by omega) hu.2) (hp _ _ (by omega) hu.1)
  exact ⟨r2, i2, hm, by rw [rot_mul]; exact hr, by rw [rot_mul]; exact hi⟩

end Go.Proofs.Ytjohknpjkcbjlaa
