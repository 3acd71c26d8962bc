/- Contracts of small functions of layer 3. -/
import Derived.Test.YtjohknpjkcbjlaaYN
import Derived.Test.Ytjohknpjkcbjlaa4P
import Derived.IntWalk
import Derived.Outline
import Derived.Laws.Bits64b
namespace Go.Proofs.Ytjohknpjkcbjlaa
open Go.RowKit Pk

/-- What is above a number's highest bit. -/
theorem fits_above {k : Nat} (h1 : 1 ≤ k) (h8 : k ≤ 8) (n : Int) : fitsB k n = (decide (n / 2 ^ (8 * k - 1) = 0) || decide (n / 2 ^ (8 * k - 1) = -1)) := by
  rw [Bool.eq_iff_iff, fitsB, decide_eq_true_eq, Bool.or_eq_true, decide_eq_true_eq, decide_eq_true_eq]
  have hk : k = 1 ∨ k = 2 ∨ k = 3 ∨ k = 4 ∨ k = 5 ∨ k = 6 ∨ k = 7 ∨ k = 8 := by omega
  rcases hk with rfl | rfl | rfl | rfl | rfl | rfl | rfl | rfl <;> omega

/-- A number's octet. -/
theorem oct_bit (n : Int) (i : Nat) : n / 2 ^ (8 * i) % 256 = (((UInt8.ofNat (n / 256 ^ i % 256).toNat).toNat : Nat) : Int) := by
  have e : (2 : Int) ^ (8 * i) = 256 ^ i := by rw [Int.pow_mul]; rfl
  rw [e, UInt8.toNat_ofNat']
  omega

/-- The answer of a call that goes on with octets of the call's own. -/
def GoesOn (base : Nat) (l : List UInt8) (w : World) (e : Ending) (w' : World) : Prop :=
  ∃ v, e = .returned v ∧ w'.ownsRow base 5 1 v l.length (octets l) ∧ Below base w w' ∧ w.heap.size ≤ w'.heap.size

theorem octets_snoc (l : List UInt8) (x : UInt8) : octets (l ++ [x]) = octets l ++ [.int .u8 (x.toNat : Int)] := by simp [octets]
theorem octets_append (l m : List UInt8) : octets (l ++ m) = octets l ++ octets m := by simp [octets]

/-- An octet more of a number. -/
theorem or_oct (l : List UInt8) (k : Nat) (b : UInt8) (hk : k < 8) (h : l[k]? = some b) (y : Int) (hy : y = IntKind.u64.wrap ((b.toNat : Int) * 2 ^ (8 * k))) :
    bits .or .u64 ((ule (l.take k) : Nat) : Int) y = ((ule (l.take (k + 1)) : Nat) : Int) := by
  have hb := b.toNat_lt
  have hl : k < l.length := (List.getElem?_eq_some_iff.1 h).1
  have e3 : l.take (k + 1) = l.take k ++ [b] := by rw [List.take_add_one, h]; rfl
  have hlt := ule_lt (l.take k)
  rw [List.length_take, Nat.min_eq_left (by omega)] at hlt
  have ep : (256 : Nat) ^ k = 2 ^ (8 * k) := by rw [Nat.pow_mul]
  have hp : (256 : Nat) ^ k ≤ 72057594037927936 := by
    have : (256 : Nat) ^ k ≤ 256 ^ 7 := Nat.pow_le_pow_right (by omega) (by omega)
    simpa using this
  have hm : b.toNat * 256 ^ k < 18446744073709551616 := by
    have : b.toNat * 256 ^ k ≤ 255 * 256 ^ k := Nat.mul_le_mul_right _ (by omega)
    omega
  have ey : y = ((b.toNat * 256 ^ k : Nat) : Int) := by
    have e : (b.toNat : Int) * 2 ^ (8 * k) = ((b.toNat * 256 ^ k : Nat) : Int) := by rw [ep]; simp
    rw [hy, e, IntWalk.u64_in _ (by omega)]
  rw [ey, bits_or_u64_nat _ _ (by omega) hm, e3, ule_snoc, List.length_take, Nat.min_eq_left (by omega)]
  congr 1
  rw [ep] at hlt ⊢
  rw [Nat.or_comm, Nat.mul_comm b.toNat, ← Nat.two_pow_add_eq_or_of_lt hlt, Nat.add_comm]

/-- Up, and down again. -/
theorem up_down (l : List UInt8) (h1 : 1 ≤ l.length) (h8 : l.length ≤ 8) (f : Nat) (hf : f = 8 * (8 - l.length)) :
    wrap64 (IntKind.u64.wrap ((ule l : Int) * 2 ^ f)) / 2 ^ f = num l := by
  have hlt := ule_lt l
  rw [IntKind.wrap_u64]
  unfold num wrap64
  have hk : l.length = 1 ∨ l.length = 2 ∨ l.length = 3 ∨ l.length = 4 ∨ l.length = 5 ∨ l.length = 6 ∨ l.length = 7 ∨ l.length = 8 := by omega
  rcases hk with h | h | h | h | h | h | h | h <;> (rw [h] at hlt hf ⊢; subst hf; simp only [Nat.reducePow, Nat.reduceSub, Nat.reduceMul] at hlt ⊢; split <;> omega)

end Go.Proofs.Ytjohknpjkcbjlaa
