/- An or of a number below a power of two, and of a number of its multiples. -/
import Derived.Test.YtikobhckkbicaaaYM
import Derived.Test.Ytikobhckkbicaaa2P
import Derived.IntWalk
namespace Go.Proofs.Ytikobhckkbicaaa
open Go.RowKit Sk

theorem ofInt_wrap64 (z : Int) : BitVec.ofInt 64 (wrap64 z) = BitVec.ofInt 64 z := by
  apply BitVec.eq_of_toInt_eq
  rw [BitVec.toInt_ofInt, BitVec.toInt_ofInt]
  unfold wrap64
  simp only [Int.bmod_def]
  omega

theorem or_pow (s x c : Nat) (hx : x < 2 ^ s) (h : c * 2 ^ s < 18446744073709551616) (hx' : x < 18446744073709551616) : bits .or .i64 (x : Int) (wrap64 ((c * 2 ^ s : Nat) : Int)) = wrap64 ((x + c * 2 ^ s : Nat) : Int) := by
  have e : (BitVec.ofInt 64 (x : Int) ||| BitVec.ofInt 64 ((c * 2 ^ s : Nat) : Int)).toNat = x + c * 2 ^ s := by
    rw [BitVec.toNat_or, BitVec.ofInt_natCast, BitVec.ofInt_natCast, BitVec.toNat_ofNat, BitVec.toNat_ofNat, Nat.mod_eq_of_lt hx', Nat.mod_eq_of_lt h, Nat.or_comm, Nat.mul_comm c, ← Nat.two_pow_add_eq_or_of_lt hx, Nat.add_comm]
  have e0 : bits .or .i64 (x : Int) (wrap64 ((c * 2 ^ s : Nat) : Int)) = IntKind.i64.wrap ((BitVec.ofInt 64 (x : Int) ||| BitVec.ofInt 64 (wrap64 ((c * 2 ^ s : Nat) : Int))).toNat : Int) := rfl
  rw [e0, ofInt_wrap64, e, IntKind.wrap_i64]
  generalize x + c * 2 ^ s = m at *
  unfold wrap64
  omega

/-- The first k of eight octets as a number. -/
def upto (k : Nat) (l : List UInt8) : Int := (le (l.take k) : Int)

theorem val_wrap (l : List UInt8) (h : l.length = 8) : wrap64 ((le l : Nat) : Int) = val l := by
  have hlt := le_lt l
  rw [h, p256] at hlt
  unfold wrap64 val
  split <;> omega

theorem upto_lt (k : Nat) (l : List UInt8) : le (l.take k) < 2 ^ (8 * k) := by
  have h := le_lt (l.take k)
  have e : (256 : Nat) ^ k = 2 ^ (8 * k) := by rw [Nat.pow_mul]
  rw [← e]
  exact Nat.lt_of_lt_of_le h (Nat.pow_le_pow_right (by omega) (by simp; omega))

theorem step_or (l : List UInt8) (k m : Nat) (b : UInt8) (hk : k < 8) (hm : m = 2 ^ (8 * k)) (hm' : m ≤ 72057594037927936) (h : l[k]? = some b) (n y : Int) (hn : n = wrap64 (upto k l)) (hy : y = wrap64 ((b.toNat : Int) * m)) :
    bits .or .i64 n y = wrap64 (upto (k + 1) l) := by
  have hlt := upto_lt k l
  have hb := b.toNat_lt
  rw [← hm] at hlt
  have e1 : wrap64 (upto k l) = ((le (l.take k) : Nat) : Int) := IntWalk.wrap64_in _ (by unfold upto; omega)
  have e2 : ((b.toNat : Int) * m) = ((b.toNat * 2 ^ (8 * k) : Nat) : Int) := by rw [← hm]; simp
  have hbm : b.toNat * m < 18446744073709551616 := by
    have : b.toNat * m ≤ 255 * m := Nat.mul_le_mul_right m (by omega)
    omega
  have hl : k < l.length := (List.getElem?_eq_some_iff.1 h).1
  have e3 : l.take (k + 1) = l.take k ++ [b] := by rw [List.take_add_one, h]; rfl
  rw [hn, hy, e1, e2, or_pow (8 * k) _ _ (by rw [← hm]; exact hlt) (by rw [← hm]; exact hbm) (by omega)]
  unfold upto
  rw [e3, le_snoc, List.length_take, Nat.min_eq_left (by omega), show (256 : Nat) ^ k = 2 ^ (8 * k) from by rw [Nat.pow_mul], Nat.mul_comm b.toNat]

end Go.Proofs.Ytikobhckkbicaaa
