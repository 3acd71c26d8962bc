/- Floats that stand for whole numbers: exact sums and products. -/
import Derived.Test.YtjohknpjkcbjlaaRows
import Derived.Laws.ComplexArith
import Derived.Laws.FloatArith
namespace Go.Proofs.Ytjohknpjkcbjlaa.Fl
open Ieee

/-- A sign, digits and a place that stand for a whole number. -/
def Is (s : Bool) (m : Nat) (p z : Int) : Prop := p ≤ 0 ∧ m = z.natAbs * 2 ^ (-p).toNat ∧ (z ≠ 0 → s = decide (z < 0))
/-- A float that stands for a whole number. -/
def IsZ (b : Nat) (z : Int) : Prop := ∃ s m p, double.read b = .number s m p ∧ Is s m p z

theorem is_int (z : Int) : Is (decide (z < 0)) z.natAbs 0 z := ⟨Int.le_refl _, by simp, fun _ => rfl⟩
theorem Is.opposite {s : Bool} {m : Nat} {p z : Int} (h : Is s m p z) : Is (!s) m p (-z) := by
  obtain ⟨h1, h2, h3⟩ := h
  refine ⟨h1, by rw [Int.natAbs_neg]; exact h2, fun hz => ?_⟩
  rw [h3 (by omega), Bool.eq_iff_iff, Bool.not_eq_true', decide_eq_false_iff_not, decide_eq_true_eq]
  omega
theorem Is.product {s t : Bool} {m n : Nat} {p q y z : Int} (h : Is s m p y) (k : Is t n q z) : Is (s ^^ t) (m * n) (p + q) (y * z) := by
  obtain ⟨h1, h2, h3⟩ := h
  obtain ⟨k1, k2, k3⟩ := k
  refine ⟨by omega, ?_, fun hyz => ?_⟩
  · have e : (-(p + q)).toNat = (-p).toNat + (-q).toNat := by omega
    rw [h2, k2, e, Int.natAbs_mul, Nat.pow_add]
    generalize 2 ^ (-p).toNat = P
    generalize 2 ^ (-q).toNat = Q
    generalize y.natAbs = Y
    generalize z.natAbs = Z
    rw [Nat.mul_assoc, Nat.mul_assoc, Nat.mul_left_comm P]
  · have hy : y ≠ 0 := fun e => hyz (by rw [e, Int.zero_mul])
    have hz : z ≠ 0 := fun e => hyz (by rw [e, Int.mul_zero])
    rw [h3 hy, k3 hz]
    by_cases ay : y < 0 <;> by_cases az : z < 0
    · have := Int.mul_pos_of_neg_of_neg ay az
      simp [ay, az]; omega
    · have := Int.mul_neg_of_neg_of_pos ay (show 0 < z by omega)
      simp [ay, az]; omega
    · have := Int.mul_neg_of_pos_of_neg (show 0 < y by omega) az
      simp [ay, az]; omega
    · have := Int.mul_pos (show 0 < y by omega) (show 0 < z by omega)
      simp [ay, az]; omega

theorem pow_cast (k : Nat) : ((2 ^ k : Nat) : Int) = (2 : Int) ^ k := by simp
theorem Is.signed {s : Bool} {m : Nat} {p z : Int} (h : Is s m p z) (k : Nat) : signed s m k = z * ((2 ^ ((-p).toNat + k) : Nat) : Int) := by
  obtain ⟨h1, h2, h3⟩ := h
  unfold Ieee.signed
  rw [Nat.shiftLeft_eq, h2, Nat.pow_add, Nat.mul_assoc]
  generalize 2 ^ (-p).toNat * 2 ^ k = Q
  rw [Int.natCast_mul]
  by_cases hz : z = 0
  · subst hz
    cases s <;> simp
  · rw [h3 hz]
    by_cases hn : z < 0
    · have e : (z.natAbs : Int) = -z := by omega
      rw [decide_eq_true hn, if_pos rfl, e, Int.neg_mul, Int.neg_neg]
    · have e : (z.natAbs : Int) = z := by omega
      rw [decide_eq_false hn, e]
      rfl

theorem Is.sum {s t : Bool} {m n : Nat} {p q y z : Int} (h : Is s m p y) (k : Is t n q z) :
    ∃ u o r, Datum.sum (.number s m p) (.number t n q) = some (.number u o r) ∧ Is u o r (y + z) := by
  refine ⟨_, _, _, rfl, ?_⟩
  have hs := h.signed (p - min p q).toNat
  have kz := k.signed (q - min p q).toNat
  have e1 : (-p).toNat + (p - min p q).toNat = (-(min p q)).toNat := by have := h.1; omega
  have e2 : (-q).toNat + (q - min p q).toNat = (-(min p q)).toNat := by have := k.1; omega
  rw [e1] at hs
  rw [e2] at kz
  have ht : Ieee.signed s m (p - min p q).toNat + Ieee.signed t n (q - min p q).toNat = (y + z) * ((2 ^ (-(min p q)).toNat : Nat) : Int) := by rw [hs, kz, Int.add_mul]
  rw [ht]
  have hpos : (0 : Int) < ((2 ^ (-(min p q)).toNat : Nat) : Int) := by have := Nat.two_pow_pos (-(min p q)).toNat; omega
  have hm : min p q ≤ 0 := by have := h.1; omega
  refine ⟨hm, by rw [Int.natAbs_mul, Int.natAbs_natCast], fun hyz => ?_⟩
  have hne : (y + z) * ((2 ^ (-(min p q)).toNat : Nat) : Int) ≠ 0 := Int.mul_ne_zero hyz (by omega)
  rw [if_neg hne]
  generalize ((2 ^ (-(min p q)).toNat : Nat) : Int) = Q at *
  rw [decide_eq_decide]
  constructor
  · intro hlt
    rcases Int.lt_trichotomy (y + z) 0 with h0 | h0 | h0
    · exact h0
    · exact absurd h0 hyz
    · have := Int.mul_pos h0 hpos; omega
  · exact fun h0 => Int.mul_neg_of_neg_of_pos h0 hpos

theorem log2_mul (n k : Nat) (h : n ≠ 0) : (n * 2 ^ k).log2 = n.log2 + k := by
  have h1 : n * 2 ^ k ≠ 0 := Nat.mul_ne_zero h (by have := Nat.two_pow_pos k; omega)
  apply Nat.le_antisymm
  · apply Nat.le_of_lt_succ
    rw [Nat.log2_lt h1, Nat.succ_eq_add_one, show n.log2 + k + 1 = (n.log2 + 1) + k by omega, Nat.pow_add]
    exact Nat.mul_lt_mul_of_pos_right ((Nat.log2_lt h).1 (Nat.lt_succ_self _)) (Nat.two_pow_pos k)
  · rw [Nat.le_log2 h1, Nat.pow_add]
    exact Nat.mul_le_mul_right _ ((Nat.le_log2 h).1 (Nat.le_refl _))

theorem cut_exact (way : Toward) (neg : Bool) (q d : Nat) : way.cut neg (q * 2 ^ d) d = q := by
  rcases Nat.eq_zero_or_pos q with rfl | hq
  · unfold Toward.cut
    have hg : 0 < 1 <<< min d ((0 * 2 ^ d).log2 + 2) := by rw [Nat.shiftLeft_eq, Nat.one_mul]; exact Nat.two_pow_pos _
    rw [Nat.zero_mul] at *
    simp only [Nat.zero_div, Nat.zero_mod]
    cases way <;> simp <;> omega
  · have hd : min d ((q * 2 ^ d).log2 + 2) = d := by rw [log2_mul q d (by omega)]; omega
    unfold Toward.cut
    rw [hd]
    have hp := Nat.two_pow_pos d
    simp only [Nat.shiftLeft_eq, Nat.one_mul, Nat.mul_div_cancel _ hp, Nat.mul_mod_left]
    generalize 2 ^ d = D at *
    cases way <;> simp <;> omega

theorem read_word (s : Bool) (r : Nat) (h1 : 4503599627370496 ≤ r) (h2 : r < 9218868437227405312) : double.read (double.word s r) = .number s (4503599627370496 + r % 4503599627370496) (-1074 + ((r / 4503599627370496 - 1 : Nat) : Int)) := by
  have e1 : double.signWeight = 9223372036854775808 := by decide
  have e2 : double.binade = 4503599627370496 := by decide
  have e3 : double.infRung = 9218868437227405312 := by decide
  have e4 : double.leastPlace = -1074 := by decide
  unfold Format.read Format.word
  rw [e1, e2, e3, e4]
  cases s
  · simp only [Bool.false_eq_true, if_false]
    rw [show r % 9223372036854775808 = r from Nat.mod_eq_of_lt (by omega), show r / 9223372036854775808 = 0 from Nat.div_eq_of_lt (by omega), if_neg (by omega), if_pos h2]
    rfl
  · simp only [if_true]
    rw [show (9223372036854775808 + r) % 9223372036854775808 = r by omega, show (9223372036854775808 + r) / 9223372036854775808 = 1 by omega, if_neg (by omega), if_pos h2]
    rfl

theorem read_zero (s : Bool) : double.read (double.word s 0) = .number s 0 (-1074) := by cases s <;> decide

theorem rung_facts {e K : Nat} (he : e < 53) (h1 : 4503599627370496 ≤ K) (h2 : K < 9007199254740992) :
    min ((e + 1022) * 4503599627370496 + K) 9218868437227405312 = (e + 1022) * 4503599627370496 + K ∧ 4503599627370496 ≤ (e + 1022) * 4503599627370496 + K ∧ (e + 1022) * 4503599627370496 + K < 9218868437227405312 ∧
      ((e + 1022) * 4503599627370496 + K) % 4503599627370496 = K - 4503599627370496 ∧ ((e + 1022) * 4503599627370496 + K) / 4503599627370496 = e + 1023 := by
  refine ⟨by omega, by omega, by omega, by omega, by omega⟩

/-- A whole number below 2^53 is written as it is. -/
theorem write_is {s : Bool} {m : Nat} {p z : Int} (h : Is s m p z) (hz : z.natAbs < 9007199254740992) : IsZ (double.write (.number s m p)) z := by
  obtain ⟨h1, h2, h3⟩ := h
  show IsZ (double.nearest s m p) z
  unfold Format.nearest
  by_cases hm : m = 0
  · rw [if_pos hm]
    have hz0 : z.natAbs = 0 := by
      rw [hm] at h2
      rcases Nat.mul_eq_zero.1 h2.symm with h | h
      · exact h
      · have := Nat.two_pow_pos (-p).toNat; omega
    exact ⟨s, 0, -1074, read_zero s, by omega, by rw [hz0, Nat.zero_mul], fun hne => absurd (Int.natAbs_eq_zero.1 hz0) hne⟩
  · rw [if_neg hm]
    generalize hn : z.natAbs = n at *
    have hn0 : n ≠ 0 := fun e => hm (by rw [h2, e, Nat.zero_mul])
    have e2 : double.binade = 4503599627370496 := by decide
    have e3 : double.infRung = 9218868437227405312 := by decide
    have e4 : double.leastPlace = -1074 := by decide
    have e5 : ((double.fractionBits : Nat) : Int) = 52 := by decide
    rw [e2, e3, e4, e5]
    generalize hk : (-p).toNat = k at *
    have hp : p = -(k : Int) := by omega
    have hlog : m.log2 = n.log2 + k := by rw [h2]; exact log2_mul n k hn0
    rw [hlog]
    have he1 := (Nat.le_log2 hn0 (k := n.log2)).1 (Nat.le_refl _)
    have he2 := (Nat.log2_lt hn0 (k := n.log2 + 1)).1 (Nat.lt_succ_self _)
    have he3 : n.log2 < 53 := (Nat.log2_lt hn0).2 hz
    generalize n.log2 = e at *
    have hlast : max (p + ((e + k : Nat) : Int) - 52) (-1074) = (e : Int) - 52 := by omega
    rw [hlast]
    have hkept : Toward.even.cut s (m <<< (p - ((e : Int) - 52)).toNat) (((e : Int) - 52) - p).toNat = n * 2 ^ (52 - e) := by
      by_cases hc : k + e ≤ 52
      · have a1 : (p - ((e : Int) - 52)).toNat = 52 - e - k := by omega
        have a2 : (((e : Int) - 52) - p).toNat = 0 := by omega
        rw [a1, a2, Nat.shiftLeft_eq, h2, Nat.mul_assoc, ← Nat.pow_add, show k + (52 - e - k) = 52 - e by omega]
        have := cut_exact .even s (n * 2 ^ (52 - e)) 0
        rwa [Nat.pow_zero, Nat.mul_one] at this
      · have a1 : (p - ((e : Int) - 52)).toNat = 0 := by omega
        have a2 : (((e : Int) - 52) - p).toNat = k + e - 52 := by omega
        rw [a1, a2, Nat.shiftLeft_zero, h2]
        have := cut_exact .even s (n * 2 ^ (52 - e)) (k + e - 52)
        rwa [Nat.mul_assoc, ← Nat.pow_add, show 52 - e + (k + e - 52) = k by omega] at this
    show IsZ (double.word s (min ((((e : Int) - 52) - -1074).toNat * 4503599627370496 + Toward.even.cut s (m <<< (p - ((e : Int) - 52)).toNat) (((e : Int) - 52) - p).toNat) 9218868437227405312)) z
    rw [hkept]
    have hlo : 4503599627370496 ≤ n * 2 ^ (52 - e) := by
      have := Nat.mul_le_mul_right (2 ^ (52 - e)) he1
      rw [← Nat.pow_add, show e + (52 - e) = 52 by omega] at this
      exact this
    have hhi : n * 2 ^ (52 - e) < 9007199254740992 := by
      have := Nat.mul_lt_mul_of_pos_right he2 (Nat.two_pow_pos (52 - e))
      rw [← Nat.pow_add, show e + 1 + (52 - e) = 53 by omega] at this
      exact this
    have hc : (((e : Int) - 52) - -1074).toNat = e + 1022 := by omega
    rw [hc]
    have hK : ∃ K, K = n * 2 ^ (52 - e) := ⟨_, rfl⟩
    obtain ⟨K, hK⟩ := hK
    rw [← hK] at hlo hhi ⊢
    obtain ⟨f1, f2, f3, f4, f5⟩ := rung_facts he3 hlo hhi
    rw [f1]
    have hr := read_word s _ f2 f3
    rw [f4, f5] at hr
    have g1 : 4503599627370496 + (K - 4503599627370496) = K := Nat.add_sub_cancel' hlo
    have g2 : (-1074 : Int) + ((e + 1023 - 1 : Nat) : Int) = (e : Int) - 52 := by clear f1 f2 f3 f4 f5 hr g1 hlo hhi hkept hlast; omega
    rw [g1, g2] at hr
    have g3 : (-((e : Int) - 52)).toNat = 52 - e := by clear f1 f2 f3 f4 f5 hr g1 g2 hlo hhi hkept hlast; omega
    have g4 : (e : Int) - 52 ≤ 0 := by clear f1 f2 f3 f4 f5 hr g1 g2 g3 hlo hhi hkept hlast; omega
    exact ⟨s, K, (e : Int) - 52, hr, g4, by rw [hn, g3]; exact hK, h3⟩

theorem isZ_zero : IsZ 0 0 := ⟨false, 0, -1074, by decide, by decide, by rw [Int.natAbs_zero, Nat.zero_mul], fun h => absurd rfl h⟩
theorem isZ_one : IsZ 4607182418800017408 1 := ⟨false, 4503599627370496, -52, by decide, by decide, by decide, fun _ => by decide⟩

theorem isZ_of_int {z : Int} (h : z.natAbs < 9007199254740992) : IsZ (floatOfInt .f64 z) z := write_is (is_int z) h

theorem isZ_add {x y : Nat} {a b : Int} (ha : IsZ x a) (hb : IsZ y b) (h : (a + b).natAbs < 9007199254740992) : ∃ r, floatBits .add .f64 x y = some r ∧ IsZ r (a + b) := by
  obtain ⟨s, m, p, e1, h1⟩ := ha
  obtain ⟨t, n, q, e2, h2⟩ := hb
  obtain ⟨u, o, r, e3, h3⟩ := h1.sum h2
  refine ⟨_, ?_, write_is h3 h⟩
  show (Datum.sum (double.read x) (double.read y)).map double.write = _
  rw [e1, e2, e3]
  rfl
theorem isZ_sub {x y : Nat} {a b : Int} (ha : IsZ x a) (hb : IsZ y b) (h : (a - b).natAbs < 9007199254740992) : ∃ r, floatBits .sub .f64 x y = some r ∧ IsZ r (a - b) := by
  obtain ⟨s, m, p, e1, h1⟩ := ha
  obtain ⟨t, n, q, e2, h2⟩ := hb
  obtain ⟨u, o, r, e3, h3⟩ := h1.sum h2.opposite
  refine ⟨_, ?_, write_is (by rw [Int.sub_eq_add_neg]; exact h3) h⟩
  show (Datum.sum (double.read x) (double.read y).opposite).map double.write = _
  rw [e1, e2]
  show (Datum.sum (.number s m p) (.number (!t) n q)).map double.write = _
  rw [e3]
  rfl
theorem isZ_mul {x y : Nat} {a b : Int} (ha : IsZ x a) (hb : IsZ y b) (h : (a * b).natAbs < 9007199254740992) : ∃ r, floatBits .mul .f64 x y = some r ∧ IsZ r (a * b) := by
  obtain ⟨s, m, p, e1, h1⟩ := ha
  obtain ⟨t, n, q, e2, h2⟩ := hb
  refine ⟨_, ?_, write_is (h1.product h2) h⟩
  show (Datum.product (double.read x) (double.read y)).map double.write = _
  rw [e1, e2]
  rfl

theorem signed_zero {s : Bool} {z : Int} (h : z ≠ 0 → s = decide (z < 0)) : signed s z.natAbs 0 = z := by
  unfold signed
  rw [Nat.shiftLeft_zero]
  by_cases hz : z = 0
  · subst hz; cases s <;> rfl
  · rw [h hz]
    by_cases hn : z < 0
    · rw [decide_eq_true hn, if_pos rfl]; omega
    · rw [decide_eq_false hn]
      show (z.natAbs : Int) = z
      omega

/-- Back to a whole number. -/
theorem isZ_int {x : Nat} {z : Int} (k : IntKind) (h : IsZ x z) (hk : k.min ≤ z ∧ z ≤ k.max) : floatToIntVal .f64 x k = some z := by
  obtain ⟨s, m, p, e1, h1, h2, h3⟩ := h
  have e : Datum.toInt .zero (FloatKind.decode .f64 x) = some z := by
    show Datum.toInt .zero (double.read x) = some z
    rw [e1]
    show some (Ieee.signed s (Toward.zero.cut s (m <<< p.toNat) (-p).toNat) 0) = some z
    have hp : p.toNat = 0 := by omega
    rw [hp, Nat.shiftLeft_zero, h2, cut_exact]
    exact congrArg some (signed_zero h3)
  unfold floatToIntVal
  rw [e]
  exact if_pos hk

/-- A product of two complex numbers whose parts are whole. -/
theorem isZ_cmul {a b c d : Nat} {x y u v : Int} (ha : IsZ a x) (hb : IsZ b y) (hc : IsZ c u) (hd : IsZ d v)
    (h1 : (x * u).natAbs < 2251799813685248) (h2 : (y * v).natAbs < 2251799813685248) (h3 : (x * v).natAbs < 2251799813685248) (h4 : (y * u).natAbs < 2251799813685248) :
    ∃ re im, cMulBits a b c d = some (re, im) ∧ IsZ re (x * u - y * v) ∧ IsZ im (x * v + y * u) := by
  obtain ⟨r1, e1, i1⟩ := isZ_mul ha hc (by omega)
  obtain ⟨r2, e2, i2⟩ := isZ_mul hb hd (by omega)
  obtain ⟨r3, e3, i3⟩ := isZ_sub i1 i2 (by omega)
  obtain ⟨r4, e4, i4⟩ := isZ_mul ha hd (by omega)
  obtain ⟨r5, e5, i5⟩ := isZ_mul hb hc (by omega)
  obtain ⟨r6, e6, i6⟩ := isZ_add i4 i5 (by omega)
  exact ⟨r3, r6, by simp [cMulBits, e1, e2, e3, e4, e5, e6], i3, i6⟩

end Go.Proofs.Ytjohknpjkcbjlaa.Fl
