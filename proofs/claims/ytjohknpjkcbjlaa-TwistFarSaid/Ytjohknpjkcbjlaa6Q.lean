/- What follows over lists, for the laws of layer 4. -/
import Derived.Test.Ytjohknpjkcbjlaa6C
namespace Go.Proofs.Ytjohknpjkcbjlaa
open Pk Vc

theorem sm_three {f g h k : Nat → Int} : ∀ {n : Nat}, (∀ i, i < n → h i = f i + g i - 2 * k i) → sm h n = sm f n + sm g n - 2 * sm k n
  | 0, _ => rfl
  | n + 1, e => by
    have h1 := sm_three (n := n) fun i hi => e i (by omega)
    have h2 := e n (by omega)
    rw [sm, sm, sm, sm, h1, h2]
    omega
theorem sm_four {f g h k : Nat → Int} : ∀ {n : Nat}, (∀ i, i < n → 2 * (f i + g i) = h i + k i) → 2 * (sm f n + sm g n) = sm h n + sm k n
  | 0, _ => rfl
  | n + 1, e => by
    have h1 := sm_four (n := n) fun i hi => e i (by omega)
    have h2 := e n (by omega)
    rw [sm, sm, sm, sm]
    omega
theorem sm_none {f : Nat → Int} {n : Nat} (h : ∀ i, i < n → f i = 0) : sm f n = 0 := by
  rw [sm_congr (g := fun _ => 0) h]
  induction n with
  | zero => rfl
  | succ k ih => rw [sm, ih fun i hi => h i (by omega)]; rfl

theorem dif_comm (a b : List Int) (i : Nat) : dif b a i = dif a b i := by
  unfold dif
  generalize a.getD i 0 = p
  generalize b.getD i 0 = q
  have e : q - p = -(p - q) := by omega
  rw [e, Int.neg_mul_neg]
theorem dif_pro (a b : List Int) (i : Nat) : dif a b i = pro a a i + pro b b i - 2 * pro a b i := by
  unfold dif pro
  generalize a.getD i 0 = p
  generalize b.getD i 0 = q
  have e := Int.mul_comm q p
  rw [Int.sub_mul, Int.mul_sub, Int.mul_sub, e]
  omega
theorem sq_zero {d : Int} (h : d * d = 0) : d = 0 := by
  rcases Int.mul_eq_zero.1 h with h | h <;> exact h

theorem low_in {v : List Int} (h : okV v = true) (s : Small v) : ∀ x ∈ v, -32767 ≤ x ∧ x ≤ 32767 := fun x hx => ⟨(okV_yes h).2.2 x hx, (s x hx).2⟩

/-- A dot of a vector with itself. -/
theorem own_in {a : List Int} (s : Small a) (h : a.length ≤ 64) : 0 ≤ sm (pro a a) a.length ∧ sm (pro a a) a.length < 137438953472 := by
  have := sm_le (f := pro a a) (m := 1073741824) (n := a.length) fun i hi => ⟨by
    unfold pro
    have e := Int.natAbs_mul_self (a := a.getD i 0)
    rw [← e]
    exact Int.natCast_nonneg _, (pro_le rfl s s i hi).2⟩
  omega

theorem dist_in {a b : List Int} (hp : isP a b = true) (sa : Small a) (sb : Small b) : 0 ≤ sm (dif a b) a.length ∧ sm (dif a b) a.length < 549755813888 := by
  obtain ⟨hl, hoa, hob⟩ := isP_yes hp
  obtain ⟨o1, o2, _⟩ := okV_yes hoa
  have := sm_le (f := dif a b) (m := 4294836225) (n := a.length) fun i hi => dif_le hl sa sb i hi
  omega
theorem dot_in {a b : List Int} (hp : isP a b = true) (sa : Small a) (sb : Small b) : -68719476736 ≤ sm (pro a b) a.length ∧ sm (pro a b) a.length ≤ 68719476736 := by
  obtain ⟨hl, hoa, hob⟩ := isP_yes hp
  obtain ⟨o1, o2, _⟩ := okV_yes hoa
  have := sm_abs (f := pro a b) (m := 1073741824) (n := a.length) fun i hi => pro_le hl sa sb i hi
  omega

theorem far_facts {a b : List Int} (hp : isP a b = true) (sa : Small a) (sb : Small b) :
    ∃ n x y z : Int, dist a b = (n, 0) ∧ dist b a = (n, 0) ∧ dot a a = (x, 0) ∧ dot b b = (y, 0) ∧ dot a b = (z, 0) ∧
      0 ≤ n ∧ n < 549755813888 ∧ n = x + y - 2 * z ∧ 0 ≤ x ∧ x < 137438953472 ∧ 0 ≤ y ∧ y < 137438953472 ∧ -68719476736 ≤ z ∧ z ≤ 68719476736 ∧ (n = 0 ↔ a = b) := by
  obtain ⟨hl, hoa, hob⟩ := isP_yes hp
  obtain ⟨o1, o2, _⟩ := okV_yes hoa
  have hd := dist_in hp sa sb
  have hx := own_in sa o2
  have hy := own_in sb (by omega)
  have hz := dot_in hp sa sb
  have e3 := sm_three (f := pro a a) (g := pro b b) (h := dif a b) (k := pro a b) (n := a.length) fun i _ => dif_pro a b i
  refine ⟨sm (dif a b) a.length, sm (pro a a) a.length, sm (pro b b) b.length, sm (pro a b) a.length, dist_ok hp, ?_, dot_ok (isP_mk rfl hoa hoa), dot_ok (isP_mk rfl hob hob), dot_ok hp, hd.1, hd.2, by rw [← hl]; exact e3, hx.1, hx.2, hy.1, hy.2, hz.1, hz.2, fun h => ?_, fun h => ?_⟩
  · rw [dist_ok (isP_mk hl.symm hob hoa), ← hl, sm_congr fun i _ => dif_comm a b i]
  · refine same_at hl fun i hi => ?_
    have := sm_zero (f := dif a b) (n := a.length) (fun i hi => (dif_le hl sa sb i hi).1) h i hi
    have := sq_zero this
    omega
  · subst h
    exact sm_none fun i _ => by unfold dif; rw [Int.sub_self]; rfl

theorem far_no {a b : List Int} (h : isP a b = false) : ¬ a.length = b.length ∨ (a.length = b.length ∧ okV a = false) ∨ (a.length = b.length ∧ okV a = true ∧ okV b = false) := by
  by_cases hl : a.length = b.length
  · cases ha : okV a
    · exact .inr (.inl ⟨hl, rfl⟩)
    · cases hb : okV b
      · exact .inr (.inr ⟨hl, rfl, rfl⟩)
      · rw [isP_mk hl ha hb] at h; cases h
  · exact .inl hl

/-- Parts of a vector. -/
theorem okV_take {a : List Int} (h : okV a = true) {c : Nat} (h1 : 1 ≤ c) (h2 : c < a.length) : okV (a.take c) = true ∧ okV (a.drop c) = true := by
  obtain ⟨o1, o2, o3⟩ := okV_yes h
  exact ⟨okV_mk (by rw [List.length_take]; omega) (by rw [List.length_take]; omega) fun x hx => o3 x (List.mem_of_mem_take hx), okV_mk (by rw [List.length_drop]; omega) (by rw [List.length_drop]; omega) fun x hx => o3 x (List.mem_of_mem_drop hx)⟩
theorem getD_take {a : List Int} {c i : Nat} (h : i < c) : (a.take c).getD i 0 = a.getD i 0 := by rw [List.getD_eq_getElem?_getD, List.getD_eq_getElem?_getD, List.getElem?_take_of_lt h]
theorem getD_drop {a : List Int} {c i : Nat} : (a.drop c).getD i 0 = a.getD (c + i) 0 := by rw [List.getD_eq_getElem?_getD, List.getD_eq_getElem?_getD, List.getElem?_drop]
theorem parts_facts {a b : List Int} (hp : isP a b = true) (sa : Small a) (sb : Small b) {c : Nat} (h1 : 1 ≤ c) (h2 : c < a.length) :
    ∃ m o q s : Int, dist a b = (m + o, 0) ∧ dist (a.take c) (b.take c) = (m, 0) ∧ dist (a.drop c) (b.drop c) = (o, 0) ∧ dot a b = (q + s, 0) ∧ dot (a.take c) (b.take c) = (q, 0) ∧ dot (a.drop c) (b.drop c) = (s, 0) ∧
      0 ≤ m ∧ m < 549755813888 ∧ 0 ≤ o ∧ o < 549755813888 ∧ -68719476736 ≤ q ∧ q ≤ 68719476736 ∧ -68719476736 ≤ s ∧ s ≤ 68719476736 := by
  obtain ⟨hl, hoa, hob⟩ := isP_yes hp
  have ta := okV_take hoa h1 h2
  have tb := okV_take hob h1 (by omega)
  have p1 : isP (a.take c) (b.take c) = true := isP_mk (by rw [List.length_take, List.length_take, hl]) ta.1 tb.1
  have p2 : isP (a.drop c) (b.drop c) = true := isP_mk (by rw [List.length_drop, List.length_drop, hl]) ta.2 tb.2
  have s1 : Small (a.take c) := fun x hx => sa x (List.mem_of_mem_take hx)
  have s2 : Small (b.take c) := fun x hx => sb x (List.mem_of_mem_take hx)
  have s3 : Small (a.drop c) := fun x hx => sa x (List.mem_of_mem_drop hx)
  have s4 : Small (b.drop c) := fun x hx => sb x (List.mem_of_mem_drop hx)
  have l1 : (a.take c).length = c := by rw [List.length_take]; omega
  have l2 : a.length = c + (a.drop c).length := by rw [List.length_drop]; omega
  have b1 := dist_in p1 s1 s2
  have b2 := dist_in p2 s3 s4
  have b3 := dot_in p1 s1 s2
  have b4 := dot_in p2 s3 s4
  refine ⟨_, _, _, _, ?_, dist_ok p1, dist_ok p2, ?_, dot_ok p1, dot_ok p2, b1.1, b1.2, b2.1, b2.2, b3.1, b3.2, b4.1, b4.2⟩
  · rw [dist_ok hp, l1]
    conv => lhs; rw [l2]
    rw [sm_split, sm_congr (f := dif a b) (g := dif (a.take c) (b.take c)) (n := c) fun i hi => by unfold dif; rw [getD_take hi, getD_take hi],
      sm_congr (f := fun i => dif a b (c + i)) (g := dif (a.drop c) (b.drop c)) fun i _ => by unfold dif; rw [getD_drop, getD_drop]]
  · rw [dot_ok hp, l1]
    conv => lhs; rw [l2]
    rw [sm_split, sm_congr (f := pro a b) (g := pro (a.take c) (b.take c)) (n := c) fun i hi => by unfold pro; rw [getD_take hi, getD_take hi],
      sm_congr (f := fun i => pro a b (c + i)) (g := pro (a.drop c) (b.drop c)) fun i _ => by unfold pro; rw [getD_drop, getD_drop]]

end Go.Proofs.Ytjohknpjkcbjlaa
