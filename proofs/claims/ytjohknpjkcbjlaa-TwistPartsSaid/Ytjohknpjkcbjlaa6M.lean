/- What follows over lists, for VecMiddle and VecShift. -/
import Derived.Test.Ytjohknpjkcbjlaa6Q
import Derived.Test.Ytjohknpjkcbjlaa6E
namespace Go.Proofs.Ytjohknpjkcbjlaa
open Go.RowKit Pk Vc

/-- The sums of two, number by number; twice one. -/
def plus (a b : List Int) : List Int := List.zipWith (fun x y => x + y) a b
def dbl (c : List Int) : List Int := c.map fun x => 2 * x
/-- All its numbers may be. -/
def In (l : List Int) : Prop := ∀ x ∈ l, -32767 ≤ x ∧ x ≤ 32767

theorem plus_length {a b : List Int} (h : b.length = a.length) : (plus a b).length = a.length := by rw [plus, List.length_zipWith, h, Nat.min_self]
theorem dbl_length (c : List Int) : (dbl c).length = c.length := List.length_map _
theorem plus_at {a b : List Int} {j : Nat} {x y : Int} (h1 : a[j]? = some x) (h2 : b[j]? = some y) : (plus a b)[j]? = some (x + y) := by rw [plus, List.getElem?_zipWith, h1, h2]
theorem dbl_at {c : List Int} {j : Nat} {x : Int} (h : c[j]? = some x) : (dbl c)[j]? = some (2 * x) := by rw [dbl, List.getElem?_map, h]; rfl
theorem getD_plus {a b : List Int} {i : Nat} (h1 : i < a.length) (h2 : i < b.length) : (plus a b).getD i 0 = a.getD i 0 + b.getD i 0 := by
  obtain ⟨x, hx⟩ : ∃ x, a[i]? = some x := ⟨_, List.getElem?_eq_getElem h1⟩
  obtain ⟨y, hy⟩ : ∃ y, b[i]? = some y := ⟨_, List.getElem?_eq_getElem h2⟩
  rw [at_ (plus_at hx hy), at_ hx, at_ hy]
theorem getD_dbl {c : List Int} {i : Nat} (h : i < c.length) : (dbl c).getD i 0 = 2 * c.getD i 0 := by
  obtain ⟨x, hx⟩ : ∃ x, c[i]? = some x := ⟨_, List.getElem?_eq_getElem h⟩
  rw [at_ (dbl_at hx), at_ hx]
theorem In.small {l : List Int} (h : In l) : Small l := fun x hx => by have := h x hx; omega
theorem In.okV {l : List Int} (h : In l) (h1 : 1 ≤ l.length) (h2 : l.length ≤ 64) : okV l = true := okV_mk h1 h2 fun x hx => (h x hx).1
theorem In.snoc {l : List Int} {j : Nat} {x : Int} (h : In (l.take j)) (hx : l[j]? = some x) (hb : -32767 ≤ x ∧ x ≤ 32767) : In (l.take (j + 1)) := by
  intro z hz
  rw [List.take_add_one, hx] at hz
  rcases List.mem_append.1 hz with hz | hz
  · exact h z hz
  · simp at hz
    omega
theorem In.none {l : List Int} : In (l.take 0) := fun z hz => by simp at hz

theorem mid_term (x y z : Int) : 2 * ((x - z) * (x - z) + (y - z) * (y - z)) = (x - y) * (x - y) + (x + y - 2 * z) * (x + y - 2 * z) := by
  have e1 : x - y = (x - z) - (y - z) := by omega
  have e2 : x + y - 2 * z = (x - z) + (y - z) := by omega
  rw [e1, e2]
  generalize x - z = u
  generalize y - z = v
  simp only [Int.sub_mul, Int.mul_sub, Int.add_mul, Int.mul_add, Int.mul_comm v u]
  omega

theorem isP_of {a b : List Int} (h : isP a b = true) : okV a = true ∧ okV b = true := (isP_yes h).2

theorem middle_facts {a b c : List Int} (h1 : isP a c = true) (h2 : isP b c = true) (sa : Small a) (sb : Small b) (sc : Small c) (i1 : In (plus a b)) (i2 : In (dbl c)) :
    ∃ n m p q : Int, dist a c = (n, 0) ∧ dist b c = (m, 0) ∧ dist a b = (p, 0) ∧ dist (plus a b) (dbl c) = (q, 0) ∧ 2 * (n + m) = p + q ∧
      0 ≤ n ∧ n < 549755813888 ∧ 0 ≤ m ∧ m < 549755813888 ∧ 0 ≤ p ∧ p < 549755813888 ∧ 0 ≤ q ∧ q < 549755813888 := by
  obtain ⟨l1, oa, oc⟩ := isP_yes h1
  obtain ⟨l2, ob, _⟩ := isP_yes h2
  obtain ⟨b1, b2, _⟩ := okV_yes oa
  have hab : isP a b = true := isP_mk (by omega) oa ob
  have lp : (plus a b).length = a.length := plus_length (by omega)
  have hpd : isP (plus a b) (dbl c) = true := isP_mk (by rw [lp, dbl_length]; exact l1) (i1.okV (by omega) (by omega)) (i2.okV (by rw [dbl_length]; omega) (by rw [dbl_length]; omega))
  have k1 := dist_in h1 sa sc
  have k2 := dist_in h2 sb sc
  have k3 := dist_in hab sa sb
  have k4 := dist_in hpd i1.small i2.small
  refine ⟨_, _, _, _, dist_ok h1, dist_ok h2, dist_ok hab, dist_ok hpd, ?_, k1.1, k1.2, k2.1, k2.2, k3.1, k3.2, k4.1, k4.2⟩
  have e : b.length = a.length := by omega
  rw [lp, e]
  refine sm_four fun i hi => ?_
  unfold dif
  rw [getD_plus hi (by omega), getD_dbl (by omega)]
  exact mid_term _ _ _

theorem shift_facts {a b t : List Int} (h1 : isP a b = true) (ht : okV t = true) (hl : t.length = a.length) (sa : Small a) (sb : Small b) (st : Small t) (i1 : In (plus a t)) (i2 : In (plus b t)) :
    ∃ n p : Int, dist a b = (n, 0) ∧ dist (plus a t) (plus b t) = (n, 0) ∧ dist a (plus a t) = (p, 0) ∧ dot t t = (p, 0) := by
  obtain ⟨l1, oa, ob⟩ := isP_yes h1
  obtain ⟨b1, b2, _⟩ := okV_yes oa
  have lp : (plus a t).length = a.length := plus_length hl
  have lq : (plus b t).length = b.length := plus_length (by omega)
  have op : okV (plus a t) = true := i1.okV (by omega) (by omega)
  have oq : okV (plus b t) = true := i2.okV (by omega) (by omega)
  refine ⟨_, _, dist_ok h1, ?_, dist_ok (isP_mk lp.symm oa op), ?_⟩
  · rw [dist_ok (isP_mk (by omega) op oq), lp]
    congr 1
    refine sm_congr fun i hi => ?_
    unfold dif
    rw [getD_plus hi (by omega), getD_plus (by omega) (by omega)]
    have e : a.getD i 0 + t.getD i 0 - (b.getD i 0 + t.getD i 0) = a.getD i 0 - b.getD i 0 := by omega
    rw [e]
  · rw [dot_ok (isP_mk rfl ht ht), hl]
    congr 1
    refine sm_congr fun i hi => ?_
    unfold dif pro
    rw [getD_plus hi (by omega)]
    have e : a.getD i 0 - (a.getD i 0 + t.getD i 0) = -(t.getD i 0) := by omega
    rw [e, Int.neg_mul_neg]
theorem shift_two {a b t : List Int} (h1 : isP a b = true) (hl : t.length = a.length) (i1 : In (plus a t)) (i2 : In (plus b t)) :
    (∃ n, dist a b = (n, 0)) ∧ (∃ n, dist (plus a t) (plus b t) = (n, 0)) ∧ ∃ n, dist a (plus a t) = (n, 0) := by
  obtain ⟨l1, oa, ob⟩ := isP_yes h1
  obtain ⟨b1, b2, _⟩ := okV_yes oa
  have lp : (plus a t).length = a.length := plus_length hl
  have lq : (plus b t).length = b.length := plus_length (by omega)
  have op : okV (plus a t) = true := i1.okV (by omega) (by omega)
  have oq : okV (plus b t) = true := i2.okV (by omega) (by omega)
  exact ⟨⟨_, dist_ok h1⟩, ⟨_, dist_ok (isP_mk (by omega) op oq)⟩, ⟨_, dist_ok (isP_mk lp.symm oa op)⟩⟩

/-- What a vector that was just made holds. -/
theorem blk_vec {w0 : World} {base g n : Nat} {xs : List Value} (l : List Int) (hown : w0.ownsRow base 33 1 (.slice (some ⟨g, 0, none⟩) n n) n xs) (h0 : xs = List.replicate n (.int .i16 0)) :
    w0.heap[g]? = some (.cells (nshorts (l.take 0 ++ izeros (n - 0))).toArray 33 (0, 0)) := by
  rcases hown.2 with ⟨he, _⟩ | ⟨g', cap, cur, he, hg, hh, hc, hmx, hs, ht⟩
  · cases he
  · injection he with e1 e2 e3
    injection e1 with e1
    injection e1 with e1
    subst e1
    have hcur : cur.toList = nshorts (l.take 0 ++ izeros (n - 0)) := by
      rw [List.take_of_length_le (by rw [Array.length_toList, hs]; omega)] at ht
      rw [ht, h0]
      simp [izeros, nshorts]
    rw [hh, ← hcur]
/-- A cell of it that is not filled yet. -/
theorem blk_zero {w : World} {g n j : Nat} {l : List Int} (hl : l.length = n) (hj : j < n) (h : w.heap[g]? = some (.cells (nshorts (l.take j ++ izeros (n - j))).toArray 33 (0, 0))) : w.cell? ⟨g, j, none⟩ = some (.int .i16 0) ∧ w.frozen? ⟨g, j, none⟩ = false := by
  refine ⟨(cell_of_row w _ j _ _ _ h).trans ?_, by simp [World.frozen?, h]⟩
  rw [List.getElem?_toArray, nshorts_append, List.getElem?_append_right (by rw [nshorts_length, List.length_take]; omega), nshorts_length, List.length_take, nshorts, izeros, List.getElem?_map, List.getElem?_replicate, if_pos (by omega)]
  rfl
theorem blk_full {w : World} {base g n : Nat} {l : List Int} (hl : l.length = n) (hn : n ≤ 1000000) (hg : base ≤ g) (h : w.heap[g]? = some (.cells (nshorts (l.take n ++ izeros (n - n))).toArray 33 (0, 0))) : Vs w (fun _ => True) (.slice (some ⟨g, 0, none⟩) n n) l := by
  have e : l.take n ++ izeros (n - n) = l := by rw [Nat.sub_self, izeros, List.replicate_zero, List.append_nil, List.take_of_length_le (by omega)]
  rw [e] at h
  exact Vs.of_own (vs_new (base := base) hg hl (by unfold maxLen; omega) h) fun _ _ => trivial

end Go.Proofs.Ytjohknpjkcbjlaa
