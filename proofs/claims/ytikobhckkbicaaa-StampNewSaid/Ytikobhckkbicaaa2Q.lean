/- What follows of stamps, over lists. -/
import Derived.Test.Ytikobhckkbicaaa2P
namespace Go.Proofs.Ytikobhckkbicaaa.Sk

theorem seal_ok {n : Int} {pay : List UInt8} (h : isSt n = true) (hp : pay.length ≤ 16) : seal_ n pay = (mk n ++ (pay ++ zeros (16 - pay.length)) ++ mk n, 0) := by
  rw [seal_, if_neg (by simp [h]), if_neg (by omega)]

theorem seal_arg {n : Int} {pay : List UInt8} (h : isSt n = false) : seal_ n pay = ([], 1) := by rw [seal_, if_pos h]

theorem seal_long {n : Int} {pay : List UInt8} (h : isSt n = true) (hp : 16 < pay.length) : seal_ n pay = ([], 3) := by rw [seal_, if_neg (by simp [h]), if_pos hp]

/-- What goes between two stamps. -/
def body (pay : List UInt8) : List UInt8 := pay ++ zeros (16 - pay.length)

theorem zeros_length (n : Nat) : (zeros n).length = n := List.length_replicate

theorem body_length {pay : List UInt8} (hp : pay.length ≤ 16) : (body pay).length = 16 := by rw [body, List.length_append, zeros_length]; omega

theorem opens_of (h p t : List UInt8) (hh : h.length = 8) (hp : p.length = 16) (ht : t.length = 8) : opens (h ++ p ++ t) =
    if h = zeros 8 ∧ t = zeros 8 then (0, [], 5) else if h ≠ t ∨ isSt (val h) = false then (0, [], 8) else (val h, p, 0) := by
  have e1 : (h ++ p ++ t).take 8 = h := by rw [List.append_assoc, ← hh, List.take_left]
  have e2 : (h ++ p ++ t).drop 24 = t := by rw [show 24 = (h ++ p).length from by simp [hh, hp], List.drop_left]
  have e3 : ((h ++ p ++ t).drop 8).take 16 = p := by rw [List.append_assoc, show 8 = h.length from hh.symm, List.drop_left, ← hp, List.take_left]
  unfold opens
  rw [if_neg (by simp [hh, hp, ht]), e1, e2, e3]

theorem opens_sealed {n : Int} {p : List UInt8} (h : isSt n = true) (hp : p.length = 16) : opens (mk n ++ p ++ mk n) = (n, p, 0) := by
  rw [opens_of _ _ _ (mk_length n) hp (mk_length n), if_neg (fun e => mk_ne_zeros h e.1), if_neg (by rw [val_mk h]; simp [h]), val_mk h]

theorem opens_seal {n : Int} {pay : List UInt8} (h : isSt n = true) (hp : pay.length ≤ 16) : opens (seal_ n pay).1 = (n, body pay, 0) := by
  rw [seal_ok h hp]
  exact opens_sealed h (body_length hp)

theorem seal_length {n : Int} {pay : List UInt8} (h : isSt n = true) (hp : pay.length ≤ 16) : (seal_ n pay).1.length = 32 := by
  rw [seal_ok h hp]
  simp only [List.length_append, mk_length, zeros_length]
  omega

theorem unpair_cases (n : Int) : unpair n = (0, 0, 1) ∨ ∃ g a, unpair n = (g, a, 0) ∧ pair g a = (n, 0) ∧ n = g * 1048576 + a ∧ 1 ≤ g ∧ g ≤ 1099511627776 ∧ 0 ≤ a ∧ a < 1048576 := by
  unfold unpair
  cases h : isPr (n.tdiv 1048576) (n.tmod 1048576)
  · exact .inl rfl
  · right
    have hb : 1 ≤ n.tdiv 1048576 ∧ n.tdiv 1048576 ≤ 1099511627776 ∧ 0 ≤ n.tmod 1048576 ∧ n.tmod 1048576 < 1048576 := of_decide_eq_true h
    have e : n.tdiv 1048576 * 1048576 + n.tmod 1048576 = n := by rw [Int.mul_comm]; exact Int.mul_tdiv_add_tmod n 1048576
    exact ⟨_, _, rfl, by rw [pair, h, if_pos rfl, e], e.symm, hb⟩

theorem mix_ok {o b : List UInt8} {k : Int} (ho : o.length = 32) (hb : b.length = 32) (h0 : 0 ≤ k) (h1 : k ≤ 32) : mix o b k = (b.take k.toNat ++ o.drop k.toNat, 0) := by
  rw [mix, if_pos]
  exact decide_eq_true ⟨ho, hb, h0, h1⟩
theorem mix_no {o b : List UInt8} {k : Int} (h : ¬ (o.length = 32 ∧ b.length = 32 ∧ 0 ≤ k ∧ k ≤ 32)) : mix o b k = ([], 1) := by
  rw [mix, if_neg]
  rw [mixOk, decide_eq_false h]
  simp
theorem mix_length {o b : List UInt8} {k : Nat} (ho : o.length = 32) (hb : b.length = 32) (h1 : k ≤ 32) : (b.take k ++ o.drop k).length = 32 := by
  simp [ho, hb]; omega
theorem mix_twice {o b : List UInt8} {i j : Nat} (ho : o.length = 32) (hb : b.length = 32) (hi : i ≤ 32) (hj : j ≤ 32) :
    b.take j ++ (b.take i ++ o.drop i).drop j = b.take (max i j) ++ o.drop (max i j) := by
  rw [List.drop_append]
  have hl : (b.take i).length = i := by rw [List.length_take, hb]; omega
  rw [hl, List.drop_drop]
  by_cases h : i ≤ j
  · rw [List.drop_eq_nil_of_le (by omega), Nat.max_eq_right h, List.nil_append, show i + (j - i) = j from by omega]
  · rw [Nat.max_eq_left (by omega), show j - i = 0 from by omega, Nat.add_zero, ← List.append_assoc]
    congr 1
    have e : b.take i = (b.take i).take j ++ (b.take i).drop j := (List.take_append_drop _ _).symm
    rw [List.take_take, Nat.min_eq_left (by omega)] at e
    exact e.symm

theorem opens_err_or (b : List UInt8) : (∃ k, k ≠ 0 ∧ opens b = (0, [], k)) ∨ ∃ m p, opens b = (m, p, 0) ∧ isSt m = true ∧ p.length = 16 ∧ b = mk m ++ p ++ mk m := by
  unfold opens
  by_cases h1 : b.length = 32
  · rw [if_neg (by simp [h1])]
    by_cases h2 : b.take 8 = zeros 8 ∧ b.drop 24 = zeros 8
    · rw [if_pos h2]
      exact .inl ⟨5, by decide, rfl⟩
    · rw [if_neg h2]
      by_cases h3 : b.take 8 ≠ b.drop 24 ∨ isSt (val (b.take 8)) = false
      · rw [if_pos h3]
        exact .inl ⟨8, by decide, rfl⟩
      · rw [if_neg h3]
        right
        have e1 : b.take 8 = b.drop 24 := Classical.byContradiction fun h => h3 (.inl h)
        have e2 : isSt (val (b.take 8)) = true := by
          cases h : isSt (val (b.take 8))
          · exact absurd (.inr h) h3
          · rfl
        have e3 : mk (val (b.take 8)) = b.take 8 := mk_val (by simp [h1]) e2
        refine ⟨_, _, rfl, e2, by simp [h1], ?_⟩
        rw [e3]
        have e4 : b.take 8 ++ (b.drop 8).take 16 ++ b.drop 24 = b := by
          have e : b.drop 24 = (b.drop 8).drop 16 := by rw [List.drop_drop]
          rw [e, List.append_assoc, List.take_append_drop, List.take_append_drop]
        rw [← e1] at e4
        exact e4.symm
  · rw [if_pos h1]
    exact .inl ⟨1, by decide, rfl⟩

theorem opens_whole {b p : List UInt8} {m : Int} (h : opens b = (m, p, 0)) : isSt m = true ∧ p.length = 16 ∧ b = mk m ++ p ++ mk m := by
  rcases opens_err_or b with ⟨k, hk, e⟩ | ⟨m', p', e, h1, h2, h3⟩
  · rw [h] at e
    injection e with _ e
    injection e with _ e
    exact absurd e.symm hk
  · rw [h] at e
    injection e with e1 e
    injection e with e2 e
    subst e1 e2
    exact ⟨h1, h2, h3⟩

/-- A sector written in part that opens by the new one's stamp is the new one, where the old one did not end by that. -/
theorem new_whole {m b o : List UInt8} {k : Nat} (hm : m.length = 8) (hb : b.length = 16) (ho : o.length = 32) (hk : k ≤ 32) (hne : o.drop 24 ≠ m) {p : List UInt8} (hp : p.length = 16)
    (h : (m ++ b ++ m).take k ++ o.drop k = m ++ p ++ m) : (m ++ b ++ m).take k ++ o.drop k = m ++ b ++ m := by
  have hl : (m ++ b ++ m).length = 32 := by simp [hm, hb]
  have htl : ((m ++ b ++ m).take k).length = k := by rw [List.length_take, hl]; omega
  have hmp : (m ++ p).length = 24 := by simp [hm, hp]
  have hmb : (m ++ b).length = 24 := by simp [hm, hb]
  have e1 : ((m ++ b ++ m).take k ++ o.drop k).drop 24 = m := by rw [h, show 24 = (m ++ p).length from hmp.symm, List.drop_left]
  by_cases hk2 : k ≤ 24
  · exfalso
    rw [List.drop_append, List.drop_eq_nil_of_le (by omega), List.nil_append, List.drop_drop, htl, show k + (24 - k) = 24 from by omega] at e1
    exact hne e1
  · have e2 : ((m ++ b ++ m).take k ++ o.drop k).take 24 = m ++ b := by
      rw [List.take_append_of_le_length (by omega), List.take_take, Nat.min_eq_left (by omega), show 24 = (m ++ b).length from hmb.symm, List.take_left]
    rw [← List.take_append_drop 24 ((m ++ b ++ m).take k ++ o.drop k), e1, e2]

/-- A sealed sector written in part over another one of another stamp. -/
theorem torn {a b : Int} {p q : List UInt8} {k : Nat} (ha : isSt a = true) (hb : isSt b = true) (hab : a ≠ b) (hp : p.length = 16) (hq : q.length = 16) (hk : k ≤ 32) :
    (mk b ++ q ++ mk b).take k ++ (mk a ++ p ++ mk a).drop k = mk a ++ p ++ mk a ∨ (mk b ++ q ++ mk b).take k ++ (mk a ++ p ++ mk a).drop k = mk b ++ q ++ mk b ∨
      opens ((mk b ++ q ++ mk b).take k ++ (mk a ++ p ++ mk a).drop k) = (0, [], 8) := by
  have hma := mk_length a
  have hmb := mk_length b
  have hne : mk a ≠ mk b := fun e => hab (mk_inj ha hb e)
  have hza := mk_ne_zeros ha
  have hzb := mk_ne_zeros hb
  generalize mk a = A at *
  generalize mk b = B at *
  have hxl : (A ++ p ++ A).length = 32 := by simp [hma, hp]
  have hyl : (B ++ q ++ B).length = 32 := by simp [hmb, hq]
  have hap : (A ++ p).length = 24 := by simp [hma, hp]
  have hbq : (B ++ q).length = 24 := by simp [hmb, hq]
  have htl : ((B ++ q ++ B).take k).length = k := by rw [List.length_take, hyl]; omega
  have hzl : ((B ++ q ++ B).take k ++ (A ++ p ++ A).drop k).length = 32 := by rw [List.length_append, htl, List.length_drop, hxl]; omega
  have xA : (A ++ p ++ A).drop 24 = A := by rw [show 24 = (A ++ p).length from hap.symm, List.drop_left]
  have yB : (B ++ q ++ B).take 8 = B := by rw [List.append_assoc, show 8 = B.length from hmb.symm, List.take_left]
  have hx : A ++ p ++ A = (A ++ p ++ A).take k ++ (A ++ p ++ A).drop k := (List.take_append_drop _ _).symm
  obtain ⟨Z, hZ⟩ : ∃ Z, Z = (B ++ q ++ B).take k ++ (A ++ p ++ A).drop k := ⟨_, rfl⟩
  rw [← hZ] at hzl ⊢
  have c1 : k ≤ 24 → Z.drop 24 = A := fun h => by
    rw [hZ, List.drop_append, List.drop_eq_nil_of_le (by omega), List.nil_append, List.drop_drop, htl, show k + (24 - k) = 24 from by omega, xA]
  have c2 : 8 ≤ k → Z.take 8 = B := fun h => by
    rw [hZ, List.take_append_of_le_length (by omega), List.take_take, Nat.min_eq_left h, yB]
  have c3 : 24 ≤ k → Z.take 24 = B ++ q := fun h => by
    rw [hZ, List.take_append_of_le_length (by omega), List.take_take, Nat.min_eq_left h, show 24 = (B ++ q).length from hbq.symm, List.take_left]
  have c4 : k ≤ 8 → Z.drop 8 = (A ++ p ++ A).drop 8 := fun h => by
    rw [hZ, List.drop_append, List.drop_eq_nil_of_le (by omega), List.nil_append, List.drop_drop, htl, show k + (8 - k) = 8 from by omega]
  by_cases h1 : Z.take 8 = Z.drop 24
  · by_cases hk1 : k ≤ 8
    · left
      have e1 : Z.take 8 = A := h1.trans (c1 (by omega))
      rw [← List.take_append_drop 8 Z, e1, c4 hk1, List.append_assoc, show 8 = A.length from hma.symm, List.drop_left]
    · right; left
      have e1 := c2 (by omega)
      by_cases hk2 : k ≤ 24
      · exact absurd ((c1 hk2).symm.trans (h1.symm.trans e1)) hne
      · rw [← List.take_append_drop 24 Z, c3 (by omega), ← h1, e1]
  · right; right
    unfold opens
    rw [if_neg (by simp [hzl]), if_neg, if_pos (.inl h1)]
    intro h
    exact h1 (h.1.trans h.2.symm)

theorem pair_cases (g a : Int) : pair g a = (0, 1) ∨ (pair g a = (g * 1048576 + a, 0) ∧ unpair (g * 1048576 + a) = (g, a, 0) ∧ 1 ≤ g ∧ g ≤ 1099511627776 ∧ 0 ≤ a ∧ a < 1048576) := by
  cases h : isPr g a
  · exact .inl (by simp [pair, h])
  · have hb : 1 ≤ g ∧ g ≤ 1099511627776 ∧ 0 ≤ a ∧ a < 1048576 := of_decide_eq_true h
    refine .inr ⟨by simp [pair, h], ?_, hb⟩
    have e1 : (g * 1048576 + a).tdiv 1048576 = g := by rw [Int.tdiv_eq_ediv_of_nonneg (by omega)]; omega
    have e2 : (g * 1048576 + a).tmod 1048576 = a := by rw [Int.tmod_eq_emod_of_nonneg (by omega)]; omega
    rw [unpair, e1, e2, h]
    rfl

theorem le_drop (l : List UInt8) (k : Nat) (x : UInt8) (h : l[k]? = some x) : le (l.drop k) = x.toNat + 256 * le (l.drop (k + 1)) := by
  have hk : k < l.length := (List.getElem?_eq_some_iff.1 h).1
  rw [List.drop_eq_getElem_cons hk]
  have e : l[k] = x := (List.getElem?_eq_some_iff.1 h).2
  rw [le, e]

theorem le_drop_le : ∀ (l : List UInt8) (j : Nat), le (l.drop j) ≤ le l
  | [], j => by simp [le]
  | x :: r, 0 => Nat.le_refl _
  | x :: r, j + 1 => by
    have := le_drop_le r j
    simp only [List.drop_succ_cons, le]
    omega

theorem le_zero {l : List UInt8} {n : Nat} (hl : l.length = n) (h : le l = 0) : l = zeros n := by
  have e := low_le l
  rw [h, hl] at e
  rw [← e]
  have key : ∀ k, low k 0 = zeros k := by
    intro k
    induction k with
    | zero => rfl
    | succ k ih => rw [low, Nat.zero_div, ih]; rfl
  exact key n

/-- By the eighth octet. -/
theorem val_high {H : List UInt8} (hl : H.length = 8) {x : UInt8} (hx : H[7]? = some x) (h : 64 < (x.toNat : Int)) : isSt (val H) = false := by
  have e1 := le_drop H 7 x hx
  have e2 := le_drop_le H 7
  have e3 : le H = le (H.take 7) + 256 ^ 7 * x.toNat := by
    have e : H = H.take 7 ++ [x] := by
      have : H.take (7 + 1) = H.take 7 ++ [x] := by rw [List.take_add_one, hx]; rfl
      rw [← this, List.take_of_length_le (by omega)]
    have hl7 : (H.take 7).length = 7 := by simp [hl]
    have := le_snoc (H.take 7) x
    rw [hl7] at this
    rw [← this, ← e]
  have p7 : 256 ^ 7 = 72057594037927936 := by decide
  rw [p7] at e3
  have hlt := le_lt H
  rw [hl, p256] at hlt
  apply decide_eq_false
  unfold val maxStamp
  split <;> omega
theorem val_low {H : List UInt8} (hl : H.length = 8) {x : UInt8} (hx : H[7]? = some x) (h : ¬ 64 < (x.toNat : Int)) : le H < 9223372036854775808 ∧ val H = le H := by
  have e3 : le H = le (H.take 7) + 256 ^ 7 * x.toNat := by
    have e : H = H.take 7 ++ [x] := by
      have : H.take (7 + 1) = H.take 7 ++ [x] := by rw [List.take_add_one, hx]; rfl
      rw [← this, List.take_of_length_le (by omega)]
    have hl7 : (H.take 7).length = 7 := by simp [hl]
    have := le_snoc (H.take 7) x
    rw [hl7] at this
    rw [← this, ← e]
  have h7 := le_lt (H.take 7)
  have hl7 : (H.take 7).length = 7 := by simp [hl]
  have p7 : 256 ^ 7 = 72057594037927936 := by decide
  rw [hl7, p7] at h7
  rw [p7] at e3
  have hb : le H < 9223372036854775808 := by omega
  exact ⟨hb, by rw [val, if_pos hb]⟩

end Go.Proofs.Ytikobhckkbicaaa.Sk
