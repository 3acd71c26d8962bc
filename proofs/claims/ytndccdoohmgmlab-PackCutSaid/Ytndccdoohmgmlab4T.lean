/- Plain words on lists of texts. -/
import Derived.Test.Ytndccdoohmgmlab4Q
namespace Go.Proofs.Ytndccdoohmgmlab.Pk

/-- Texts behind one another, each with its length ahead of it. -/
def lst : List (List UInt8) → List UInt8
  | [] => []
  | t :: r => oct 4 (t.length : Int) ++ t ++ lst r

def listp (l : List (List UInt8)) : List UInt8 × Int := if 65536 < (lst l).length then ([], 3) else (lst l, 0)

/-- The first text of a list, and what is behind it. -/
def first (b : List UInt8) : Option (List UInt8 × List UInt8) :=
  if b.length < 4 then none else if num (b.take 4) < 0 ∨ (b.length : Int) - 4 < num (b.take 4) then none
  else some ((b.drop 4).take (num (b.take 4)).toNat, (b.drop 4).drop (num (b.take 4)).toNat)

def cutF : Nat → List UInt8 → Option (List (List UInt8))
  | 0, b => if b = [] then some [] else none
  | k + 1, b => if b = [] then some [] else match first b with
    | none => none
    | some (t, r) => (cutF k r).map (t :: ·)
def cutA (b : List UInt8) : Option (List (List UInt8)) := cutF b.length b
def cutp (b : List UInt8) : List (List UInt8) × Int := if 65536 < b.length then ([], 3) else match cutA b with
  | some l => (l, 0)
  | none => ([], 2)

theorem lst_append : ∀ a b, lst (a ++ b) = lst a ++ lst b
  | [], b => rfl
  | t :: r, b => by rw [List.cons_append, lst, lst, lst_append r b]; simp

theorem lst_snoc (l : List (List UInt8)) (t : List UInt8) : lst (l ++ [t]) = lst l ++ (oct 4 (t.length : Int) ++ t) := by
  rw [lst_append, lst, lst, List.append_nil]
theorem lst_snoc_length (l : List (List UInt8)) (t : List UInt8) : (lst (l ++ [t])).length = (lst l).length + (4 + t.length) := by
  rw [lst_snoc, List.length_append, List.length_append, oct_length]
theorem lst_take_succ {l : List (List UInt8)} {j : Nat} {t : List UInt8} (h : l[j]? = some t) : l.take (j + 1) = l.take j ++ [t] := by
  rw [List.take_add_one, h]; rfl
theorem lst_part (l : List (List UInt8)) (j : Nat) : (lst (l.take j)).length ≤ (lst l).length := by
  have h := lst_append (l.take j) (l.drop j)
  rw [List.take_append_drop] at h
  rw [h, List.length_append]
  omega

theorem first_some {b t r : List UInt8} (h : first b = some (t, r)) : 4 + t.length + r.length = b.length ∧ b = oct 4 (t.length : Int) ++ t ++ r ∧ num (b.take 4) = (t.length : Int) ∧ t = (b.drop 4).take t.length ∧ r = (b.drop 4).drop t.length ∧ 4 ≤ b.length := by
  unfold first at h
  by_cases h4 : b.length < 4
  · rw [if_pos h4] at h
    cases h
  · rw [if_neg h4] at h
    by_cases hn : num (b.take 4) < 0 ∨ (b.length : Int) - 4 < num (b.take 4)
    · rw [if_pos hn] at h
      cases h
    · rw [if_neg hn] at h
      obtain ⟨n, hnn⟩ : ∃ n : Nat, num (b.take 4) = (n : Int) := ⟨(num (b.take 4)).toNat, by omega⟩
      have ho := oct_num (b.take 4)
      have hl4 : (b.take 4).length = 4 := by rw [List.length_take]; omega
      rw [hl4] at ho
      rw [hnn, Int.toNat_natCast] at h
      injection h with h
      injection h with e1 e2
      have hl : t.length = n := by rw [← e1, List.length_take, List.length_drop]; omega
      have hr : r.length = b.length - 4 - n := by rw [← e2, List.length_drop, List.length_drop]
      refine ⟨by omega, ?_, by rw [hnn, hl], by rw [hl]; exact e1.symm, by rw [hl]; exact e2.symm, by omega⟩
      rw [hl, ← hnn, ho, ← e1, ← e2, List.append_assoc, List.take_append_drop, List.take_append_drop]

theorem first_none {b : List UInt8} (h : first b = none) : b.length < 4 ∨ (4 ≤ b.length ∧ num (b.take 4) < 0) ∨ (4 ≤ b.length ∧ ¬ num (b.take 4) < 0 ∧ (b.length : Int) - 4 < num (b.take 4)) := by
  unfold first at h
  by_cases h4 : b.length < 4
  · exact .inl h4
  · rw [if_neg h4] at h
    by_cases hn : num (b.take 4) < 0 ∨ (b.length : Int) - 4 < num (b.take 4)
    · by_cases h1 : num (b.take 4) < 0
      · exact .inr (.inl ⟨by omega, h1⟩)
      · exact .inr (.inr ⟨by omega, h1, by omega⟩)
    · rw [if_neg hn] at h
      cases h

theorem first_put {t : List UInt8} (ht : t.length ≤ 65536) (r : List UInt8) : first (oct 4 (t.length : Int) ++ t ++ r) = some (t, r) := by
  have hf : fitsB 4 (t.length : Int) = true := decide_eq_true (by simp only [Int.reducePow]; omega)
  have hl := oct_length 4 (t.length : Int)
  have e1 : (oct 4 (t.length : Int) ++ t ++ r).take 4 = oct 4 (t.length : Int) := by rw [List.append_assoc, List.take_left' hl]
  have e2 : (oct 4 (t.length : Int) ++ t ++ r).drop 4 = t ++ r := by rw [List.append_assoc, List.drop_left' hl]
  have e3 : (oct 4 (t.length : Int) ++ t ++ r).length = 4 + t.length + r.length := by rw [List.length_append, List.length_append, hl]
  unfold first
  rw [e1, e2, e3, num_oct hf, if_neg (by omega), if_neg (by omega), Int.toNat_natCast, List.take_left, List.drop_left]

theorem cutF_more : ∀ (k : Nat) (b : List UInt8), b.length ≤ k → cutF k b = cutF b.length b := by
  intro k
  induction k using Nat.strongRecOn with
  | ind k ih =>
    intro b hb
    cases k with
    | zero =>
      have : b.length = 0 := by omega
      rw [this]
    | succ k =>
      by_cases hn : b = []
      · subst hn
        simp [cutF]
      · obtain ⟨n, hnl⟩ : ∃ n, b.length = n + 1 := ⟨b.length - 1, by
          have : b.length ≠ 0 := fun h => hn (List.eq_nil_of_length_eq_zero h)
          omega⟩
        rw [hnl, cutF, cutF, if_neg hn, if_neg hn]
        cases hf : first b with
        | none => rfl
        | some p =>
          obtain ⟨t, r⟩ := p
          have h1 := (first_some hf).1
          dsimp only
          rw [ih k (by omega) r (by omega)]
          by_cases hk : n = k
          · rw [hk, ih k (by omega) r (by omega)]
          · rw [ih n (by omega) r (by omega)]

theorem cutA_nil : cutA [] = some [] := rfl
theorem cutA_step {b : List UInt8} (hn : b ≠ []) : cutA b = match first b with
    | none => none
    | some (t, r) => (cutA r).map (t :: ·) := by
  obtain ⟨n, hnl⟩ : ∃ n, b.length = n + 1 := ⟨b.length - 1, by
    have : b.length ≠ 0 := fun h => hn (List.eq_nil_of_length_eq_zero h)
    omega⟩
  rw [cutA, hnl, cutF, if_neg hn]
  cases hf : first b with
  | none => rfl
  | some p =>
    obtain ⟨t, r⟩ := p
    have h1 := (first_some hf).1
    dsimp only
    rw [cutF_more n r (by omega), cutA]
theorem cutA_some {b t r : List UInt8} (h : first b = some (t, r)) : cutA b = (cutA r).map (t :: ·) := by
  have h1 := (first_some h).2.2.2.2.2
  rw [cutA_step (fun e => by rw [e] at h1; simp at h1), h]
theorem cutA_none {b : List UInt8} (hn : b ≠ []) (h : first b = none) : cutA b = none := by rw [cutA_step hn, h]

theorem cutA_lst : ∀ (l : List (List UInt8)), (lst l).length ≤ 65536 → cutA (lst l) = some l
  | [], _ => rfl
  | t :: r, h => by
    rw [lst, List.length_append, List.length_append, oct_length] at h
    rw [lst, cutA_some (first_put (by omega) (lst r)), cutA_lst r (by omega)]
    rfl

theorem lst_cutA : ∀ (n : Nat) (b : List UInt8) (l : List (List UInt8)), b.length ≤ n → cutA b = some l → lst l = b := by
  intro n
  induction n using Nat.strongRecOn with
  | ind n ih =>
    intro b l hb h
    by_cases hn : b = []
    · subst hn
      rw [cutA_nil] at h
      injection h with h
      subst h
      rfl
    · rw [cutA_step hn] at h
      cases hf : first b with
      | none =>
        rw [hf] at h
        cases h
      | some p =>
        obtain ⟨t, r⟩ := p
        rw [hf] at h
        obtain ⟨h1, h2, _, _, _, h4⟩ := first_some hf
        dsimp only at h
        cases hr : cutA r with
        | none =>
          rw [hr] at h
          cases h
        | some l' =>
          rw [hr] at h
          injection h with h
          subst h
          rw [lst, ih r.length (by omega) r l' (Nat.le_refl _) hr, ← h2]

theorem cutp_cases (b : List UInt8) : (65536 < b.length ∧ cutp b = ([], 3)) ∨ (b.length ≤ 65536 ∧ cutA b = none ∧ cutp b = ([], 2)) ∨ (∃ l, b.length ≤ 65536 ∧ cutA b = some l ∧ lst l = b ∧ cutp b = (l, 0)) := by
  unfold cutp
  by_cases h : 65536 < b.length
  · exact .inl ⟨h, if_pos h⟩
  · rw [if_neg h]
    cases hc : cutA b with
    | none => exact .inr (.inl ⟨by omega, rfl, rfl⟩)
    | some l => exact .inr (.inr ⟨l, by omega, rfl, lst_cutA b.length b l (Nat.le_refl _) hc, rfl⟩)

theorem listp_ok {l : List (List UInt8)} (h : (lst l).length ≤ 65536) : listp l = (lst l, 0) := by rw [listp, if_neg (by omega)]
theorem listp_long {l : List (List UInt8)} (h : 65536 < (lst l).length) : listp l = ([], 3) := by rw [listp, if_pos h]

end Go.Proofs.Ytndccdoohmgmlab.Pk
