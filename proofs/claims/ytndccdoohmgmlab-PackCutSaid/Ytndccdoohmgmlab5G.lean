/- Arguments opened: a list of texts. -/
import Derived.Test.Ytndccdoohmgmlab4O
import Derived.Test.Ytndccdoohmgmlab5F
namespace Go.Proofs.Ytndccdoohmgmlab
open Go.RowKit Pk Go.ChangeShapes Go.WideShapes Go.Deep

theorem list_by_index {α : Type} {p : Nat → α → Prop} : ∀ {n : Nat}, (∀ j, j < n → ∃ x, p j x) → ∃ l : List α, l.length = n ∧ ∀ j x, l[j]? = some x → p j x
  | 0, _ => ⟨[], rfl, fun j x h => by simp at h⟩
  | n + 1, h => by
    obtain ⟨l, hl, hp⟩ := list_by_index (n := n) (fun j hj => h j (by omega))
    obtain ⟨x, hx⟩ := h n (by omega)
    refine ⟨l ++ [x], by simp [hl], fun j y hy => ?_⟩
    by_cases hj : j < n
    · exact hp j y (by rwa [List.getElem?_append_left (by omega)] at hy)
    · obtain rfl : j = n := by have := (List.getElem?_eq_some_iff.1 hy).1; simp at this; omega
      rw [List.getElem?_append_right (by omega), hl, Nat.sub_self] at hy
      obtain rfl : x = y := by simpa using hy
      exact hx

section
variable {H : Type} {enc : TypeId × Value → H} {W : World} {base : Nat} {spare : Nat → Bool} {held : Bool}

theorem texts_of_slice {fuel : Nat} {v : Value} {x : DataW H × List MemPlace} (h : DataW.trod enc Try.prog W base spare held fuel 33 [v] = some x) : ∃ l, Ts W (fun _ => True) v l := by
  rcases open_slice Try.underlying33 h with ⟨hcs, _⟩ | ⟨a, len, cap, m, n, D, Pl, hcs, _, hl, hm, hmm, _, hi⟩
  · injection hcs with hcs
    subst hcs
    exact ⟨[], none, 0, [], rfl, by simp, by simp [maxLen], fun _ => rfl, ⟨rfl, fun j x hx => by simp at hx⟩, fun hn => by simp at hn⟩
  · injection hcs with hcs
    subst hcs
    have hml : len ≤ m := by rw [hmm]; split <;> omega
    have hel : ∀ i, i < len → ∃ t : List UInt8 × Value, W.cell? (a.add i) = some t.2 ∧ Bs W (fun _ => True) t.2 t.1 := by
      intro i hil
      obtain ⟨cs', hc, ht⟩ := hi i (by omega)
      have e1 : Try.prog.cellsOf 22 = 1 := by kernel_rfl
      rw [e1] at hc
      obtain ⟨_, hcl, hat⟩ := World.cells?_some hc
      match cs', hcl with
      | [c0], _ =>
        obtain ⟨b, hb⟩ := bs_of_trod ht
        refine ⟨(b, c0), ?_, hb⟩
        have := hat 0 (by omega)
        simpa [Addr.add] using this
    obtain ⟨l, hl1, hl2⟩ := list_by_index hel
    refine ⟨l.map (·.1), some a, cap, l.map (·.2), by simp [hl1], by simp [hl1, hl], hm, (fun h => by cases h), ⟨by simp, fun j x hx => ?_⟩, fun _ => ⟨a, rfl, trivial, fun j u hu => ?_⟩⟩
    · rw [List.getElem?_map, Option.map_eq_some_iff] at hx
      obtain ⟨t, ht, rfl⟩ := hx
      exact ⟨t.2, by rw [List.getElem?_map, ht]; rfl, (hl2 j t ht).2⟩
    · rw [List.getElem?_map, Option.map_eq_some_iff] at hu
      obtain ⟨t, ht, rfl⟩ := hu
      exact (hl2 j t ht).1

theorem texts_of_trod {r : Reach} {b0 : Nat} {v : Value} {d : DataW H} {p : List MemPlace} (hv : Value.okWide Try.prog W r b0 33 v) (h : DataW.Trod enc Try.prog W base spare held 33 v d p) :
    ∃ l, Ts W (fun _ => True) v l := by
  obtain ⟨A, len, cap, rfl⟩ := okWide_slice Try.underlying33 hv
  obtain ⟨fuel, hf⟩ := h
  exact texts_of_slice hf
end

end Go.Proofs.Ytndccdoohmgmlab
