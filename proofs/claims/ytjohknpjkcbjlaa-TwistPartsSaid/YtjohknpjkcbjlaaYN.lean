/- Parts of a slice of octets. -/
import Derived.Test.YtjohknpjkcbjlaaYM
namespace Go.Proofs.Ytjohknpjkcbjlaa
open Go.RowKit

theorem Bs.from_ {w : World} {S : Nat → Prop} {ad : Addr} {n c : Nat} {l : List UInt8} (h : Bs w S (.slice (some ad) n c) l) {i : Nat} (h0 : 0 < i) (hi : i ≤ n) : Bs w S (.slice (some ⟨ad.block, ad.off + i, none⟩) (n - i) (c - i)) (l.drop i) := by
  obtain ⟨A, c', he, hc1, hc2, hc3, hc⟩ := h
  injection he with e1 e2 e3
  subst e1 e2 e3
  refine ⟨_, _, by rw [List.length_drop], by rw [List.length_drop]; omega, by omega, (fun h => by cases h), fun hn => ?_⟩
  rw [octets_length, List.length_drop] at hn
  obtain ⟨ad', e, hS, hcell⟩ := hc (by rw [octets_length]; omega)
  injection e with e
  subst e
  refine ⟨_, rfl, hS, fun j u hu => ?_⟩
  have e : (⟨ad.block, ad.off + i, none⟩ : Addr).add j = ad.add (i + j) := by
    rw [← add_add]
    congr 1
    unfold Addr.add
    rw [if_neg (by omega)]
  rw [e]
  refine hcell (i + j) u ?_
  simp only [octets, List.getElem?_map, List.getElem?_drop] at hu ⊢
  exact hu
theorem Bs.upto_ {w : World} {S : Nat → Prop} {A : Option Addr} {n c : Nat} {l : List UInt8} (h : Bs w S (.slice A n c) l) {j : Nat} (hj : j ≤ n) : Bs w S (.slice A j c) (l.take j) := by
  obtain ⟨A, c', he, hc1, hc2, hc3, hc⟩ := h
  injection he with e1 e2 e3
  subst e1 e2 e3
  have hl : (l.take j).length = j := by rw [List.length_take]; omega
  refine ⟨_, _, by rw [hl], by rw [hl]; omega, hc2, hc3, fun hn => ?_⟩
  rw [octets_length, hl] at hn
  obtain ⟨ad', e, hS, hcell⟩ := hc (by rw [octets_length]; omega)
  refine ⟨ad', e, hS, fun i u hu => hcell i u ?_⟩
  simp only [octets, List.getElem?_map, List.getElem?_take] at hu ⊢
  split at hu
  · exact hu
  · cases hu

/-- A slice that is not empty lies somewhere. -/
theorem Bs.some_ {w : World} {S : Nat → Prop} {A : Option Addr} {n c : Nat} {l : List UInt8} (h : Bs w S (.slice A n c) l) (hn : 0 < n) : ∃ ad, A = some ad := by
  obtain ⟨A, c', he, hc1, hc2, hc3, hc⟩ := h
  injection he with e1 e2 e3
  subst e1 e2 e3
  obtain ⟨ad, e, _⟩ := hc (by rw [octets_length]; omega)
  exact ⟨ad, e⟩
theorem Bs.caps {w : World} {S : Nat → Prop} {A : Option Addr} {n c : Nat} {l : List UInt8} (h : Bs w S (.slice A n c) l) : l.length = n ∧ n ≤ c ∧ c ≤ 9223372036854775807 := by
  obtain ⟨A, c', he, hc1, hc2, hc3, hc⟩ := h
  injection he with e1 e2 e3
  subst e1 e2 e3
  exact ⟨rfl, hc1, by unfold maxLen at hc2; omega⟩

theorem Bs.cells {w : World} {S : Nat → Prop} {A : Option Addr} {n c : Nat} {l : List UInt8} (h : Bs w S (.slice A n c) l) : Cells w S A (octets l) := by
  obtain ⟨A, c', he, _, _, _, hc⟩ := h
  injection he with e1 e2 e3
  subst e1
  exact hc

end Go.Proofs.Ytjohknpjkcbjlaa
