/- Words for memory: a slice of whole numbers read off a world's cells. -/
import Derived.Test.YtjohknpjkcbjlaaYN
namespace Go.Proofs.Ytjohknpjkcbjlaa
open Go.RowKit

def nints (l : List Int) : List Value := l.map fun n => .int .i64 n

/-- v reads as these numbers. -/
def Ns (w : World) (S : Nat → Prop) (v : Value) (l : List Int) : Prop :=
  ∃ A c, v = .slice A l.length c ∧ l.length ≤ c ∧ c ≤ maxLen ∧ (A = none → c = 0) ∧ Cells w S A (nints l)

section
variable {w w' : World} {S S' : Nat → Prop} {v : Value} {l : List Int}
theorem nints_length (l : List Int) : (nints l).length = l.length := by simp [nints]
theorem nints_at {j : Nat} {x : Int} (h : l[j]? = some x) : (nints l)[j]? = some (.int .i64 x) := by simp [nints, h]
theorem nints_one : ∀ u ∈ nints l, u.oneCell' = true := by
  intro u hu
  simp only [nints, List.mem_map] at hu
  obtain ⟨x, _, rfl⟩ := hu
  rfl
theorem nints_append (a b : List Int) : nints (a ++ b) = nints a ++ nints b := by simp [nints]
theorem nints_snoc (a : List Int) (x : Int) : nints (a ++ [x]) = nints a ++ [.int .i64 x] := by simp [nints]

theorem Ns.keep (h : Ns w S v l) (hk : ∀ p : Addr, S p.block → (∃ u, w.cell? p = some u) → w'.cell? p = w.cell? p) : Ns w' S v l := by
  obtain ⟨A, c, h1, h2, h3, h4, h5⟩ := h
  exact ⟨A, c, h1, h2, h3, h4, h5.keep hk⟩
theorem Ns.more (h : Ns w S v l) (hS : ∀ b, b < w.heap.size → S b → S' b) : Ns w S' v l := by
  obtain ⟨A, c, h1, h2, h3, h4, h5⟩ := h
  exact ⟨A, c, h1, h2, h3, h4, h5.more hS⟩
theorem Ns.below (h : Ns w S v l) (hb : Below w.heap.size w w') : Ns w' S v l := h.keep (keep_below hb fun _ h _ => h)

theorem Ns.of_own {base n : Nat} (h : w.ownsRow base 2 1 v n (nints l)) (hS : ∀ b, some b = v.ownBlock → S b) : Ns w S v l := by
  have hn : l.length = n := by have := h.1; rw [nints_length] at this; omega
  subst hn
  rcases h.2 with ⟨rfl, h0⟩ | ⟨g, cap, cur, rfl, hg, hh, hc, hm, hs, ht⟩
  · exact ⟨none, 0, by rw [h0], by omega, by simp [maxLen], fun _ => rfl, fun hl => by rw [nints_length] at hl; omega⟩
  · exact ⟨some ⟨g, 0, none⟩, cap, rfl, hc, hm, (fun h => by cases h), fun _ => ⟨_, rfl, hS _ rfl, h.cells rfl⟩⟩

theorem Ns.from_ {A : Option Addr} {n c : Nat} (h : Ns w S (.slice A n c) l) : l.length = n ∧ n ≤ c ∧ c ≤ 9223372036854775807 ∧ (A = none → c = 0) ∧ Cells w S A (nints l) := by
  obtain ⟨A', c', he, hc1, hc2, hc3, hc⟩ := h
  injection he with e1 e2 e3
  subst e1 e2 e3
  exact ⟨rfl, hc1, by unfold maxLen at hc2; omega, hc3, hc⟩

/-- A part of a slice of numbers. -/
theorem Ns.upto_ {A : Option Addr} {n c : Nat} (h : Ns w S (.slice A n c) l) {j : Nat} (hj : j ≤ n) : Ns w S (.slice A j c) (l.take j) := by
  obtain ⟨A, c', he, hc1, hc2, hc3, hc⟩ := h
  injection he with e1 e2 e3
  subst e1 e2 e3
  have hl : (l.take j).length = j := by rw [List.length_take]; omega
  refine ⟨_, _, by rw [hl], by rw [hl]; omega, hc2, hc3, fun hn => ?_⟩
  rw [nints_length, hl] at hn
  obtain ⟨ad', e, hS, hcell⟩ := hc (by rw [nints_length]; omega)
  refine ⟨ad', e, hS, fun i u hu => hcell i u ?_⟩
  simp only [nints, List.getElem?_map, List.getElem?_take] at hu ⊢
  split at hu
  · exact hu
  · cases hu

theorem Ns.behind {ad : Addr} {n c : Nat} (h : Ns w S (.slice (some ad) n c) l) {i : Nat} (h0 : 0 < i) (hi : i ≤ n) : Ns w S (.slice (some ⟨ad.block, ad.off + i, none⟩) (n - i) (c - i)) (l.drop i) := by
  obtain ⟨A, c', he, hc1, hc2, hc3, hc⟩ := h
  injection he with e1 e2 e3
  subst e1 e2 e3
  refine ⟨_, _, by rw [List.length_drop], by rw [List.length_drop]; omega, by omega, (fun h => by cases h), fun hn => ?_⟩
  rw [nints_length, List.length_drop] at hn
  obtain ⟨ad', e, hS, hcell⟩ := hc (by rw [nints_length]; omega)
  injection e with e
  subst e
  refine ⟨_, rfl, hS, fun j u hu => ?_⟩
  have e : (⟨ad.block, ad.off + i, none⟩ : Addr).add j = ad.add (i + j) := by
    rw [← add_add]
    congr 1
    unfold Addr.add
    rw [if_neg (by omega)]
  rw [e]
  refine hcell (i + j) u ?_
  simp only [nints, List.getElem?_map, List.getElem?_drop] at hu ⊢
  exact hu

theorem cell_at {A : Option Addr} {xs : List Value} (h : Cells w S A xs) {j : Nat} {u : Value} (hu : xs[j]? = some u) : ∃ ad, A = some ad ∧ w.cell? (ad.add j) = some u := by
  obtain ⟨ad, e, _, hc⟩ := h (by have := (List.getElem?_eq_some_iff.1 hu).1; omega)
  exact ⟨ad, e, hc j u hu⟩

/-- What is made is a list of numbers of the call's own. -/
theorem ns_new {base g n : Nat} (hg : base ≤ g) (hl : l.length = n) (hn : n ≤ maxLen) (h : w.heap[g]? = some (.cells (nints l).toArray 2 (0, 0))) :
    w.ownsRow base 2 1 (.slice (some ⟨g, 0, none⟩) n n) l.length (nints l) := by
  subst hl
  exact ⟨by rw [nints_length, Nat.mul_one], .inr ⟨g, l.length, _, rfl, hg, h, Nat.le_refl _, hn, by simp [nints_length], List.take_of_length_le (by rw [List.toList_toArray, nints_length]; omega)⟩⟩
end

theorem infoI : (Try.prog.info? 2).map (fun i => (i.zero, i.size, i.bytes)) = some (some (.int .i64 0), 1, 8) := by kernel_rfl

end Go.Proofs.Ytjohknpjkcbjlaa
