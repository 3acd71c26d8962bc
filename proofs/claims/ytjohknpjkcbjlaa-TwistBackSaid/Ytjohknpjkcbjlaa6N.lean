/- Words for memory: a slice of numbers of sixteen bits read off a world's cells; opened as an argument. -/
import Derived.Test.Ytjohknpjkcbjlaa4S
import Derived.Test.Ytjohknpjkcbjlaa4O
import Derived.Test.Ytjohknpjkcbjlaa6P
namespace Go.Proofs.Ytjohknpjkcbjlaa
open Go.RowKit Pk Vc

def nshorts (l : List Int) : List Value := l.map fun n => .int .i16 n

/-- v reads as these short numbers. -/
def Vs (w : World) (S : Nat → Prop) (v : Value) (l : List Int) : Prop :=
  ∃ A c, v = .slice A l.length c ∧ l.length ≤ c ∧ c ≤ maxLen ∧ (A = none → c = 0) ∧ Cells w S A (nshorts l)

section
variable {w w' : World} {S S' : Nat → Prop} {v : Value} {l : List Int}
theorem nshorts_length (l : List Int) : (nshorts l).length = l.length := by simp [nshorts]
theorem nshorts_at {j : Nat} {x : Int} (h : l[j]? = some x) : (nshorts l)[j]? = some (.int .i16 x) := by simp [nshorts, h]
theorem nshorts_one : ∀ u ∈ nshorts l, u.oneCell' = true := by
  intro u hu
  simp only [nshorts, List.mem_map] at hu
  obtain ⟨x, _, rfl⟩ := hu
  rfl
theorem nshorts_append (a b : List Int) : nshorts (a ++ b) = nshorts a ++ nshorts b := by simp [nshorts]
theorem nshorts_snoc (a : List Int) (x : Int) : nshorts (a ++ [x]) = nshorts a ++ [.int .i16 x] := by simp [nshorts]

theorem Vs.keep (h : Vs w S v l) (hk : ∀ p : Addr, S p.block → (∃ u, w.cell? p = some u) → w'.cell? p = w.cell? p) : Vs w' S v l := by
  obtain ⟨A, c, h1, h2, h3, h4, h5⟩ := h
  exact ⟨A, c, h1, h2, h3, h4, h5.keep hk⟩
theorem Vs.more (h : Vs w S v l) (hS : ∀ b, b < w.heap.size → S b → S' b) : Vs w S' v l := by
  obtain ⟨A, c, h1, h2, h3, h4, h5⟩ := h
  exact ⟨A, c, h1, h2, h3, h4, h5.more hS⟩
theorem Vs.below (h : Vs w S v l) (hb : Below w.heap.size w w') : Vs w' S v l := h.keep (keep_below hb fun _ h _ => h)

theorem Vs.of_own {base n : Nat} (h : w.ownsRow base 33 1 v n (nshorts l)) (hS : ∀ b, some b = v.ownBlock → S b) : Vs w S v l := by
  have hn : l.length = n := by have := h.1; rw [nshorts_length] at this; omega
  subst hn
  rcases h.2 with ⟨rfl, h0⟩ | ⟨g, cap, cur, rfl, hg, hh, hc, hm, hs, ht⟩
  · exact ⟨none, 0, by rw [h0], by omega, by simp [maxLen], fun _ => rfl, fun hl => by rw [nshorts_length] at hl; omega⟩
  · exact ⟨some ⟨g, 0, none⟩, cap, rfl, hc, hm, (fun h => by cases h), fun _ => ⟨_, rfl, hS _ rfl, h.cells rfl⟩⟩

theorem Vs.from_ {A : Option Addr} {n c : Nat} (h : Vs w S (.slice A n c) l) : l.length = n ∧ n ≤ c ∧ c ≤ 9223372036854775807 ∧ (A = none → c = 0) ∧ Cells w S A (nshorts l) := by
  obtain ⟨A', c', he, hc1, hc2, hc3, hc⟩ := h
  injection he with e1 e2 e3
  subst e1 e2 e3
  exact ⟨rfl, hc1, by unfold maxLen at hc2; omega, hc3, hc⟩

/-- A part of a slice of short numbers. -/
theorem Vs.upto_ {A : Option Addr} {n c : Nat} (h : Vs w S (.slice A n c) l) {j : Nat} (hj : j ≤ n) : Vs w S (.slice A j c) (l.take j) := by
  obtain ⟨A, c', he, hc1, hc2, hc3, hc⟩ := h
  injection he with e1 e2 e3
  subst e1 e2 e3
  have hl : (l.take j).length = j := by rw [List.length_take]; omega
  refine ⟨_, _, by rw [hl], by rw [hl]; omega, hc2, hc3, fun hn => ?_⟩
  rw [nshorts_length, hl] at hn
  obtain ⟨ad', e, hS, hcell⟩ := hc (by rw [nshorts_length]; omega)
  refine ⟨ad', e, hS, fun i u hu => hcell i u ?_⟩
  simp only [nshorts, List.getElem?_map, List.getElem?_take] at hu ⊢
  split at hu
  · exact hu
  · cases hu

theorem Vs.behind {ad : Addr} {n c : Nat} (h : Vs w S (.slice (some ad) n c) l) {i : Nat} (h0 : 0 < i) (hi : i ≤ n) : Vs w S (.slice (some ⟨ad.block, ad.off + i, none⟩) (n - i) (c - i)) (l.drop i) := by
  obtain ⟨A, c', he, hc1, hc2, hc3, hc⟩ := h
  injection he with e1 e2 e3
  subst e1 e2 e3
  refine ⟨_, _, by rw [List.length_drop], by rw [List.length_drop]; omega, by omega, (fun h => by cases h), fun hn => ?_⟩
  rw [nshorts_length, List.length_drop] at hn
  obtain ⟨ad', e, hS, hcell⟩ := hc (by rw [nshorts_length]; omega)
  injection e with e
  subst e
  refine ⟨_, rfl, hS, fun j u hu => ?_⟩
  have e : (⟨ad.block, ad.off + i, none⟩ : Addr).add j = ad.add (i + j) := by
    rw [← add_add]
    congr 1
    unfold Addr.add
    rw [if_neg (by omega)]
  rw [e]
  refine hcell (i + j) u ?_
  simp only [nshorts, List.getElem?_map, List.getElem?_drop] at hu ⊢
  exact hu

/-- What is made is a list of short numbers of the call's own. -/
theorem vs_new {base g n : Nat} (hg : base ≤ g) (hl : l.length = n) (hn : n ≤ maxLen) (h : w.heap[g]? = some (.cells (nshorts l).toArray 33 (0, 0))) :
    w.ownsRow base 33 1 (.slice (some ⟨g, 0, none⟩) n n) l.length (nshorts l) := by
  subst hl
  exact ⟨by rw [nshorts_length, Nat.mul_one], .inr ⟨g, l.length, _, rfl, hg, h, Nat.le_refl _, hn, by simp [nshorts_length], List.take_of_length_le (by rw [List.toList_toArray, nshorts_length]; omega)⟩⟩
end

section
variable {w w' : World} {S : Nat → Prop} {l : List Int}
theorem Vs.tail {ad : Addr} {n c : Nat} (h : Vs w S (.slice (some ad) n c) l) {i : Nat} (hi : i ≤ n) : Vs w S (.slice (some (ad.add i)) (n - i) (c - i)) (l.drop i) := by
  obtain ⟨A, c', he, hc1, hc2, hc3, hc⟩ := h
  injection he with e1 e2 e3
  subst e1 e2 e3
  refine ⟨_, _, by rw [List.length_drop], by rw [List.length_drop]; omega, by omega, (fun h => by cases h), fun hn => ?_⟩
  rw [nshorts_length, List.length_drop] at hn
  obtain ⟨ad', e, hS, hcell⟩ := hc (by rw [nshorts_length]; omega)
  injection e with e
  subst e
  refine ⟨_, rfl, by rw [add_block]; exact hS, fun j u hu => ?_⟩
  rw [add_add]
  refine hcell (i + j) u ?_
  simp only [nshorts, List.getElem?_map, List.getElem?_drop] at hu ⊢
  exact hu
theorem Vs.nothing (A : Option Addr) (c : Nat) (hc : c ≤ maxLen) (h : A = none → c = 0) : Vs w S (.slice A 0 c) [] :=
  ⟨A, c, rfl, Nat.zero_le _, hc, h, fun hn => by simp [nshorts] at hn⟩
theorem Vs.caps {A : Option Addr} {n c : Nat} (h : Vs w S (.slice A n c) l) : l.length = n ∧ n ≤ c ∧ c ≤ 9223372036854775807 := ⟨h.from_.1, h.from_.2.1, h.from_.2.2.1⟩

/-- What is behind a place, however it is spelled. -/
theorem Vs.behind_ {A : Option Addr} {n c : Nat} (h : Vs w S (.slice A n c) l) {i : Nat} (hi : i ≤ n) :
    (A = none ∧ c = 0 ∧ n = 0 ∧ i = 0 ∧ l.drop i = []) ∨ (∃ ad, A = some ad ∧ c = i ∧ n = i ∧ l.drop i = []) ∨ (∃ ad, A = some ad ∧ ¬ c = i ∧ i < c ∧ Vs w S (.slice (some (ad.add i)) (n - i) (c - i)) (l.drop i)) := by
  obtain ⟨h1, h2, h3⟩ := h.caps
  rcases A with _ | ad
  · have hc := h.from_.2.2.2.1 rfl
    exact .inl ⟨rfl, hc, by omega, by omega, List.drop_eq_nil_of_le (by omega)⟩
  · by_cases e : c = i
    · exact .inr (.inl ⟨ad, rfl, e, by omega, List.drop_eq_nil_of_le (by omega)⟩)
    · exact .inr (.inr ⟨ad, rfl, e, by omega, h.tail hi⟩)
end


theorem infoV : (Try.prog.info? 33).map (fun i => (i.zero, i.size, i.bytes)) = some (some (.int .i16 0), 1, 2) := by kernel_rfl
theorem vs_none (w : World) : Vs w (fun _ => True) (.slice none 0 0) [] := ⟨none, 0, rfl, Nat.le_refl _, by simp [maxLen], fun _ => rfl, fun hn => by simp [nshorts] at hn⟩
theorem Vs.some_ {w : World} {S : Nat → Prop} {A : Option Addr} {n c : Nat} {l : List Int} (h : Vs w S (.slice A n c) l) (hn : 0 < n) : ∃ ad, A = some ad := by
  obtain ⟨h1, _, _, _, hc⟩ := h.from_
  obtain ⟨ad, e, _⟩ := hc (by rw [nshorts_length]; omega)
  exact ⟨ad, e⟩
theorem Vs.cells {w : World} {S : Nat → Prop} {A : Option Addr} {n c : Nat} {l : List Int} (h : Vs w S (.slice A n c) l) : Cells w S A (nshorts l) := h.from_.2.2.2.2
theorem Vs.form {w : World} {S : Nat → Prop} {v : Value} {l : List Int} (h : Vs w S v l) : ∃ A c, v = .slice A l.length c := by
  obtain ⟨A, c, h, _⟩ := h
  exact ⟨A, c, h⟩

section
open Go.ChangeShapes Go.WideShapes Go.Deep
theorem Try.cellsV : Try.prog.cellsOf 33 = 1 := by kernel_rfl
variable {H : Type} {enc : TypeId × Value → H} {W : World} {base : Nat} {spare : Nat → Bool} {held : Bool}

theorem bounds_i16 {n : Int} (h : (Lit.int .i16 n).wf = true) : -32768 ≤ n ∧ n ≤ 32767 := by
  simp [Lit.wf, IntKind.min, IntKind.max, IntKind.signed, IntKind.bits] at h
  omega

theorem vec_of_trod {r : Reach} {b0 : Nat} {v : Value} {d : DataW H} {p : List MemPlace} (hv : Value.okWide Try.prog W r b0 23 v) (h : DataW.Trod enc Try.prog W base spare held 23 v d p) :
    ∃ l, Vs W (fun _ => True) v l ∧ Small l := by
  obtain ⟨A, len, cap, rfl⟩ := okWide_slice Try.underlying23 hv
  obtain ⟨fuel, h⟩ := h
  rcases open_ints Try.underlying23 Try.underlying33 Try.cellsV h with ⟨hcs, _⟩ | ⟨a, len, cap, zs, hcs, _, hl, hm, hz, _, hcell, hwz⟩
  · injection hcs with hcs
    rw [hcs]
    exact ⟨[], vs_none _, fun n hn => by simp at hn⟩
  · injection hcs with hcs
    rw [hcs]
    have hzl : len ≤ zs.length := by rw [hz]; split <;> omega
    have hlen : (zs.take len).length = len := by rw [List.length_take]; omega
    refine ⟨zs.take len, ⟨some a, cap, by rw [hlen], by rw [hlen]; exact hl, hm, (fun h => by cases h), fun _ => ⟨a, rfl, trivial, fun j u hu => ?_⟩⟩, fun n hn => bounds_i16 (hwz n (List.mem_of_mem_take hn))⟩
    simp only [nshorts, List.getElem?_map, Option.map_eq_some_iff] at hu
    obtain ⟨z, hz1, rfl⟩ := hu
    have hj : j < len := by have := (List.getElem?_eq_some_iff.1 hz1).1; rw [hlen] at this; exact this
    rw [List.getElem?_take_of_lt hj] at hz1
    rw [hcell j (by omega), List.getD_eq_getElem?_getD, hz1, Option.getD_some]
end

end Go.Proofs.Ytjohknpjkcbjlaa
