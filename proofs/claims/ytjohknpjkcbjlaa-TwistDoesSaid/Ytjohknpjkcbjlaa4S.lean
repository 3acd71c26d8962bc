/- Pieces of slices of numbers; a cut by a remainder. -/
import Derived.Test.Ytjohknpjkcbjlaa4G
import Derived.Test.Ytjohknpjkcbjlaa4Q
namespace Go.Proofs.Ytjohknpjkcbjlaa
open Go.RowKit Pk

section
variable {w w' : World} {S : Nat → Prop} {l : List Int}
theorem Ns.tail {ad : Addr} {n c : Nat} (h : Ns w S (.slice (some ad) n c) l) {i : Nat} (hi : i ≤ n) : Ns w S (.slice (some (ad.add i)) (n - i) (c - i)) (l.drop i) := by
  obtain ⟨A, c', he, hc1, hc2, hc3, hc⟩ := h
  injection he with e1 e2 e3
  subst e1 e2 e3
  refine ⟨_, _, by rw [List.length_drop], by rw [List.length_drop]; omega, by omega, (fun h => by cases h), fun hn => ?_⟩
  rw [nints_length, List.length_drop] at hn
  obtain ⟨ad', e, hS, hcell⟩ := hc (by rw [nints_length]; omega)
  injection e with e
  subst e
  refine ⟨_, rfl, by rw [add_block]; exact hS, fun j u hu => ?_⟩
  rw [add_add]
  refine hcell (i + j) u ?_
  simp only [nints, List.getElem?_map, List.getElem?_drop] at hu ⊢
  exact hu
theorem Ns.nothing (A : Option Addr) (c : Nat) (hc : c ≤ maxLen) (h : A = none → c = 0) : Ns w S (.slice A 0 c) [] :=
  ⟨A, c, rfl, Nat.zero_le _, hc, h, fun hn => by simp [nints] at hn⟩
theorem Ns.caps {A : Option Addr} {n c : Nat} (h : Ns w S (.slice A n c) l) : l.length = n ∧ n ≤ c ∧ c ≤ 9223372036854775807 := ⟨h.from_.1, h.from_.2.1, h.from_.2.2.1⟩

/-- What is behind a place, however it is spelled. -/
theorem Ns.behind_ {A : Option Addr} {n c : Nat} (h : Ns w S (.slice A n c) l) {i : Nat} (hi : i ≤ n) :
    (A = none ∧ c = 0 ∧ n = 0 ∧ i = 0 ∧ l.drop i = []) ∨ (∃ ad, A = some ad ∧ c = i ∧ n = i ∧ l.drop i = []) ∨ (∃ ad, A = some ad ∧ ¬ c = i ∧ i < c ∧ Ns w S (.slice (some (ad.add i)) (n - i) (c - i)) (l.drop i)) := by
  obtain ⟨h1, h2, h3⟩ := h.caps
  rcases A with _ | ad
  · have hc := h.from_.2.2.2.1 rfl
    exact .inl ⟨rfl, hc, by omega, by omega, List.drop_eq_nil_of_le (by omega)⟩
  · by_cases e : c = i
    · exact .inr (.inl ⟨ad, rfl, e, by omega, List.drop_eq_nil_of_le (by omega)⟩)
    · exact .inr (.inr ⟨ad, rfl, e, by omega, h.tail hi⟩)
end

section
variable {P : Program} (w : World)
/-- An append that is guarded ('a && f(append(..))'), its guard met. -/
theorem wpList_append_guarded {ops : Array Oper} {rest : List Oper} {o : Oper} {a : Act} {Q : Exit → Act → World → Prop} (hgd : Region.wanted o (yielded ops a.tmps) = true) (s x : Operand) (t : TypeId)
    (ho : o.op = .call { callee := .builtin .append, args := #[s, x], argTypes := #[t, t] })
    (base : Nat) (e : TypeId) (i : TypeInfo) (z : Value) (size bytes : Nat) (ht : P.underlying t = some (.slice e)) (hi : P.info? e = some i) (hz : i.zero = some z)
    (hsize : i.size = size) (hby : i.bytes = bytes) (hzs : z.cells.size = size) (hsz : 0 < size)
    (v : Value) (n : Nat) (xs : List Value) (hs : a.eval s = v) (hown : w.ownsRow base e size v n xs)
    (S : Nat → Prop) (A : Option Addr) (m c : Nat) (news : List Value) (hx : a.eval x = .slice A m c) (hl : news.length = m * size) (hr : Cells w S A news) (h1 : ∀ u ∈ news, u.oneCell' = true)
    (h63 : n + m ≤ maxLen) (hbytes : (n + m) * bytes ≤ 140737488355328) (hbase : base ≤ w.heap.size)
    (h : ∀ v' w', w'.ownsRow base e size v' (n + m) (xs ++ news) → w.grownBy w' v.ownBlock → (v'.ownBlock = v.ownBlock ∨ v'.ownBlock = some w.heap.size) → wpList P ops Q rest (a.put o.dst v') w') : wpList P ops Q (o :: rest) a w :=
  wpList_step fun K hK => by
    rw [if_pos hgd]
    exact wp_append_cells w s x t ho base e i z size bytes ht hi hz hsize hby hzs hsz v n xs hs hown S A m c news hx hl hr h1 h63 hbytes hbase fun v' w' h2 h3 h4 => hK _ _ (h v' w' h2 h3 h4)
end

/-- A cut, as the law makes it. -/
theorem cut_in (cut : Int) (L : Nat) (hL : L ≤ 1000000) : ∃ x : Nat, x ≤ L ∧ (cut.tmod ((L : Int) + 1) + (L : Int) + 1).tmod ((L : Int) + 1) = (x : Int) ∧ -((L : Int) + 1) < cut.tmod ((L : Int) + 1) ∧ cut.tmod ((L : Int) + 1) < (L : Int) + 1 := by
  have h1 : -((L : Int) + 1) < cut.tmod ((L : Int) + 1) := Int.lt_tmod_of_pos _ (by omega)
  have h2 : cut.tmod ((L : Int) + 1) < (L : Int) + 1 := Int.tmod_lt_of_pos _ (by omega)
  have h3 := Int.tmod_nonneg ((L : Int) + 1) (show 0 ≤ cut.tmod ((L : Int) + 1) + (L : Int) + 1 by omega)
  have h4 := Int.tmod_lt_of_pos (cut.tmod ((L : Int) + 1) + (L : Int) + 1) (show (0 : Int) < (L : Int) + 1 by omega)
  exact ⟨((cut.tmod ((L : Int) + 1) + (L : Int) + 1).tmod ((L : Int) + 1)).toNat, by omega, by omega, h1, h2⟩

end Go.Proofs.Ytjohknpjkcbjlaa
