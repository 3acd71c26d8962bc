/- Answers as a caller reads them; small slices; what is behind a place. -/
import Derived.Test.Ytjohknpjkcbjlaa4D
import Derived.Deep.QuietTactic
import Derived.BigQuiet
import Derived.WalkSmall
namespace Go.Proofs.Ytjohknpjkcbjlaa
open Go.RowKit Pk

/-- Octets and an error, as a caller reads them. -/
theorem gives_re {w : World} {l : List UInt8} {k : Int} {e : Ending} {w' : World} (h : GivesRE w (l, k) e w') : ∃ A c, e = .returned (.tuple #[.slice A l.length c, .int .i64 k]) ∧ w'.ownsRow w.heap.size 5 1 (.slice A l.length c) l.length (octets l) ∧ Bs w' (fun _ => True) (.slice A l.length c) l ∧ Below w.heap.size w w' := by
  obtain ⟨v, he, ho, hb⟩ := h
  dsimp only at he ho
  obtain ⟨A, c, rfl⟩ := own_slice ho
  exact ⟨A, c, he, ho, Bs.of_own ho fun _ _ => trivial, hb⟩
theorem gives_t {w : World} {l : List Int} {r : List UInt8} {k : Int} {e : Ending} {w' : World} (h : GivesT w (l, r, k) e w') : ∃ A c A' c', e = .returned (.tuple #[.slice A l.length c, .slice A' r.length c', .int .i64 k]) ∧ w'.ownsRow w.heap.size 2 1 (.slice A l.length c) l.length (nints l) ∧
    w'.ownsRow w.heap.size 5 1 (.slice A' r.length c') r.length (octets r) ∧ Ns w' (fun _ => True) (.slice A l.length c) l ∧ Bs w' (fun _ => True) (.slice A' r.length c') r ∧ Below w.heap.size w w' := by
  obtain ⟨v, u, he, ho, ho', hb⟩ := h
  dsimp only at he ho ho'
  obtain ⟨A, c, rfl⟩ := own_slice ho
  obtain ⟨A', c', rfl⟩ := own_slice ho'
  exact ⟨A, c, A', c', he, ho, ho', Ns.of_own ho fun _ _ => trivial, Bs.of_own ho' fun _ _ => trivial, hb⟩

theorem bs_none (w : World) : Bs w (fun _ => True) (.slice none 0 0) [] := Bs.nothing none 0 (by simp [maxLen]) (fun _ => rfl)
theorem ns_none (w : World) : Ns w (fun _ => True) (.slice none 0 0) [] := ⟨none, 0, rfl, Nat.le_refl _, by simp [maxLen], fun _ => rfl, fun hn => by simp [nints] at hn⟩

/-- A list of one number, just made. -/
theorem ns_one (w : World) (n : Int) : Ns (w.alloc (.cells #[.int .i64 n] 2)) (fun _ => True) (.slice (some ⟨w.heap.size, 0, none⟩) 1 1) [n] :=
  Ns.of_own (ns_new (base := 0) (l := [n]) (n := 1) (Nat.zero_le _) rfl (by simp [maxLen]) (heap_alloc_new w _)) fun _ _ => trivial

/-- What is behind a place of a slice of octets, however it is spelled. -/
theorem Bs.behind_ {w : World} {S : Nat → Prop} {A : Option Addr} {n c : Nat} {l : List UInt8} (h : Bs w S (.slice A n c) l) {i : Nat} (hi : i ≤ n) :
    (A = none ∧ c = 0 ∧ n = 0 ∧ i = 0 ∧ l.drop i = []) ∨ (∃ ad, A = some ad ∧ c = i ∧ n = i ∧ l.drop i = []) ∨ (∃ ad, A = some ad ∧ ¬ c = i ∧ i < c ∧ Bs w S (.slice (some (ad.add i)) (n - i) (c - i)) (l.drop i)) := by
  obtain ⟨h1, h2, h3⟩ := h.caps
  rcases A with _ | ad
  · have hc : c = 0 := by
      obtain ⟨A', c', he, _, _, hc3, _⟩ := h
      injection he with e1 e2 e3
      subst e1 e3
      exact hc3 rfl
    exact .inl ⟨rfl, hc, by omega, by omega, List.drop_eq_nil_of_le (by omega)⟩
  · by_cases e : c = i
    · exact .inr (.inl ⟨ad, rfl, e, by omega, List.drop_eq_nil_of_le (by omega)⟩)
    · exact .inr (.inr ⟨ad, rfl, e, by omega, h.tail hi⟩)

/-- Two texts behind one another. -/
theorem cat_text {T D b : List UInt8} (h : T ++ D = b) : (({ data := T.toArray } : ByteArray) ++ { data := D.toArray }).toList = b := by
  have e : (({ data := T.toArray } : ByteArray) ++ { data := D.toArray }) = ⟨(T ++ D).toArray⟩ := by
    apply ByteArray.ext
    simp [ByteArray.data_append]
  rw [e, h]
  exact ByteArray.toList_mk b

end Go.Proofs.Ytjohknpjkcbjlaa
