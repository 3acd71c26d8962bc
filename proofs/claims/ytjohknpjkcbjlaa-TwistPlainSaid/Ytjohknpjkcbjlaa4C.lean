/- Contract: Put. -/
import Derived.Test.Ytjohknpjkcbjlaa4A
import Derived.Test.Ytjohknpjkcbjlaa4N
namespace Go.Proofs.Ytjohknpjkcbjlaa
open Go.RowKit Pk

theorem all_take_succ {α : Type} {p : α → Bool} {l : List α} {j : Nat} {x : α} (h : l[j]? = some x) : (l.take (j + 1)).all p = ((l.take j).all p && p x) := by
  rw [List.take_add_one, h]
  simp

theorem octs_take_succ (k : Nat) {l : List Int} {j : Nat} {x : Int} (h : l[j]? = some x) : octs k (l.take (j + 1)) = octs k (l.take j) ++ oct k x := by
  rw [List.take_add_one, h, octs_append]
  simp [octs]

theorem all_false_at {α : Type} {p : α → Bool} {l : List α} (h : l.all p = false) {j : Nat} (hj : l.length ≤ j) : (l.take j).all p = false := by rw [List.take_of_length_le hj]; exact h

theorem put_long {b : List UInt8} {k : Nat} {l : List Int} (k1 : 1 ≤ k) (k8 : k ≤ 8) (ha : l.all (fitsB k) = true) (h : 65536 < b.length + k * l.length) : put b (k : Int) l = ([], 3) := by
  rcases put_cases b (k : Int) l with ⟨h1, _⟩ | ⟨k', e, _, _, h1, _⟩ | ⟨k', e, _, _, _, _, h2⟩ | ⟨k', e, _, _, _, h1, _⟩
  · have := of_decide_eq_false h1
    omega
  · obtain rfl : k = k' := by omega
    rw [ha] at h1
    cases h1
  · exact h2
  · obtain rfl : k = k' := by omega
    omega
theorem put_ok {b : List UInt8} {k : Nat} {l : List Int} (k1 : 1 ≤ k) (k8 : k ≤ 8) (ha : l.all (fitsB k) = true) (h : b.length + k * l.length ≤ 65536) : put b (k : Int) l = (b ++ octs k l, 0) := by
  rcases put_cases b (k : Int) l with ⟨h1, _⟩ | ⟨k', e, _, _, h1, _⟩ | ⟨k', e, _, _, _, h1, _⟩ | ⟨k', e, _, _, _, _, h2⟩
  · have := of_decide_eq_false h1
    omega
  · obtain rfl : k = k' := by omega
    rw [ha] at h1
    cases h1
  · obtain rfl : k = k' := by omega
    omega
  · obtain rfl : k = k' := by omega
    exact h2

end Go.Proofs.Ytjohknpjkcbjlaa
