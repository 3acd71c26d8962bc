/- Contract: Take. -/
import Derived.Test.Ytjohknpjkcbjlaa4C
namespace Go.Proofs.Ytjohknpjkcbjlaa
open Go.RowKit Pk

/-- The answer of a call that makes numbers and octets of its own, and an error. -/
def GivesT (w : World) (r : List Int × List UInt8 × Int) (e : Ending) (w' : World) : Prop :=
  ∃ v u, e = .returned (.tuple #[v, u, .int .i64 r.2.2]) ∧ w'.ownsRow w.heap.size 2 1 v r.1.length (nints r.1) ∧ w'.ownsRow w.heap.size 5 1 u r.2.1.length (octets r.2.1) ∧ Below w.heap.size w w'

theorem take_arg {b : List UInt8} {width n : Int} (h : takeOk width n = false) : take b width n = ([], [], 1) := by simp [take, h]

theorem nums_succ (k : Nat) : ∀ (j : Nat) (b : List UInt8), nums k (j + 1) b = nums k j b ++ [num ((b.drop (j * k)).take k)] := by
  intro j b
  rw [nums_append k j 1]
  rfl

/-- A piece of a slice of octets. -/
theorem Bs.piece {w : World} {S : Nat → Prop} {ad : Addr} {n c : Nat} {l : List UInt8} (h : Bs w S (.slice (some ad) n c) l) {i k : Nat} (hi : i + k ≤ n) : Bs w S (.slice (some (ad.add i)) k (c - i)) ((l.drop i).take k) := by
  obtain ⟨A, c', he, hc1, hc2, hc3, hc⟩ := h
  injection he with e1 e2 e3
  subst e1 e2 e3
  have hl : ((l.drop i).take k).length = k := by rw [List.length_take, List.length_drop]; omega
  refine ⟨_, _, by rw [hl], by rw [hl]; omega, by omega, (fun h => by cases h), fun hn => ?_⟩
  rw [octets_length, hl] at hn
  obtain ⟨ad', e, hS, hcell⟩ := hc (by rw [octets_length]; omega)
  injection e with e
  subst e
  refine ⟨_, rfl, by rw [add_block]; exact hS, fun j u hu => ?_⟩
  rw [add_add]
  refine hcell (i + j) u ?_
  simp only [octets, List.getElem?_map, List.getElem?_take, List.getElem?_drop] at hu ⊢
  split at hu
  · exact hu
  · cases hu

theorem Bs.tail {w : World} {S : Nat → Prop} {ad : Addr} {n c : Nat} {l : List UInt8} (h : Bs w S (.slice (some ad) n c) l) {i : Nat} (hi : i ≤ n) : Bs w S (.slice (some (ad.add i)) (n - i) (c - i)) (l.drop i) := by
  have := h.piece (i := i) (k := n - i) (by omega)
  rwa [List.take_of_length_le (by rw [List.length_drop, h.caps.1]; exact Nat.le_refl _)] at this
theorem Bs.nothing {w : World} {S : Nat → Prop} (A : Option Addr) (c : Nat) (hc : c ≤ maxLen) (h : A = none → c = 0) : Bs w S (.slice A 0 c) [] :=
  ⟨A, c, rfl, Nat.zero_le _, hc, h, fun hn => by simp [octets] at hn⟩

def izeros (n : Nat) : List Int := List.replicate n 0

theorem blk_stored {w : World} {g : Nat} {xs : List Int} {x y : Int} {n j : Nat} {t : TypeId} (hx : xs.length = j) (hj : j < n) (h : w.heap[g]? = some (.cells (nints (xs ++ izeros (n - j))).toArray t (0, 0))) (hy : y = x) :
    (w.setCell ⟨g, j, none⟩ (.int .i64 y)).heap[g]? = some (.cells (nints ((xs ++ [x]) ++ izeros (n - (j + 1)))).toArray t (0, 0)) := by
  subst hy hx
  rw [blk_set h]
  congr 2
  have e : n - xs.length = (n - (xs.length + 1)) + 1 := by omega
  rw [e, izeros, List.replicate_succ, List.append_assoc]
  simp [nints, izeros]

theorem own_numbers {wr w5 : World} {B : Nat} {v : Value} {n : Nat} {xs : List Value} (h : wr.ownsRow B 2 1 v n xs) (hb : Below wr.heap.size wr w5) : w5.ownsRow B 2 1 v n xs :=
  own_below h hb fun b hh => (h.lt b hh).2

theorem take_end {w wr w5 : World} {b : List UInt8} {k j : Nat} {g : Nat} {v5 : Value} (he : take b (k : Int) (j : Int) = (nums k j b, b.drop (j * k), 0))
    (h1 : wr.ownsRow w.heap.size 2 1 (.slice (some ⟨g, 0, none⟩) j j) (nums k j b).length (nints (nums k j b))) (h5 : w5.ownsRow wr.heap.size 5 1 v5 (b.drop (j * k)).length (octets (b.drop (j * k)))) (hb : Below w.heap.size w wr) (hb5 : Below wr.heap.size wr w5) :
    GivesT w (take b (k : Int) (j : Int)) (.returned (.tuple #[.slice (some ⟨g, 0, none⟩) j j, v5, .int .i64 0])) w5 := by
  rw [he]
  exact ⟨_, _, rfl, own_numbers h1 hb5, own_mono h5 hb.size, hb.trans (hb5.mono hb.size)⟩

end Go.Proofs.Ytjohknpjkcbjlaa
