/- Contracts: Bytes, From; the chapter's example. -/
import Derived.Test.Ytjohknpjkcbjlaa6D
namespace Go.Proofs.Ytjohknpjkcbjlaa
open Go.RowKit Pk Vc

/-- A vector in octets, and back. -/
def bts (l : List Int) : List UInt8 × Int := if okV l then (octs 2 l, 0) else ([], 1)
def sh (b : List UInt8) : List Int := nums 2 (b.length / 2) b
def frm (b : List UInt8) : List Int × Int := if b.length % 2 = 0 ∧ okV (sh b) = true then (sh b, 0) else ([], 2)

theorem bts_ok {l : List Int} (h : okV l = true) : bts l = (octs 2 l, 0) := by rw [bts, h]; rfl
theorem bts_no {l : List Int} (h : okV l = false) : bts l = ([], 1) := by rw [bts, h]; rfl
theorem fits_two {n : Int} (h : -32768 ≤ n ∧ n ≤ 32767) : fitsB 2 n = true := decide_eq_true (by omega)
theorem two_fits {n : Int} (h : fitsB 2 n = true) : -32768 ≤ n ∧ n ≤ 32767 := by have := of_decide_eq_true h; omega
theorem all_two {l : List Int} (h : Small l) : l.all (fitsB 2) = true := List.all_eq_true.2 fun x hx => fits_two (h x hx)
theorem small_nums {n : Nat} {b : List UInt8} (h : n * 2 ≤ b.length) : Small (nums 2 n b) := fun x hx => two_fits (List.all_eq_true.1 (fits_nums h) x hx)
theorem put_vec {l : List Int} (h : okV l = true) (hs : Small l) : put [] 2 l = bts l := by
  obtain ⟨_, h2, _⟩ := okV_yes h
  have := put_list_ok (b := []) (k := 2) (l := l) (by omega) (by omega) (all_two hs) (by simp; omega)
  rw [bts_ok h]
  exact this

/-- What is stored at a place of a list that is filled from its start. -/
theorem fill_stored {w : World} {g : Nat} {l : List Int} {y : Int} {n j : Nat} {t : TypeId} (hn : l.length = n) (hj : l[j]? = some y) (h : w.heap[g]? = some (.cells (nints (l.take j ++ izeros (n - j))).toArray t (0, 0))) :
    (w.setCell ⟨g, j, none⟩ (.int .i64 y)).heap[g]? = some (.cells (nints (l.take (j + 1) ++ izeros (n - (j + 1)))).toArray t (0, 0)) := by
  have hlt := (List.getElem?_eq_some_iff.1 hj).1
  have := blk_stored (y := y) (n := n) (by rw [List.length_take]; omega) (by omega) h rfl
  rwa [show l.take j ++ [y] = l.take (j + 1) by rw [List.take_add_one, hj]; rfl] at this

/-- The answer of a call that makes a vector of its own, and an error. -/
def GivesV (w : World) (r : List Int × Int) (e : Ending) (w' : World) : Prop :=
  ∃ v, e = .returned (.tuple #[v, .int .i64 r.2]) ∧ w'.ownsRow w.heap.size 33 1 v r.1.length (nshorts r.1) ∧ Below w.heap.size w w'

theorem frm_ok {b : List UInt8} (h1 : b.length % 2 = 0) (h2 : okV (sh b) = true) : frm b = (sh b, 0) := by rw [frm, if_pos ⟨h1, h2⟩]
theorem frm_no {b : List UInt8} (h : ¬ b.length % 2 = 0 ∨ okV (sh b) = false) : frm b = ([], 2) := by
  rw [frm, if_neg]
  rintro ⟨h1, h2⟩
  rcases h with h | h
  · exact h h1
  · rw [h2] at h; cases h
theorem sh_length (b : List UInt8) : (sh b).length = b.length / 2 := nums_length _ _ _
theorem sh_small (b : List UInt8) : Small (sh b) := small_nums (by omega)
theorem take_vec {b : List UInt8} (h : b.length ≤ 131073) : take b 2 ((b.length / 2 : Nat) : Int) = (sh b, b.drop (b.length / 2 * 2), 0) := take_ok (k := 2) (m := b.length / 2) (by omega) (by omega) (by omega) (by omega)

theorem vblk_stored {w : World} {g : Nat} {xs : List Int} {x : Int} {n j : Nat} {t : TypeId} (hx : xs.length = j) (hj : j < n) (h : w.heap[g]? = some (.cells (nshorts (xs ++ izeros (n - j))).toArray t (0, 0))) :
    (w.setCell ⟨g, j, none⟩ (.int .i16 x)).heap[g]? = some (.cells (nshorts ((xs ++ [x]) ++ izeros (n - (j + 1)))).toArray t (0, 0)) := by
  subst hx
  rw [blk_set h]
  congr 2
  have e : n - xs.length = (n - (xs.length + 1)) + 1 := by omega
  rw [e, izeros, List.replicate_succ, List.append_assoc]
  simp [nshorts, izeros]
theorem vfill_stored {w : World} {g : Nat} {l : List Int} {y : Int} {n j : Nat} {t : TypeId} (hn : l.length = n) (hj : l[j]? = some y) (h : w.heap[g]? = some (.cells (nshorts (l.take j ++ izeros (n - j))).toArray t (0, 0))) :
    (w.setCell ⟨g, j, none⟩ (.int .i16 y)).heap[g]? = some (.cells (nshorts (l.take (j + 1) ++ izeros (n - (j + 1)))).toArray t (0, 0)) := by
  have hlt := (List.getElem?_eq_some_iff.1 hj).1
  have := vblk_stored (x := y) (n := n) (by rw [List.length_take]; omega) (by omega) h
  rwa [show l.take j ++ [y] = l.take (j + 1) by rw [List.take_add_one, hj]; rfl] at this

end Go.Proofs.Ytjohknpjkcbjlaa
