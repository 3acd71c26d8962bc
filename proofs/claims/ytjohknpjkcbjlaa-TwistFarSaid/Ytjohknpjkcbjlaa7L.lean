/- Contract: the chapter's example of layer 5. -/
import Derived.Test.Ytjohknpjkcbjlaa7C
namespace Go.Proofs.Ytjohknpjkcbjlaa
open Go.RowKit Pk Vc Tw

theorem vs_pair {w W : World} {g : Nat} {x y : Int} (h : w.heap[g]? = some (.cells #[.int .i16 x, .int .i16 y] 33 (0, 0))) (hb : Below w.heap.size w W) : Vs W (fun _ => True) (.slice (some ⟨g, 0, none⟩) 2 2) [x, y] :=
  (Vs.of_own (vs_new (base := 0) (l := [x, y]) (n := 2) (Nat.zero_le _) rfl (by simp [maxLen]) h) fun _ _ => trivial).below hb
theorem gives_iz {w : World} {n k : Int} {e : Ending} {w' : World} (h : GivesI w (n, k) e w') : e = .returned (.tuple #[.int .i64 n, .int .i64 k]) ∧ Below w.heap.size w w' := h
theorem gives_vz {w : World} {l : List Int} {k : Int} {e : Ending} {w' : World} (h : GivesV w (l, k) e w') : ∃ A c, e = .returned (.tuple #[.slice A l.length c, .int .i64 k]) ∧ w'.ownsRow w.heap.size 33 1 (.slice A l.length c) l.length (nshorts l) ∧ Vs w' (fun _ => True) (.slice A l.length c) l ∧ Below w.heap.size w w' := by
  obtain ⟨v, he, ho, hb⟩ := h
  dsimp only at he ho
  obtain ⟨A, c, rfl⟩ := own_slice ho
  exact ⟨A, c, he, ho, Vs.of_own ho fun _ _ => trivial, hb⟩

set_option maxHeartbeats 800000 in
theorem live5_any (w : World) : Calls Try.prog 9 #[] w (True_ w) := by
  have H1 := Lib.hid (show turn [1, 2] 1 = ([-2, 1], 0) by
    rw [show (1 : Int) = ((1 : Nat) : Int) from rfl, turn_ok (by decide) (by decide)]
    rfl)
  have s1 : Small [1, 2] := by intro x hx; simp at hx; omega
  have S1 := Lib.hid s1
  clear s1
  go_enter Try.func9, Try.ntmps9
  go_wp2_with fail
  refine (turn_any _ [1, 2] 1 _ (vs_pair (heap_alloc_new _ _) (Below.refl _ _)) S1.out).mono ?_
  rw [H1.out]
  intro e w1 hg
  obtain ⟨A1, c1, rfl, -, hs1, hb1⟩ := gives_vz hg
  have HS1 := Lib.hid hs1
  have HB1 := Lib.hid ((below_new w _).trans (hb1.mono (by simp)))
  clear hg hs1 hb1
  go_wp2_with fail
  refine (refSame_any _ _ [-2, 1] [-2, 1] _ (HS1.out.below (below_new _ _)) (vs_pair (heap_alloc_new _ _) (Below.refl _ _))).mono ?_
  rw [decide_eq_true rfl]
  rintro e w2 ⟨rfl, hb2⟩
  have HB2 := Lib.hid (HB1.out.trans (((below_new w1 _).trans (hb2.mono (by simp))).mono HB1.out.size))
  clear hb2
  go_wp2_with fail
  go_ret
  exact ⟨rfl, HB2.out⟩

end Go.Proofs.Ytjohknpjkcbjlaa
