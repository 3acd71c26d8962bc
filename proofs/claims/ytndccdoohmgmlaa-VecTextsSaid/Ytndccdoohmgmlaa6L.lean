/- Contract: the chapter's example; vectors just made. -/
import Derived.Test.Ytndccdoohmgmlaa6E
namespace Go.Proofs.Ytndccdoohmgmlaa
open Go.RowKit Pk Vc

/-- A vector of two, just made. -/
theorem vs_two {w W : World} {g : Nat} {x y : Int} (h : w.heap[g]? = some (.cells #[.int .i16 x, .int .i16 y] 36 (0, 0))) (hb : Below w.heap.size w W) : Vs W (fun _ => True) (.slice (some ⟨g, 0, none⟩) 2 2) [x, y] :=
  (Vs.of_own (vs_new (base := 0) (l := [x, y]) (n := 2) (Nat.zero_le _) rfl (by simp [maxLen]) h) fun _ _ => trivial).below hb

theorem gives_i {w : World} {n k : Int} {e : Ending} {w' : World} (h : GivesI w (n, k) e w') : e = .returned (.tuple #[.int .i64 n, .int .i64 k]) ∧ Below w.heap.size w w' := h

set_option maxHeartbeats 800000 in
theorem live4_any (w : World) : Calls Try.prog 10 #[] w (True_ w) := by
  have H1 := Lib.hid (show dist [1, 2] [4, 6] = (25, 0) by decide)
  have H2 := Lib.hid (show bts [-1, 256] = ([255, 255, 0, 1], 0) by decide)
  have s1 : Small [1, 2] := by intro x hx; simp at hx; omega
  have s2 : Small [4, 6] := by intro x hx; simp at hx; omega
  have s3 : Small [-1, 256] := by intro x hx; simp at hx; omega
  have S1 := Lib.hid s1
  have S2 := Lib.hid s2
  have S3 := Lib.hid s3
  clear s1 s2 s3
  go_enter Try.func10, Try.ntmps10
  go_wp2_with fail
  refine (dist_any _ _ [1, 2] [4, 6] _ (vs_two (heap_alloc_new _ _) (below_new _ _)) (vs_two (heap_second _ _ _) (Below.refl _ _)) S1.out S2.out).mono ?_
  rw [H1.out]
  intro e w1 hg
  obtain ⟨rfl, hb1⟩ := gives_i hg
  have HB1 := Lib.hid (((below_new w _).trans ((below_new (w.alloc _) _).mono (by simp))).trans (hb1.mono (by simp; omega)))
  clear hg hb1
  go_wp2_with fail
  refine (bytes_any _ [-1, 256] _ (vs_two (heap_alloc_new _ _) (Below.refl _ _)) S3.out).mono ?_
  rw [H2.out]
  intro e w2 hg
  obtain ⟨A2, c2, rfl, ho2, hs2, hb2⟩ := gives_re hg
  obtain ⟨ad, rfl, _, hcell⟩ := own_cells (S := fun _ => True) ho2 (fun _ _ => trivial) (by decide)
  have e1 : w2.cell? ⟨ad.block, ad.off + 1, none⟩ = some (.int .u8 255) := by simpa [Addr.add] using hcell 1 (.int .u8 255) rfl
  have e3 : w2.cell? ⟨ad.block, ad.off + 3, none⟩ = some (.int .u8 1) := by simpa [Addr.add] using hcell 3 (.int .u8 1) rfl
  have HB2 := Lib.hid (HB1.out.trans ((below_new w1 _).trans (hb2.mono (by simp)) |>.mono HB1.out.size))
  clear hg ho2 hs2 hb2 hcell
  go_wp2_with fail
  go_ret
  exact ⟨rfl, HB2.out⟩

end Go.Proofs.Ytndccdoohmgmlaa
