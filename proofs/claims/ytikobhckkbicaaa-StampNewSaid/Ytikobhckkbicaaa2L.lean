/- Contract: the chapter's example. -/
import Derived.Test.Ytikobhckkbicaaa2E
import Derived.Test.Ytikobhckkbicaaa2Q
namespace Go.Proofs.Ytikobhckkbicaaa
open Go.RowKit Sk

/-- Octets and an error, as a caller reads them. -/
theorem gives_re {w : World} {l : List UInt8} {k : Int} {e : Ending} {w' : World} (h : GivesRE w (l, k) e w') : ∃ A c, e = .returned (.tuple #[.slice A l.length c, .int .i64 k]) ∧ Bs w' (fun _ => True) (.slice A l.length c) l ∧ Below w.heap.size w w' := by
  obtain ⟨v, he, ho, hb⟩ := h
  dsimp only at he ho
  obtain ⟨A, c, rfl⟩ := own_slice ho
  exact ⟨A, c, he, Bs.of_own ho fun _ _ => trivial, hb⟩
theorem gives_o {w : World} {n : Int} {l : List UInt8} {k : Int} {e : Ending} {w' : World} (h : GivesO w (n, l, k) e w') : ∃ A c, e = .returned (.tuple #[.int .i64 n, .slice A l.length c, .int .i64 k]) ∧ Bs w' (fun _ => True) (.slice A l.length c) l ∧ Below w.heap.size w w' := by
  obtain ⟨v, he, ho, hb⟩ := h
  dsimp only at he ho
  obtain ⟨A, c, rfl⟩ := own_slice ho
  exact ⟨A, c, he, Bs.of_own ho fun _ _ => trivial, hb⟩

theorem live2_any (w : World) : Calls Try.prog 37 #[] w (True_ w) := by
  have hp : pair 3 5 = (3145733, 0) := by decide
  have hs : isSt 3145733 = true := by decide
  obtain ⟨L, hL⟩ : ∃ L, L = (seal_ 3145733 [7]).1 := ⟨_, rfl⟩
  have e1 : seal_ 3145733 [7] = (L, 0) := by rw [hL, seal_ok hs (by decide)]
  have e2 : opens L = (3145733, body [7], 0) := by rw [hL]; exact opens_seal hs (by decide)
  have e3 : L.length = 32 := by rw [hL]; exact seal_length hs (by decide)
  have HP := Lib.hid hp
  have H1 := Lib.hid e1
  have H2 := Lib.hid e2
  have H3 := Lib.hid e3
  clear hp hs hL e1 e2 e3
  go_enter Try.func37, Try.ntmps37
  go_wp2_with fail
  refine (pair_any _ _ _).mono ?_
  rw [HP.out]
  rintro e w' ⟨rfl, rfl⟩
  go_wp2_with fail
  refine (seal_any _ _ [7] _ (Bs.of_own (own_new (base := 0) (n := 1) (g := w.heap.size) (by omega) rfl (by simp [maxLen]) (heap_alloc_new w _)) fun _ _ => trivial)).mono ?_
  rintro e w1 ⟨v1, rfl, hown, hb1⟩
  rw [H1.out, H3.out] at hown
  rw [H1.out]
  obtain ⟨A1, c1, rfl⟩ := own_slice hown
  have HB1 := Lib.hid hb1
  have HS1 := Lib.hid (Bs.of_own hown fun _ _ => trivial)
  clear hown hb1
  go_wp2_with fail
  refine (open_any _ L _ HS1.out).mono ?_
  rw [H2.out]
  rintro e w2 ⟨v2, rfl, hown2, hb2⟩
  dsimp only at hown2
  rw [body_length (by decide)] at hown2
  obtain ⟨A2, c2, rfl⟩ := own_slice hown2
  obtain ⟨ad, rfl, _, hcell⟩ := own_cells (S := fun _ => True) hown2 (fun _ _ => trivial) (by rw [octets_length]; decide)
  have hc0 : w2.cell? ad = some (.int .u8 7) := by simpa [Addr.add] using hcell 0 (.int .u8 7) rfl
  have HB2 := Lib.hid hb2
  clear hown2 hcell hb2
  go_wp2_with fail
  go_ret
  exact ⟨rfl, (below_new w _).trans ((HB1.out.trans (HB2.out.mono HB1.out.size)).mono (by simp))⟩

end Go.Proofs.Ytikobhckkbicaaa
