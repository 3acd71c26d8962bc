/- Contracts: the chapter's example; numbers compared. -/
import Derived.Test.Ytndccdoohmgmlab4G
import Derived.Deep.QuietTactic
import Derived.BigQuiet
import Derived.WalkSmall
namespace Go.Proofs.Ytndccdoohmgmlab
open Go.RowKit Pk

set_option maxHeartbeats 800000 in
theorem live3_any (w : World) : Calls Try.prog 10 #[] w (True_ w) := by
  have H1 := Lib.hid (show put [] 2 [-2] = ([254, 255], 0) by decide)
  have H2 := Lib.hid (show take [254, 255] 2 1 = ([-2], [], 0) by decide)
  go_enter Try.func10, Try.ntmps10
  go_wp2_with fail
  refine (put_any _ _ [] 2 [-2] _ (bs_none _) (ns_one _ _) (by simp) (by simp)).mono ?_
  rw [H1.out]
  intro e w1 hg
  obtain ⟨A1, c1, rfl, ho1, hs1, hb1⟩ := gives_re hg
  obtain ⟨ad, rfl, _, hcell⟩ := own_cells (S := fun _ => True) ho1 (fun _ _ => trivial) (by decide)
  have HB1 := Lib.hid hb1
  have HS1 := Lib.hid hs1
  have HC := Lib.hid hcell
  clear hg ho1 hs1 hb1 hcell
  go_wp2_with fail
  refine (take_any _ [254, 255] 2 1 _ HS1.out (by decide)).mono ?_
  rw [H2.out]
  intro e w2 hg
  obtain ⟨A2, c2, A3, c3, rfl, ho2, ho3, hs2, hs3, hb2⟩ := gives_t hg
  obtain ⟨ad2, rfl, _, hcell2⟩ := own_cells (S := fun _ => True) ho2 (fun _ _ => trivial) (by decide)
  have k : ∀ p u, w1.cell? p = some u → w2.cell? p = some u := fun p u h => (hb2.cell (World.block_lt_of_cell? w1 p h)).trans h
  have e0 : w2.cell? ad = some (.int .u8 254) := by simpa [Addr.add] using k _ _ (HC.out 0 (.int .u8 254) rfl)
  have e1 : w2.cell? ⟨ad.block, ad.off + 1, none⟩ = some (.int .u8 255) := by simpa [Addr.add] using k _ _ (HC.out 1 (.int .u8 255) rfl)
  have e2 : w2.cell? ad2 = some (.int .i64 (-2)) := by simpa [Addr.add] using hcell2 0 (.int .i64 (-2)) rfl
  have HB2 := Lib.hid hb2
  clear hg ho2 ho3 hs2 hs3 hb2 hcell2 k
  go_wp2_with fail
  go_ret
  exact ⟨rfl, (below_new w _).trans ((HB1.out.trans (HB2.out.mono HB1.out.size)).mono (by simp))⟩

set_option maxHeartbeats 800000 in
theorem sameInts_any (va vb : Value) (a b : List Int) (w : World) (ha : Ns w (fun _ => True) va a) (hb : Ns w (fun _ => True) vb b) :
    Calls Try.prog 16 #[va, vb] w fun e w' => e = .returned (.bool (decide (a = b))) ∧ Below w.heap.size w w' := by
  obtain ⟨A, c, rfl, hc1, hc2, _, hc⟩ := ha
  obtain ⟨A', c', rfl, hc1', hc2', _, hc'⟩ := hb
  unfold maxLen at hc2 hc2'
  have HC := Lib.hid hc
  have HC' := Lib.hid hc'
  clear hc hc'
  by_cases hl : a.length = b.length
  · have HL := Lib.hid hl
    generalize hM : b.length = M at *
    generalize hN : a.length = N at *
    have HM := Lib.hid hM
    have HN := Lib.hid hN
    subst hl
    clear hM hN
    go_enter Try.func16, Try.ntmps16
    go_wp2_with fail
    go_loopw [5, 13] (fun _ i wr => ∃ j : Nat, j ≤ N ∧ i = .int .i64 (j : Int) ∧ Hid (a.take j = b.take j) ∧ Hid (Below w.heap.size w wr)) (fun _ i _ => N - (intOf i).toNat)
    case atStart => exact ⟨0, by omega, rfl, Lib.hid rfl, Lib.hid (Below.refl _ _)⟩
    case round =>
      obtain ⟨j, hj, rfl, HEQ, HBE⟩ := hrel
      by_cases hlt : j < N
      · obtain ⟨x, hx⟩ : ∃ x, a[j]? = some x := ⟨_, List.getElem?_eq_getElem (by rw [HN.out]; exact hlt)⟩
        obtain ⟨y, hy⟩ : ∃ y, b[j]? = some y := ⟨_, List.getElem?_eq_getElem (by rw [HM.out]; exact hlt)⟩
        obtain ⟨ad, rfl, k1⟩ := cell_at (HC.out.below HBE.out) (nints_at hx)
        obtain ⟨ad', rfl, k2⟩ := cell_at (HC'.out.below HBE.out) (nints_at hy)
        have hlt' : (j : Int) < (N : Int) := by omega
        have HX := Lib.hid (And.intro hx hy)
        clear hx hy
        by_cases hxy : x = y
        · subst hxy
          have HEQ' := Lib.hid (show a.take (j + 1) = b.take (j + 1) by rw [List.take_add_one, List.take_add_one, HEQ.out, HX.out.1, HX.out.2])
          go_wp2_with fail
          go_quiet (fail)
          go_wp2_with fail
          go_roundw
          case rel => exact ⟨j + 1, by omega, by go_num, HEQ', Lib.hid (below_drewN HBE.out _)⟩
          case measure => simp [intOf]; omega
        · have HD := Lib.hid (show a ≠ b from fun h => by
            subst h
            have := HX.out.1.symm.trans HX.out.2
            injection this with this
            exact hxy this)
          have t1 : (x != y) = true := by simpa using hxy
          clear hxy
          go_wp2_with fail
          go_quiet (fail)
          go_wp2_with fail
          go_ret
          exact ⟨ret_bool (by simp [HD.out]), below_drewN HBE.out _⟩
      · obtain rfl : j = N := by omega
        have HE := Lib.hid (show a = b by
          have h := HEQ.out
          rwa [List.take_of_length_le (by rw [HN.out]; exact Nat.le_refl _), List.take_of_length_le (by rw [HM.out]; exact Nat.le_refl _)] at h)
        go_wp2_with fail
        go_ret
        exact ⟨ret_bool (by simp [HE.out]), HBE.out⟩
  · have HD := Lib.hid (show a ≠ b from fun h => hl (by rw [h]))
    have t1 : decide (a.length = b.length) = false := decide_eq_false hl
    generalize b.length = M at *
    generalize a.length = N at *
    have t2 : ((N : Int) != (M : Int)) = true := by simp; omega
    clear hl t1
    go_enter Try.func16, Try.ntmps16
    go_wp2_with fail
    go_ret
    exact ⟨ret_bool (by simp [HD.out]), Below.refl _ _⟩

end Go.Proofs.Ytndccdoohmgmlab
