/- Contracts: texts compared; first. -/
import Derived.Test.Ytndccdoohmgmlab4Y
import Derived.Test.Ytndccdoohmgmlab4Lwidths
import Derived.Test.Ytndccdoohmgmlab4Lback
namespace Go.Proofs.Ytndccdoohmgmlab
open Go.RowKit Pk

set_option maxHeartbeats 1000000 in
theorem sameTexts_any (va vb : Value) (a b : List (List UInt8)) (w : World) (ha : Ts w (fun _ => True) va a) (hb : Ts w (fun _ => True) vb b) :
    Calls Try.prog 23 #[va, vb] w fun e w' => e = .returned (.bool (decide (a = b))) ∧ Below w.heap.size w w' := by
  have HA := Lib.hid ha
  have HB := Lib.hid hb
  obtain ⟨A, c, xs, rfl, hc1, hc2, _⟩ := ha
  obtain ⟨A', c', ys, rfl, hc1', hc2', _⟩ := hb
  unfold maxLen at hc2 hc2'
  by_cases hl : a.length = b.length
  · have HL := Lib.hid hl
    generalize hM : b.length = M at *
    generalize hN : a.length = N at *
    have HM := Lib.hid hM
    have HN := Lib.hid hN
    subst hl
    clear hM hN
    go_enter Try.func23, Try.ntmps23
    go_wp2_with fail
    go_loopw [5, 13] (fun _ i wr => ∃ j : Nat, j ≤ N ∧ i = .int .i64 (j : Int) ∧ Hid (a.take j = b.take j) ∧ Hid (Below w.heap.size w wr)) (fun _ i _ => N - (intOf i).toNat)
    case atStart => exact ⟨0, by omega, rfl, Lib.hid rfl, Lib.hid (Below.refl _ _)⟩
    case round =>
      obtain ⟨j, hj, rfl, HEQ, HBE⟩ := hrel
      by_cases hlt : j < N
      · obtain ⟨x, hx⟩ : ∃ x, a[j]? = some x := ⟨_, List.getElem?_eq_getElem (by rw [HN.out]; exact hlt)⟩
        obtain ⟨y, hy⟩ : ∃ y, b[j]? = some y := ⟨_, List.getElem?_eq_getElem (by rw [HM.out]; exact hlt)⟩
        obtain ⟨ad, B, d, rfl, k1, b1⟩ := (HA.out.below HBE.out).at_ hx
        obtain ⟨ad', B', d', rfl, k2, b2⟩ := (HB.out.below HBE.out).at_ hy
        have x1 := run_text_drewn b1
        have x2 := run_text_drewn b2
        have hlt' : (j : Int) < (N : Int) := by omega
        have HX := Lib.hid (And.intro hx hy)
        clear hx hy b1 b2
        by_cases hxy : x = y
        · subst hxy
          have HEQ' := Lib.hid (show a.take (j + 1) = b.take (j + 1) by rw [List.take_add_one, List.take_add_one, HEQ.out, HX.out.1, HX.out.2])
          go_wp2_with fail
          go_quiet (fail)
          go_wp2_with fail
          go_roundw
          case rel => exact ⟨j + 1, by omega, by go_num, HEQ', Lib.hid (below_drewN HBE.out _)⟩
          case measure => simp [intOf]; omega
        · have HD := Lib.hid (show a ≠ b from fun h => by
            subst h
            have := HX.out.1.symm.trans HX.out.2
            injection this with this
            exact hxy this)
          have t1 : (x == y) = false := by simpa using hxy
          clear hxy
          go_wp2_with fail
          go_quiet (fail)
          go_wp2_with fail
          go_ret
          exact ⟨ret_bool (by simp [HD.out]), below_drewN HBE.out _⟩
      · obtain rfl : j = N := by omega
        have HE := Lib.hid (show a = b by
          have h := HEQ.out
          rwa [List.take_of_length_le (by rw [HN.out]; exact Nat.le_refl _), List.take_of_length_le (by rw [HM.out]; exact Nat.le_refl _)] at h)
        go_wp2_with fail
        go_ret
        exact ⟨ret_bool (by simp [HE.out]), HBE.out⟩
  · have HD := Lib.hid (show a ≠ b from fun h => hl (by rw [h]))
    generalize b.length = M at *
    generalize a.length = N at *
    have t2 : ((N : Int) != (M : Int)) = true := by simp; omega
    clear hl
    go_enter Try.func23, Try.ntmps23
    go_wp2_with fail
    go_ret
    exact ⟨ret_bool (by simp [HD.out]), Below.refl _ _⟩

end Go.Proofs.Ytndccdoohmgmlab
