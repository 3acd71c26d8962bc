/- The law TwistPlain, walked. -/
import Derived.Test.Ytjohknpjkcbjlaa7L
namespace Go.Proofs.Ytjohknpjkcbjlaa
open Go.RowKit Pk Vc Tw

theorem turn_plain {v : List Int} (h : okV v = true) : turn v 0 = (v, 0) ∧ turn v 3074457345618258602 = (trn 31 (twos 31) v, 0) := by
  have e2 : (3074457345618258602 : Int) = ((twos 31 : Nat) : Int) := by decide
  refine ⟨?_, by rw [e2, turn_ok h (by decide)]⟩
  have := turn_ok (n := 0) h (by decide)
  rwa [trn_none] at this

set_option maxRecDepth 10000 in
set_option maxHeartbeats 4000000 in
theorem twistPlain_any (va : Value) (v : List Int) (w : World) (ha : Vs w (fun _ => True) va v) (sa : Small v) :
    Calls Try.prog 8 #[va] w (True_ w) := by
  have HLIVE := Lib.hid (live5_any w)
  have H1 := Lib.hid (fun W (h : Below w.heap.size w W) => turn_any va v 0 W (ha.below h) sa)
  have H2 := Lib.hid (fun W (h : Below w.heap.size w W) => turn_any va v 3074457345618258602 W (ha.below h) sa)
  have HA := Lib.hid ha
  obtain ⟨A, c, rfl, hc1, hc2, _⟩ := ha
  unfold maxLen at hc2
  by_cases hlen : (500 : Int) < (v.length : Int)
  · clear H1 H2 HA sa
    generalize v.length = M at *
    go_enter Try.func8, Try.ntmps8
    go_wp2_with fail
    refine HLIVE.out.mono ?_
    rintro e w1 ⟨rfl, hb1⟩
    have HB1 := Lib.hid hb1
    clear hb1
    go_wp2_with fail
    go_ret
    exact ⟨rfl, HB1.out⟩
  · have g1 : v.length ≤ 500 := by omega
    clear hlen
    cases ho : okV v
    · rw [turn_no (.inl ho)] at H1 H2
      clear HA ho sa
      generalize v.length = M at *
      go_enter Try.func8, Try.ntmps8
      go_wp2_with fail
      refine HLIVE.out.mono ?_
      rintro e w1 ⟨rfl, hb1⟩
      have HB1 := Lib.hid hb1
      clear hb1
      go_wp2_with fail
      refine (H1.out _ HB1.out).mono ?_
      intro e w2 hg
      obtain ⟨A2, c2, rfl, -, -, hb2⟩ := gives_vz hg
      clear hg
      have HB2 := Lib.hid (HB1.out.trans (hb2.mono HB1.out.size))
      clear hb2
      go_wp2_with fail
      refine (H2.out _ HB2.out).mono ?_
      intro e w3 hg
      obtain ⟨A3, c3, rfl, -, -, hb3⟩ := gives_vz hg
      clear hg
      have HB3 := Lib.hid (HB2.out.trans (hb3.mono HB2.out.size))
      clear hb3
      go_wp2_with fail
      go_ret
      exact ⟨rfl, HB3.out⟩
    · rw [(turn_plain ho).1] at H1
      rw [(turn_plain ho).2] at H2
      have HIN := Lib.hid (low_in ho sa)
      have HTW := Lib.hid (trn_twos 31 v)
      have htl := trn_length 31 (twos 31) v
      clear ho sa
      generalize trn 31 (twos 31) v = t at *
      generalize hM : v.length = M at *
      generalize hT : t.length = N at *
      subst htl
      have HM := Lib.hid hM
      have HT := Lib.hid hT
      clear hM hT
      go_enter Try.func8, Try.ntmps8
      go_wp2_with fail
      refine HLIVE.out.mono ?_
      rintro e w1 ⟨rfl, hb1⟩
      have HB1 := Lib.hid hb1
      clear hb1
      go_wp2_with fail
      refine (H1.out _ HB1.out).mono ?_
      intro e w2 hg
      obtain ⟨A2, c2, rfl, -, hs2, hb2⟩ := gives_vz hg
      rw [HM.out] at hs2 ⊢
      clear hg
      have HS2 := Lib.hid hs2
      have HB2 := Lib.hid (HB1.out.trans (hb2.mono HB1.out.size))
      clear hb2 hs2
      go_wp2_with fail
      refine (H2.out _ HB2.out).mono ?_
      intro e w3 hg
      obtain ⟨A3, c3, rfl, -, hs3, hb3⟩ := gives_vz hg
      rw [HT.out] at hs3 ⊢
      clear hg
      have HS2 := Lib.hid (HS2.out.below hb3)
      have HS3 := Lib.hid hs3
      have HB3 := Lib.hid (HB2.out.trans (hb3.mono HB2.out.size))
      clear hb3 hs3
      go_wp2_with fail
      refine (same_any _ _ v v _ HS2.out (HA.out.below HB3.out)).mono ?_
      rw [decide_eq_true rfl]
      rintro e w4 ⟨rfl, hb4⟩
      have HS2 := Lib.hid (HS2.out.below hb4)
      have HS3 := Lib.hid (HS3.out.below hb4)
      have HB4 := Lib.hid (HB3.out.trans (hb4.mono HB3.out.size))
      clear hb4
      have HC := Lib.hid (HA.out.below HB4.out).cells
      have HC3 := Lib.hid HS3.out.cells
      go_wp2_with fail
      go_loop [8, 9, 10, 58] (fun _ _ _ i => ∃ j : Nat, j ≤ N ∧ i = .int .i64 (j : Int)) (fun _ _ _ i => N - (intOf i).toNat)
      case atStart => exact ⟨0, by omega, rfl⟩
      case round =>
        obtain ⟨j, hj, rfl⟩ := hrel
        by_cases hlt : j < N
        · obtain ⟨x, hx⟩ : ∃ x, v[j]? = some x := ⟨_, List.getElem?_eq_getElem (by rw [HM.out]; exact hlt)⟩
          obtain ⟨ad, rfl, k1⟩ := cell_at HC.out (nshorts_at hx)
          obtain ⟨ad2, rfl, k2⟩ := cell_at HC3.out (nshorts_at (HTW.out j x hx))
          have bx := HIN.out x (List.mem_of_getElem? hx)
          clear hx
          have h6 : j < 2 * 31 ↔ (j : Int) < 62 := by omega
          by_cases ht : j < 62
          · by_cases hu : j / 2 * 2 + 1 < N
            · rw [if_pos ⟨by omega, hu⟩] at k2
              have u1 : (j : Int) < 62 := by omega
              have u2 : (j : Int) / 2 * 2 + 1 < (N : Int) := by omega
              clear h6
              go_wp2_with fail
              go_round
              case rel => exact ⟨j + 1, by omega, by go_num⟩
              case measure => simp [intOf]; omega
            · rw [if_neg (fun h => hu h.2)] at k2
              have u1 : (j : Int) < 62 := by omega
              have u2 : ¬ (j : Int) / 2 * 2 + 1 < (N : Int) := by omega
              clear h6
              go_wp2_with fail
              go_round
              case rel => exact ⟨j + 1, by omega, by go_num⟩
              case measure => simp [intOf]; omega
          · rw [if_neg (fun h => ht (by have := h.1; omega))] at k2
            have u1 : ¬ (j : Int) < 62 := by omega
            clear h6
            go_wp2_with fail
            go_round
            case rel => exact ⟨j + 1, by omega, by go_num⟩
            case measure => simp [intOf]; omega
        · obtain rfl : j = N := by omega
          go_wp2_with fail
          go_ret
          exact ⟨rfl, HB4.out⟩

end Go.Proofs.Ytjohknpjkcbjlaa
