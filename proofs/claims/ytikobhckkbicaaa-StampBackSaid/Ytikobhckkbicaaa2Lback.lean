/- The law StampBack, walked. -/
import Derived.Test.Ytikobhckkbicaaa2Lnew
namespace Go.Proofs.Ytikobhckkbicaaa
open Go.RowKit Sk

set_option maxRecDepth 10000 in
set_option maxHeartbeats 2000000 in
theorem stampBack_any (vp : Value) (p : List UInt8) (n g a g' a' : Int) (w : World) (hp : Bs w (fun _ => True) vp p) :
    Calls Try.prog 11 #[.int .i64 n, vp, .int .i64 g, .int .i64 a, .int .i64 g', .int .i64 a'] w (True_ w) := by
  have HP := Lib.hid hp
  obtain ⟨A', c', rfl, hc1', hc2', _⟩ := hp
  unfold maxLen at hc2'
  have HSE := Lib.hid (fun W (hw : Below w.heap.size w W) => seal_any n _ p W (HP.out.below hw))
  by_cases hl : (200 : Int) < p.length
  · have t1 : decide (200 < (p.length : Int)) = true := by simpa using hl
    generalize p.length = M at *
    go_enter Try.func11, Try.ntmps11
    go_wp2_with fail
    refine (live2_any _).mono ?_
    rintro e w1 ⟨rfl, hb1⟩
    have HB1 := Lib.hid hb1
    clear hb1
    go_wp2_with fail
    go_ret
    exact ⟨rfl, HB1.out⟩
  · have t1 : decide (200 < (p.length : Int)) = false := by simp; omega
    have key : (∃ k, (k == (0 : Int)) = false ∧ seal_ n p = ([], k)) ∨ (isSt n = true ∧ p.length ≤ 16) := by
      cases h1 : isSt n
      · exact .inl ⟨1, by decide, seal_arg h1⟩
      · by_cases h2 : p.length ≤ 16
        · exact .inr ⟨rfl, h2⟩
        · exact .inl ⟨3, by decide, seal_long h1 (by omega)⟩
    rcases key with ⟨k, tk, hse⟩ | ⟨hs, hl2⟩
    · have HSEQ := Lib.hid hse
      clear hse hl
      generalize p.length = M at *
      go_enter Try.func11, Try.ntmps11
      go_wp2_with fail
      refine (live2_any _).mono ?_
      rintro e w1 ⟨rfl, hb1⟩
      have HB1 := Lib.hid hb1
      clear hb1
      go_wp2_with fail
      refine (HSE.out _ HB1.out).mono ?_
      rw [HSEQ.out]
      intro e w2 hg
      obtain ⟨A2, c2, rfl, hs2, hb2⟩ := gives_re hg
      have HB := Lib.hid (HB1.out.trans (hb2.mono HB1.out.size))
      clear hg hs2 hb2 HB1
      go_wp2_with fail
      generalize w2 = wx at *
      have HP1 := Lib.hid (fun W => pair_any g a W)
      have HP2 := Lib.hid (fun W => pair_any g' a' W)
      rcases pair_cases g a with q1 | ⟨q1, q2, g1, g2, a1, a2⟩
      · rw [q1] at HP1
        clear q1
        refine (HP1.out _).mono ?_
        rintro e w9 ⟨rfl, rfl⟩
        go_wp2_with fail
        refine (HP2.out _).mono ?_
        rintro e w9 ⟨rfl, rfl⟩
        go_wp2_with fail
        go_ret
        exact ⟨rfl, HB.out⟩
      · rw [q1] at HP1
        rcases pair_cases g' a' with q1' | ⟨q1', _, g1', g2', a1', a2'⟩
        · rw [q1'] at HP2
          clear q1 q1' q2
          refine (HP1.out _).mono ?_
          rintro e w9 ⟨rfl, rfl⟩
          go_wp2_with fail
          refine (HP2.out _).mono ?_
          rintro e w9 ⟨rfl, rfl⟩
          go_wp2_with fail
          go_ret
          exact ⟨rfl, HB.out⟩
        · rw [q1'] at HP2
          have HPT := Lib.hid (fun W => part_any (g * 1048576 + a) W (by omega) (by omega))
          rw [q2] at HPT
          clear q1 q1' q2
          refine (HP1.out _).mono ?_
          rintro e w9 ⟨rfl, rfl⟩
          go_wp2_with fail
          refine (HP2.out _).mono ?_
          rintro e w9 ⟨rfl, rfl⟩
          go_wp2_with fail
          refine (HPT.out _).mono ?_
          rintro e w9 ⟨rfl, rfl⟩
          have key : (g = g' ∧ a = a') ∨ (g = g' ∧ (a == a') = false ∧ (g * 1048576 + a == g' * 1048576 + a') = false) ∨ (g < g' ∧ (g == g') = false ∧ (g * 1048576 + a == g' * 1048576 + a') = false ∧ g * 1048576 + a < g' * 1048576 + a') ∨ (g' < g ∧ (g == g') = false ∧ (g * 1048576 + a == g' * 1048576 + a') = false) := by
            by_cases k1 : g = g'
            · by_cases k2 : a = a'
              · exact .inl ⟨k1, k2⟩
              · exact .inr (.inl ⟨k1, by simpa using k2, by simp; omega⟩)
            · by_cases k3 : g < g'
              · exact .inr (.inr (.inl ⟨k3, by simpa using k1, by simp; omega, by omega⟩))
              · exact .inr (.inr (.inr ⟨by omega, by simpa using k1, by simp; omega⟩))
          rcases key with ⟨rfl, rfl⟩ | ⟨rfl, k2, k3⟩ | ⟨k1, k2, k3, k4⟩ | ⟨k1, k2, k3⟩
          all_goals
            go_wp2_with fail
            go_ret
            first
              | exact ⟨rfl, HB.out⟩
              | exact ⟨ret_bool (a := decide (g * 1048576 + a ≤ 4611686018427387904)) (decide_eq_true (by omega)), HB.out⟩
    · obtain ⟨Y, hY⟩ : ∃ Y, Y = mk n ++ body p ++ mk n := ⟨_, rfl⟩
      have hyl : Y.length = 32 := by rw [hY]; simp [mk_length, body_length hl2]
      have HSEQ := Lib.hid (show seal_ n p = (Y, 0) by rw [hY]; exact seal_ok hs hl2)
      have HYL := Lib.hid hyl
      have HOP := Lib.hid (show opens Y = (n, body p, 0) by rw [hY]; exact opens_sealed hs (body_length hl2))
      have HBL := Lib.hid (body_length hl2)
      have HBT := Lib.hid (show (body p).take p.length = p by rw [body, List.take_left])
      have HBZ := Lib.hid (show ∀ j, j < 16 - p.length → (body p)[p.length + j]? = some 0 from fun j hj => by
        rw [body, List.getElem?_append_right (by omega), Nat.add_sub_cancel_left, zeros, List.getElem?_replicate, if_pos hj])
      clear hyl hY hl hs
      generalize p.length = M at *
      go_enter Try.func11, Try.ntmps11
      go_wp2_with fail
      refine (live2_any _).mono ?_
      rintro e w1 ⟨rfl, hb1⟩
      have HB1 := Lib.hid hb1
      clear hb1
      go_wp2_with fail
      refine (HSE.out _ HB1.out).mono ?_
      rw [HSEQ.out]
      intro e w2 hg
      obtain ⟨A2, c2, rfl, hs2, hb2⟩ := gives_re hg
      rw [HYL.out] at hs2 ⊢
      have HB2 := Lib.hid (HB1.out.trans (hb2.mono HB1.out.size))
      have HS2 := Lib.hid hs2
      clear hg hs2 hb2
      go_wp2_with fail
      refine (open_any _ Y w2 HS2.out).mono ?_
      rw [HOP.out]
      intro e w3 hg
      obtain ⟨A3, c3, rfl, hs3, hb3⟩ := gives_o hg
      rw [HBL.out] at hs3 ⊢
      have HB3 := Lib.hid (HB2.out.trans (hb3.mono HB2.out.size))
      obtain ⟨ad, rfl⟩ := hs3.some_ (by omega)
      have hc3 := hs3.caps.2
      have x1 := run_text_drewN (hs3.upto_ (j := M) (by omega))
      have x2 := run_text_drewN (HP.out.below HB3.out)
      rw [HBT.out] at x1
      have y1 : (M : Int) ≤ c3 := by omega
      have y2 : (M : Int) ≤ 16 := by omega
      have HS3 := Lib.hid hs3
      clear hg hs3 hb3
      go_wp2_with fail
      go_quiet (fail)
      have HB := Lib.hid (below_drewN HB3.out nq)
      have HS3 := Lib.hid (show Bs (w3.drewN nq) _ _ _ from HS3.out.keep (w' := w3.drewN nq) fun _ _ _ => rfl)
      generalize w3.drewN nq = wx at *
      clear x1 x2 HS2 HB1 HB2 HB3
      by_cases hcm : c3 = M
      · obtain rfl : M = 16 := by omega
        subst hcm
        go_wp2_with fail
        go_loop [81] (fun i => i = .int .i64 0) (fun _ => 0)
        case atStart => exact rfl
        case round =>
          subst hrel
          go_wp2_with fail
          have HP1 := Lib.hid (fun W => pair_any g a W)
          have HP2 := Lib.hid (fun W => pair_any g' a' W)
          rcases pair_cases g a with q1 | ⟨q1, q2, g1, g2, a1, a2⟩
          · rw [q1] at HP1
            clear q1
            refine (HP1.out _).mono ?_
            rintro e w9 ⟨rfl, rfl⟩
            go_wp2_with fail
            refine (HP2.out _).mono ?_
            rintro e w9 ⟨rfl, rfl⟩
            go_wp2_with fail
            go_ret
            exact ⟨rfl, HB.out⟩
          · rw [q1] at HP1
            rcases pair_cases g' a' with q1' | ⟨q1', _, g1', g2', a1', a2'⟩
            · rw [q1'] at HP2
              clear q1 q1' q2
              refine (HP1.out _).mono ?_
              rintro e w9 ⟨rfl, rfl⟩
              go_wp2_with fail
              refine (HP2.out _).mono ?_
              rintro e w9 ⟨rfl, rfl⟩
              go_wp2_with fail
              go_ret
              exact ⟨rfl, HB.out⟩
            · rw [q1'] at HP2
              have HPT := Lib.hid (fun W => part_any (g * 1048576 + a) W (by omega) (by omega))
              rw [q2] at HPT
              clear q1 q1' q2
              refine (HP1.out _).mono ?_
              rintro e w9 ⟨rfl, rfl⟩
              go_wp2_with fail
              refine (HP2.out _).mono ?_
              rintro e w9 ⟨rfl, rfl⟩
              go_wp2_with fail
              refine (HPT.out _).mono ?_
              rintro e w9 ⟨rfl, rfl⟩
              have key : (g = g' ∧ a = a') ∨ (g = g' ∧ (a == a') = false ∧ (g * 1048576 + a == g' * 1048576 + a') = false) ∨ (g < g' ∧ (g == g') = false ∧ (g * 1048576 + a == g' * 1048576 + a') = false ∧ g * 1048576 + a < g' * 1048576 + a') ∨ (g' < g ∧ (g == g') = false ∧ (g * 1048576 + a == g' * 1048576 + a') = false) := by
                by_cases k1 : g = g'
                · by_cases k2 : a = a'
                  · exact .inl ⟨k1, k2⟩
                  · exact .inr (.inl ⟨k1, by simpa using k2, by simp; omega⟩)
                · by_cases k3 : g < g'
                  · exact .inr (.inr (.inl ⟨k3, by simpa using k1, by simp; omega, by omega⟩))
                  · exact .inr (.inr (.inr ⟨by omega, by simpa using k1, by simp; omega⟩))
              rcases key with ⟨rfl, rfl⟩ | ⟨rfl, k2, k3⟩ | ⟨k1, k2, k3, k4⟩ | ⟨k1, k2, k3⟩
              all_goals
                go_wp2_with fail
                go_ret
                first
                  | exact ⟨rfl, HB.out⟩
                  | exact ⟨ret_bool (a := decide (g * 1048576 + a ≤ 4611686018427387904)) (decide_eq_true (by omega)), HB.out⟩
      · have HC : Hid (∀ j, j < 16 - M → wx.cell? ((ad.add M).add j) = some (.int .u8 0)) := Lib.hid fun j hj => by
          obtain ⟨A, c, he, _, _, _, hc⟩ := HS3.out
          injection he with e1 e2 e3
          subst e1
          obtain ⟨ad', e, _, hcell⟩ := hc (by rw [octets_length, HBL.out]; omega)
          injection e with e
          subst e
          rw [add_add]
          exact hcell _ _ (octets_at (x := 0) (HBZ.out j hj))
        clear HBT HBZ
        go_wp2_with fail
        go_loop [81] (fun i => ∃ k : Nat, k ≤ 16 - M ∧ i = .int .i64 (k : Int)) (fun i => 16 - M - (intOf i).toNat)
        case atStart => exact ⟨0, by omega, rfl⟩
        case round =>
          obtain ⟨k, hk, rfl⟩ := hrel
          by_cases hlt : k < 16 - M
          · have hc := HC.out k hlt
            go_wp2_with fail
            go_round
            case rel => exact ⟨k + 1, by omega, by go_num⟩
            case measure => simp [intOf]; omega
          · go_wp2_with fail
            have HP1 := Lib.hid (fun W => pair_any g a W)
            have HP2 := Lib.hid (fun W => pair_any g' a' W)
            rcases pair_cases g a with q1 | ⟨q1, q2, g1, g2, a1, a2⟩
            · rw [q1] at HP1
              clear q1
              refine (HP1.out _).mono ?_
              rintro e w9 ⟨rfl, rfl⟩
              go_wp2_with fail
              refine (HP2.out _).mono ?_
              rintro e w9 ⟨rfl, rfl⟩
              go_wp2_with fail
              go_ret
              exact ⟨rfl, HB.out⟩
            · rw [q1] at HP1
              rcases pair_cases g' a' with q1' | ⟨q1', _, g1', g2', a1', a2'⟩
              · rw [q1'] at HP2
                clear q1 q1' q2
                refine (HP1.out _).mono ?_
                rintro e w9 ⟨rfl, rfl⟩
                go_wp2_with fail
                refine (HP2.out _).mono ?_
                rintro e w9 ⟨rfl, rfl⟩
                go_wp2_with fail
                go_ret
                exact ⟨rfl, HB.out⟩
              · rw [q1'] at HP2
                have HPT := Lib.hid (fun W => part_any (g * 1048576 + a) W (by omega) (by omega))
                rw [q2] at HPT
                clear q1 q1' q2
                refine (HP1.out _).mono ?_
                rintro e w9 ⟨rfl, rfl⟩
                go_wp2_with fail
                refine (HP2.out _).mono ?_
                rintro e w9 ⟨rfl, rfl⟩
                go_wp2_with fail
                refine (HPT.out _).mono ?_
                rintro e w9 ⟨rfl, rfl⟩
                have key : (g = g' ∧ a = a') ∨ (g = g' ∧ (a == a') = false ∧ (g * 1048576 + a == g' * 1048576 + a') = false) ∨ (g < g' ∧ (g == g') = false ∧ (g * 1048576 + a == g' * 1048576 + a') = false ∧ g * 1048576 + a < g' * 1048576 + a') ∨ (g' < g ∧ (g == g') = false ∧ (g * 1048576 + a == g' * 1048576 + a') = false) := by
                  by_cases k1 : g = g'
                  · by_cases k2 : a = a'
                    · exact .inl ⟨k1, k2⟩
                    · exact .inr (.inl ⟨k1, by simpa using k2, by simp; omega⟩)
                  · by_cases k3 : g < g'
                    · exact .inr (.inr (.inl ⟨k3, by simpa using k1, by simp; omega, by omega⟩))
                    · exact .inr (.inr (.inr ⟨by omega, by simpa using k1, by simp; omega⟩))
                rcases key with ⟨rfl, rfl⟩ | ⟨rfl, k2, k3⟩ | ⟨k1, k2, k3, k4⟩ | ⟨k1, k2, k3⟩
                all_goals
                  go_wp2_with fail
                  go_ret
                  first
                    | exact ⟨rfl, HB.out⟩
                    | exact ⟨ret_bool (a := decide (g * 1048576 + a ≤ 4611686018427387904)) (decide_eq_true (by omega)), HB.out⟩

end Go.Proofs.Ytikobhckkbicaaa
