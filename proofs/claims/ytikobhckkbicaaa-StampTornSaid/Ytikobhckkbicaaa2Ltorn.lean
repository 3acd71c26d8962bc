/- The law StampTorn, walked. -/
import Derived.Test.Ytikobhckkbicaaa2Lnew
namespace Go.Proofs.Ytikobhckkbicaaa
open Go.RowKit Sk

set_option maxHeartbeats 1000000 in
theorem stampTorn_any (vo vp : Value) (o p : List UInt8) (a b : Int) (many : Int) (w : World) (ho : Bs w (fun _ => True) vo o) (hp : Bs w (fun _ => True) vp p) :
    Calls Try.prog 12 #[.int .i64 a, .int .i64 b, vo, vp, .int .i64 many] w (True_ w) := by
  have HO := Lib.hid ho
  have HP := Lib.hid hp
  obtain ⟨A, c, rfl, hc1, hc2, _⟩ := ho
  obtain ⟨A', c', rfl, hc1', hc2', _⟩ := hp
  unfold maxLen at hc2 hc2'
  have HS1 := Lib.hid (fun W (hw : Below w.heap.size w W) => seal_any a _ o W (HO.out.below hw))
  have HS2 := Lib.hid (fun W (hw : Below w.heap.size w W) => seal_any b _ p W (HP.out.below hw))
  by_cases hl : o.length ≤ 200 ∧ p.length ≤ 200 ∧ a ≠ b
  · obtain ⟨hl1, hl2, hab⟩ := hl
    have t1 : decide (200 < (o.length : Int)) = false := by simp; omega
    have t2 : decide (200 < (p.length : Int)) = false := by simp; omega
    have t3 : (a == b) = false := by simpa using hab
    by_cases hs : (isSt a = true ∧ o.length ≤ 16) ∧ (isSt b = true ∧ p.length ≤ 16) ∧ 0 ≤ many ∧ many ≤ 32
    · obtain ⟨⟨ha, ha'⟩, ⟨hb, hb'⟩, h3, h4⟩ := hs
      obtain ⟨k, rfl⟩ : ∃ k : Nat, many = (k : Int) := ⟨many.toNat, by omega⟩
      obtain ⟨X, hX⟩ : ∃ X, X = mk a ++ body o ++ mk a := ⟨_, rfl⟩
      obtain ⟨Y, hY⟩ : ∃ Y, Y = mk b ++ body p ++ mk b := ⟨_, rfl⟩
      have hxl : X.length = 32 := by rw [hX]; simp [mk_length, body_length ha']
      have hyl : Y.length = 32 := by rw [hY]; simp [mk_length, body_length hb']
      have hsx : seal_ a o = (X, 0) := by rw [hX]; exact seal_ok ha ha'
      have hsy : seal_ b p = (Y, 0) := by rw [hY]; exact seal_ok hb hb'
      have hox : opens X = (a, body o, 0) := by rw [hX]; exact opens_sealed ha (body_length ha')
      have hoy : opens Y = (b, body p, 0) := by rw [hY]; exact opens_sealed hb (body_length hb')
      have hmx := mix_ok hxl hyl h3 h4
      rw [Int.toNat_natCast] at hmx
      have hzl := mix_length (k := k) hxl hyl (by omega)
      have htn := torn (k := k) ha hb hab (body_length ha') (body_length hb') (by omega)
      rw [← hX, ← hY] at htn
      obtain ⟨Z, hZ⟩ : ∃ Z, Z = Y.take k ++ X.drop k := ⟨_, rfl⟩
      rw [← hZ] at hmx hzl htn
      have hxb : (X.drop 8).take 16 = body o := by
        rw [hX, List.append_assoc, show 8 = (mk a).length from (mk_length a).symm, List.drop_left, ← body_length ha', List.take_left]
      have hyb : (Y.drop 8).take 16 = body p := by
        rw [hY, List.append_assoc, show 8 = (mk b).length from (mk_length b).symm, List.drop_left, ← body_length hb', List.take_left]
      have key : (Z = X ∧ opens Z = (a, body o, 0)) ∨ (Z ≠ X ∧ Z = Y ∧ opens Z = (b, body p, 0)) ∨ (Z ≠ X ∧ Z ≠ Y ∧ opens Z = (0, [], 8)) := by
        by_cases z1 : Z = X
        · exact .inl ⟨z1, by rw [z1, hox]⟩
        · by_cases z2 : Z = Y
          · exact .inr (.inl ⟨z1, z2, by rw [z2, hoy]⟩)
          · rcases htn with h | h | h
            · exact absurd h z1
            · exact absurd h z2
            · exact .inr (.inr ⟨z1, z2, h⟩)
      have HSX := Lib.hid hsx
      have HSY := Lib.hid hsy
      have HMX := Lib.hid hmx
      have HXL := Lib.hid hxl
      have HYL := Lib.hid hyl
      have HZL := Lib.hid hzl
      have HXB := Lib.hid hxb
      have HYB := Lib.hid hyb
      have HBO := Lib.hid (body_length ha')
      have HBP := Lib.hid (body_length hb')
      have KEY := Lib.hid key
      clear hX hY hZ hxl hyl hsx hsy hox hoy hmx hzl htn hxb hyb key ha hb hab
      generalize o.length = N at *
      generalize p.length = M at *
      go_enter Try.func12, Try.ntmps12
      go_wp2_with fail
      refine (live2_any _).mono ?_
      rintro e w1 ⟨rfl, hb1⟩
      have HB1 := Lib.hid hb1
      clear hb1
      go_wp2_with fail
      refine (HS1.out _ HB1.out).mono ?_
      rw [HSX.out]
      intro e w2 hg
      obtain ⟨A2, c2, rfl, hs2, hb2⟩ := gives_re hg
      rw [HXL.out] at hs2 ⊢
      have HB2 := Lib.hid (HB1.out.trans (hb2.mono HB1.out.size))
      obtain ⟨ad2, rfl⟩ := hs2.some_ (by omega)
      have hc2a := hs2.caps.2
      have HX2 := Lib.hid hs2
      clear hg hs2 hb2
      go_wp2_with fail
      refine (HS2.out _ HB2.out).mono ?_
      rw [HSY.out]
      intro e w3 hg
      obtain ⟨A3, c3, rfl, hs3, hb3⟩ := gives_re hg
      rw [HYL.out] at hs3 ⊢
      have HB3 := Lib.hid (HB2.out.trans (hb3.mono HB2.out.size))
      obtain ⟨ad3, rfl⟩ := hs3.some_ (by omega)
      have hc3a := hs3.caps.2
      have HX2 := Lib.hid (HX2.out.below hb3)
      have HY3 := Lib.hid hs3
      clear hg hs3 hb3
      go_wp2_with fail
      refine (mix_any _ _ X Y _ w3 HX2.out HY3.out).mono ?_
      rw [HMX.out]
      intro e w4 hg
      obtain ⟨A4, c4, rfl, hs4, hb4⟩ := gives_re hg
      rw [HZL.out] at hs4 ⊢
      have HB4 := Lib.hid (HB3.out.trans (hb4.mono HB3.out.size))
      have HX2 := Lib.hid (HX2.out.below hb4)
      have HY3 := Lib.hid (HY3.out.below hb4)
      have HZ4 := Lib.hid hs4
      clear hg hs4 hb4
      go_wp2_with fail
      have hop := open_any _ Z w4 HZ4.out
      have y1 : (24 : Int) ≤ c2 := by omega
      have y2 : ¬ c2 = 8 := by omega
      have y3 : (24 : Int) ≤ c3 := by omega
      have y4 : ¬ c3 = 8 := by omega
      rcases KEY.out with ⟨z1, e⟩ | ⟨z1, z2, e⟩ | ⟨z1, z2, e⟩
      · rw [e] at hop
        clear e
        refine hop.mono ?_
        intro e w5 hg
        obtain ⟨A5, c5, rfl, hs5, hb5⟩ := gives_o hg
        rw [HBO.out] at hs5 ⊢
        have HB5 := Lib.hid (HB4.out.trans (hb5.mono HB4.out.size))
        have x0 := run_text_drewN (HZ4.out.below hb5)
        have x1 := run_text_drewN (HX2.out.below hb5)
        have x2 := run_text_drewN (HY3.out.below hb5)
        have r0 := run_text (HZ4.out.below hb5)
        have r1 := run_text (HX2.out.below hb5)
        have r2 := run_text (HY3.out.below hb5)
        have x3 := run_text_drewN (((HX2.out.below hb5).from_ (i := 8) (by omega) (by omega)).upto_ (j := 16) (by omega))
        have x4 := run_text_drewN (((HY3.out.below hb5).from_ (i := 8) (by omega) (by omega)).upto_ (j := 16) (by omega))
        have x5 := run_text_drewN hs5
        rw [HXB.out] at x3
        rw [HYB.out] at x4
        clear hg hb5 hop hs5
        rw [z1] at x0 r0
        clear z1 x2 r2 x4
        go_wp2_with fail
        go_quiet (fail)
        go_wp2_with fail
        go_ret
        exact ⟨rfl, below_drewN HB5.out _⟩
      · rw [e] at hop
        clear e
        refine hop.mono ?_
        intro e w5 hg
        obtain ⟨A5, c5, rfl, hs5, hb5⟩ := gives_o hg
        rw [HBP.out] at hs5 ⊢
        have HB5 := Lib.hid (HB4.out.trans (hb5.mono HB4.out.size))
        have x0 := run_text_drewN (HZ4.out.below hb5)
        have x1 := run_text_drewN (HX2.out.below hb5)
        have x2 := run_text_drewN (HY3.out.below hb5)
        have r0 := run_text (HZ4.out.below hb5)
        have r1 := run_text (HX2.out.below hb5)
        have r2 := run_text (HY3.out.below hb5)
        have x3 := run_text_drewN (((HX2.out.below hb5).from_ (i := 8) (by omega) (by omega)).upto_ (j := 16) (by omega))
        have x4 := run_text_drewN (((HY3.out.below hb5).from_ (i := 8) (by omega) (by omega)).upto_ (j := 16) (by omega))
        have x5 := run_text_drewN hs5
        rw [HXB.out] at x3
        rw [HYB.out] at x4
        clear hg hb5 hop hs5
        have zz : (Y == X) = false := by rw [z2] at z1; simpa using z1
        rw [z2] at x0 r0
        clear z1 z2 x3
        go_wp2_with fail
        go_quiet (fail)
        go_wp2_with fail
        go_ret
        exact ⟨rfl, below_drewN HB5.out _⟩
      · rw [e] at hop
        clear e
        refine hop.mono ?_
        intro e w5 hg
        obtain ⟨A5, c5, rfl, hs5, hb5⟩ := gives_o hg
        have HB5 := Lib.hid (HB4.out.trans (hb5.mono HB4.out.size))
        have x0 := run_text_drewN (HZ4.out.below hb5)
        have x1 := run_text_drewN (HX2.out.below hb5)
        have x2 := run_text_drewN (HY3.out.below hb5)
        have r0 := run_text (HZ4.out.below hb5)
        have r1 := run_text (HX2.out.below hb5)
        have r2 := run_text (HY3.out.below hb5)
        have x3 := run_text_drewN (((HX2.out.below hb5).from_ (i := 8) (by omega) (by omega)).upto_ (j := 16) (by omega))
        have x4 := run_text_drewN (((HY3.out.below hb5).from_ (i := 8) (by omega) (by omega)).upto_ (j := 16) (by omega))
        have x5 := run_text_drewN hs5
        rw [HXB.out] at x3
        rw [HYB.out] at x4
        clear hg hb5 hop hs5
        have zz : (Z == X) = false := by simpa using z1
        have zy : (Z == Y) = false := by simpa using z2
        clear z1 z2 x3 x4 x5
        go_wp2_with fail
        go_ret
        exact ⟨rfl, HB5.out⟩
    · have key : ∃ X k1 Y k2 k3, seal_ a o = (X, k1) ∧ seal_ b p = (Y, k2) ∧ (mix X Y many).2 = k3 ∧ ((k1 ≠ 0) ∨ (k1 = 0 ∧ k2 ≠ 0) ∨ (k1 = 0 ∧ k2 = 0 ∧ k3 ≠ 0)) := by
        refine ⟨(seal_ a o).1, (seal_ a o).2, (seal_ b p).1, (seal_ b p).2, _, rfl, rfl, rfl, ?_⟩
        cases h1 : isSt a
        · rw [seal_arg h1]; exact .inl (by decide)
        · by_cases h2 : o.length ≤ 16
          · rw [seal_ok h1 h2]
            cases h3 : isSt b
            · rw [seal_arg h3]; exact .inr (.inl ⟨rfl, by decide⟩)
            · by_cases h4 : p.length ≤ 16
              · rw [seal_ok h3 h4]
                refine .inr (.inr ⟨rfl, rfl, ?_⟩)
                rw [mix_no fun h => hs ⟨⟨h1, h2⟩, ⟨h3, h4⟩, h.2.2⟩]
                decide
              · rw [seal_long h3 (by omega)]; exact .inr (.inl ⟨rfl, by decide⟩)
          · rw [seal_long h1 (by omega)]; exact .inl (by decide)
      obtain ⟨X, k1, Y, k2, k3, hsx, hsy, hmx, hk⟩ := key
      have HSX := Lib.hid hsx
      have HSY := Lib.hid hsy
      have HMX := Lib.hid (show mix X Y many = ((mix X Y many).1, k3) by rw [← hmx])
      generalize (mix X Y many).1 = Z at *
      clear hsx hsy hmx hs hab
      generalize o.length = N at *
      generalize p.length = M at *
      have key : (k1 != 0) = true ∨ (k1 = 0 ∧ (k2 != 0) = true) ∨ (k1 = 0 ∧ k2 = 0 ∧ (k3 != 0) = true) := by
        rcases hk with h | ⟨h, h'⟩ | ⟨h, h', h''⟩
        · exact .inl (by simpa using h)
        · exact .inr (.inl ⟨h, by simpa using h'⟩)
        · exact .inr (.inr ⟨h, h', by simpa using h''⟩)
      clear hk
      rcases key with tk | ⟨rfl, tk⟩ | ⟨rfl, rfl, tk⟩
      all_goals
        go_enter Try.func12, Try.ntmps12
        go_wp2_with fail
        refine (live2_any _).mono ?_
        rintro e w1 ⟨rfl, hb1⟩
        have HB1 := Lib.hid hb1
        clear hb1
        go_wp2_with fail
        refine (HS1.out _ HB1.out).mono ?_
        rw [HSX.out]
        intro e w2 hg
        obtain ⟨A2, c2, rfl, hs2, hb2⟩ := gives_re hg
        generalize X.length = XL at *
        have HB2 := Lib.hid (HB1.out.trans (hb2.mono HB1.out.size))
        have HX2 := Lib.hid hs2
        clear hg hs2 hb2
        go_wp2_with fail
        refine (HS2.out _ HB2.out).mono ?_
        rw [HSY.out]
        intro e w3 hg
        obtain ⟨A3, c3, rfl, hs3, hb3⟩ := gives_re hg
        generalize Y.length = YL at *
        have HB3 := Lib.hid (HB2.out.trans (hb3.mono HB2.out.size))
        have HX2 := Lib.hid (HX2.out.below hb3)
        have HY3 := Lib.hid hs3
        clear hg hs3 hb3
        go_wp2_with fail
        refine (mix_any _ _ X Y _ w3 HX2.out HY3.out).mono ?_
        rw [HMX.out]
        intro e w4 hg
        obtain ⟨A4, c4, rfl, hs4, hb4⟩ := gives_re hg
        generalize Z.length = ZL at *
        have HB4 := Lib.hid (HB3.out.trans (hb4.mono HB3.out.size))
        clear hg hs4 hb4
        go_wp2_with fail
        go_ret
        exact ⟨rfl, HB4.out⟩
  · have key : decide (200 < (o.length : Int)) = true ∨ (decide (200 < (o.length : Int)) = false ∧ decide (200 < (p.length : Int)) = true) ∨ (decide (200 < (o.length : Int)) = false ∧ decide (200 < (p.length : Int)) = false ∧ (a == b) = true) := by
      by_cases h1 : 200 < (o.length : Int)
      · exact .inl (by simpa using h1)
      · by_cases h2 : 200 < (p.length : Int)
        · exact .inr (.inl ⟨by simp; omega, by simpa using h2⟩)
        · refine .inr (.inr ⟨by simp; omega, by simp; omega, ?_⟩)
          have : a = b := Classical.byContradiction fun h => hl ⟨by omega, by omega, h⟩
          simpa using this
    clear hl
    generalize o.length = N at *
    generalize p.length = M at *
    rcases key with t1 | ⟨t1, t2⟩ | ⟨t1, t2, t3⟩
    all_goals
      go_enter Try.func12, Try.ntmps12
      go_wp2_with fail
      refine (live2_any _).mono ?_
      rintro e w1 ⟨rfl, hb1⟩
      have HB1 := Lib.hid hb1
      clear hb1
      go_wp2_with fail
      go_ret
      exact ⟨rfl, HB1.out⟩

end Go.Proofs.Ytikobhckkbicaaa
