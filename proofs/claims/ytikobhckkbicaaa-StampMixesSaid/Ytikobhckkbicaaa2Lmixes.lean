/- The law StampMixes, walked. -/
import Derived.Test.Ytikobhckkbicaaa2L
namespace Go.Proofs.Ytikobhckkbicaaa
open Go.RowKit Sk

set_option maxHeartbeats 2000000 in
theorem stampMixes_any (vo vb : Value) (o b : List UInt8) (i j : Int) (w : World) (ho : Bs w (fun _ => True) vo o) (hb : Bs w (fun _ => True) vb b) :
    Calls Try.prog 14 #[vo, vb, .int .i64 i, .int .i64 j] w (True_ w) := by
  have HO := Lib.hid ho
  have HB := Lib.hid hb
  obtain ⟨A, c, rfl, _⟩ := ho
  obtain ⟨A', c', rfl, _⟩ := hb
  have HM := Lib.hid (fun W (hw : Below w.heap.size w W) k => mix_any _ _ o b k W (HO.out.below hw) (HB.out.below hw))
  by_cases hk : o.length = 32 ∧ b.length = 32 ∧ 0 ≤ i ∧ i ≤ 32
  · obtain ⟨h1, h2, h3, h4⟩ := hk
    obtain ⟨k, rfl⟩ : ∃ k : Nat, i = (k : Int) := ⟨i.toNat, by omega⟩
    have hm1 := mix_ok h1 h2 h3 h4
    rw [Int.toNat_natCast] at hm1
    have hm2 : mix o b 0 = (o, 0) := by rw [mix_ok h1 h2 (by omega) (by omega)]; simp
    have hm3 : mix o b 32 = (b, 0) := by rw [mix_ok h1 h2 (by omega) (by omega), show (32 : Int).toNat = 32 from rfl, List.take_of_length_le (by omega), List.drop_eq_nil_of_le (by omega), List.append_nil]
    have hxl := mix_length (k := k) h1 h2 (by omega)
    obtain ⟨X, hX⟩ : ∃ X, X = b.take k ++ o.drop k := ⟨_, rfl⟩
    rw [← hX] at hm1 hxl
    have HM1 := Lib.hid hm1
    have HM2 := Lib.hid hm2
    have HM3 := Lib.hid hm3
    by_cases hj : 0 ≤ j ∧ j ≤ 32
    · obtain ⟨j0, j1⟩ := hj
      obtain ⟨q, rfl⟩ : ∃ q : Nat, j = (q : Int) := ⟨j.toNat, by omega⟩
      have hm4 := mix_ok hxl h2 j0 j1
      rw [Int.toNat_natCast, hX, mix_twice h1 h2 (by omega) (by omega), ← hX] at hm4
      obtain ⟨Y, hY⟩ : ∃ Y, Y = b.take (max k q) ++ o.drop (max k q) := ⟨_, rfl⟩
      have hm5 : mix o b ((max k q : Nat) : Int) = (Y, 0) := by
        rw [mix_ok h1 h2 (by omega) (by omega), Int.toNat_natCast, hY]
      rw [← hY] at hm4
      have HM4 := Lib.hid hm4
      have HX := Lib.hid hX
      clear hm1 hm2 hm3 hm4 hX hY hxl h1 h2
      have key : (k < q ∧ max k q = q) ∨ (¬ k < q ∧ max k q = k) := by omega
      rcases key with ⟨kq, e5⟩ | ⟨kq, e5⟩
      all_goals
        rw [e5] at hm5
        have HM5 := Lib.hid hm5
        clear hm5 e5
        go_enter Try.func14, Try.ntmps14
        go_wp2_with fail
        refine (live2_any _).mono ?_
        rintro e w1 ⟨rfl, hb1⟩
        have HB1 := Lib.hid hb1
        clear hb1
        go_wp2_with fail
        refine (HM.out _ HB1.out _).mono ?_
        rw [HM1.out]
        intro e w2 hg
        obtain ⟨A2, c2, rfl, hs2, hb2⟩ := gives_re hg
        have HB2 := Lib.hid (HB1.out.trans (hb2.mono HB1.out.size))
        have HS2 := Lib.hid hs2
        clear hg hs2 hb2
        go_wp2_with fail
        refine (HM.out _ HB2.out _).mono ?_
        rw [HM2.out]
        intro e w3 hg
        obtain ⟨A3, c3, rfl, hs3, hb3⟩ := gives_re hg
        have HB3 := Lib.hid (HB2.out.trans (hb3.mono HB2.out.size))
        have HS2 := Lib.hid (HS2.out.below hb3)
        have HS3 := Lib.hid hs3
        clear hg hs3 hb3
        go_wp2_with fail
        refine (HM.out _ HB3.out _).mono ?_
        rw [HM3.out]
        intro e w4 hg
        obtain ⟨A4, c4, rfl, hs4, hb4⟩ := gives_re hg
        have HB4 := Lib.hid (HB3.out.trans (hb4.mono HB3.out.size))
        have HS2 := Lib.hid (HS2.out.below hb4)
        have HS3 := Lib.hid (HS3.out.below hb4)
        have HS4 := Lib.hid hs4
        clear hg hs4 hb4
        go_wp2_with fail
        refine (mix_any _ _ X b _ w4 HS2.out (HB.out.below HB4.out)).mono ?_
        rw [HM4.out]
        intro e w5 hg
        obtain ⟨A5, c5, rfl, hs5, hb5⟩ := gives_re hg
        have HB5 := Lib.hid (HB4.out.trans (hb5.mono HB4.out.size))
        have HS3 := Lib.hid (HS3.out.below hb5)
        have HS4 := Lib.hid (HS4.out.below hb5)
        have HS5 := Lib.hid hs5
        clear hg hs5 hb5
        go_wp2_with fail
        refine (HM.out _ HB5.out _).mono ?_
        rw [HM5.out]
        intro e w6 hg
        obtain ⟨A6, c6, rfl, hs6, hb6⟩ := gives_re hg
        have HB6 := Lib.hid (HB5.out.trans (hb6.mono HB5.out.size))
        have t3 := run_text (HS3.out.below hb6)
        have t4 := run_text (HS4.out.below hb6)
        have t5 := run_text (HS5.out.below hb6)
        have t6 := run_text hs6
        have tt := run_text (HO.out.below HB6.out)
        have tb := run_text (HB.out.below HB6.out)
        clear hg hs6 hb6
        go_wp2_with fail
        go_ret
        exact ⟨rfl, HB6.out⟩
    · have hm4 := mix_no (o := X) (b := b) (k := j) (fun h => hj h.2.2)
      have HM4 := Lib.hid hm4
      have key : j < 0 ∨ 32 < j := by omega
      clear hm1 hm2 hm3 hm4 hX hxl h1 h2 hj
      rcases key with kj | kj
      all_goals
        go_enter Try.func14, Try.ntmps14
        go_wp2_with fail
        refine (live2_any _).mono ?_
        rintro e w1 ⟨rfl, hb1⟩
        have HB1 := Lib.hid hb1
        clear hb1
        go_wp2_with fail
        refine (HM.out _ HB1.out _).mono ?_
        rw [HM1.out]
        intro e w2 hg
        obtain ⟨A2, c2, rfl, hs2, hb2⟩ := gives_re hg
        have HB2 := Lib.hid (HB1.out.trans (hb2.mono HB1.out.size))
        have HS2 := Lib.hid hs2
        clear hg hs2 hb2
        go_wp2_with fail
        refine (HM.out _ HB2.out _).mono ?_
        rw [HM2.out]
        intro e w3 hg
        obtain ⟨A3, c3, rfl, hs3, hb3⟩ := gives_re hg
        have HB3 := Lib.hid (HB2.out.trans (hb3.mono HB2.out.size))
        have HS2 := Lib.hid (HS2.out.below hb3)
        clear hg hs3 hb3
        go_wp2_with fail
        refine (HM.out _ HB3.out _).mono ?_
        rw [HM3.out]
        intro e w4 hg
        obtain ⟨A4, c4, rfl, hs4, hb4⟩ := gives_re hg
        have HB4 := Lib.hid (HB3.out.trans (hb4.mono HB3.out.size))
        have HS2 := Lib.hid (HS2.out.below hb4)
        clear hg hs4 hb4
        go_wp2_with fail
        refine (mix_any _ _ X b _ w4 HS2.out (HB.out.below HB4.out)).mono ?_
        rw [HM4.out]
        intro e w5 hg
        obtain ⟨A5, c5, rfl, hs5, hb5⟩ := gives_re hg
        have HB5 := Lib.hid (HB4.out.trans (hb5.mono HB4.out.size))
        clear hg hs5 hb5
        go_wp2_with fail
        go_ret
        exact ⟨rfl, HB5.out⟩
  · have HM1 := Lib.hid (mix_no hk)
    clear hk
    go_enter Try.func14, Try.ntmps14
    go_wp2_with fail
    refine (live2_any _).mono ?_
    rintro e w1 ⟨rfl, hb1⟩
    have HB1 := Lib.hid hb1
    clear hb1
    go_wp2_with fail
    refine (HM.out _ HB1.out _).mono ?_
    rw [HM1.out]
    intro e w2 hg
    obtain ⟨A2, c2, rfl, hs2, hb2⟩ := gives_re hg
    have HB2 := Lib.hid (HB1.out.trans (hb2.mono HB1.out.size))
    clear hg hs2 hb2
    go_wp2_with fail
    go_ret
    exact ⟨rfl, HB2.out⟩

end Go.Proofs.Ytikobhckkbicaaa
