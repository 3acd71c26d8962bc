/- The law TwistDoes, walked. -/
import Derived.Test.Ytjohknpjkcbjlaa7L
namespace Go.Proofs.Ytjohknpjkcbjlaa
open Go.RowKit Pk Vc Tw

set_option maxRecDepth 10000 in
set_option maxHeartbeats 8000000 in
theorem twistDoes_any (va : Value) (v : List Int) (a b : Int) (w : World) (ha : Vs w (fun _ => True) va v) (sa : Small v) :
    Calls Try.prog 3 #[va, .int .i64 a, .int .i64 b] w (True_ w) := by
  have HLIVE := Lib.hid (live5_any w)
  have H1 := Lib.hid (fun W (h : Below w.heap.size w W) => turn_any va v a W (ha.below h) sa)
  have H2 := Lib.hid (fun W (h : Below w.heap.size w W) => refTurn_any va v a W (ha.below h) sa)
  have H3 := Lib.hid (fun W (h : Below w.heap.size w W) => back_any va v a W (ha.below h) sa)
  have H4 := Lib.hid (fun W (h : Below w.heap.size w W) => refBack_any va v a W (ha.below h) sa)
  have H5 := Lib.hid (fun W (_ : Below w.heap.size w W) => both_any a b W)
  have H6 := Lib.hid (fun W (_ : Below w.heap.size w W) => refBoth_any a b W)
  have H7 := Lib.hid (fun W (_ : Below w.heap.size w W) => not_any a W)
  have H8 := Lib.hid (fun W (_ : Below w.heap.size w W) => refNot_any a W)
  have HA := Lib.hid ha
  obtain ⟨A, c, rfl, hc1, hc2, _⟩ := ha
  unfold maxLen at hc2
  clear sa
  by_cases hlen : (500 : Int) < (v.length : Int)
  · clear H1 H2 H3 H4 H5 H6 H7 H8 HA
    generalize v.length = M at *
    go_enter Try.func3, Try.ntmps3
    go_wp2_with fail
    refine HLIVE.out.mono ?_
    rintro e w1 ⟨rfl, hb1⟩
    have HB1 := Lib.hid hb1
    clear hb1
    go_wp2_with fail
    go_ret
    exact ⟨rfl, HB1.out⟩
  · have g1 : v.length ≤ 500 := by omega
    clear hlen
    have HCP := Lib.hid (fun W (h : Below w.heap.size w W) => copy_any _ v W (HA.out.below h) (by omega))
    obtain ⟨X, k1, e1⟩ : ∃ r_ s_, turn v a = (r_, s_) := ⟨_, _, rfl⟩
    obtain ⟨Y, k2, e2⟩ : ∃ r_ s_, back v a = (r_, s_) := ⟨_, _, rfl⟩
    obtain ⟨n3, k3, e3⟩ : ∃ r_ s_, both a b = (r_, s_) := ⟨_, _, rfl⟩
    obtain ⟨n4, k4, e4⟩ : ∃ r_ s_, nott a = (r_, s_) := ⟨_, _, rfl⟩
    rw [e1] at H1 H2
    rw [e2] at H3 H4
    rw [e3] at H5 H6
    rw [e4] at H7 H8
    clear e1 e2 e3 e4
    generalize hM : v.length = M at *
    have HM := Lib.hid hM
    clear hM
    go_enter Try.func3, Try.ntmps3
    go_wp2_with fail
    refine HLIVE.out.mono ?_
    rintro e w1 ⟨rfl, hb1⟩
    have HB1 := Lib.hid hb1
    clear hb1
    go_wp2_with fail
    refine (HCP.out _ HB1.out).mono ?_
    rintro e w2 ⟨u2, rfl, ho2, hb2⟩
    obtain ⟨A2, c2, rfl⟩ := own_slice ho2
    have HS2 := Lib.hid (show Vs w2 (fun _ => True) _ v from Vs.of_own ho2 fun _ _ => trivial)
    have HB2 := Lib.hid (HB1.out.trans (hb2.mono HB1.out.size))
    clear ho2 hb2
    have HR2 := Lib.hid (Below.refl w2.heap.size w2)
    go_wp2_with fail
    refine (H1.out _ HB2.out).mono ?_
    intro e w3 hg
    obtain ⟨A3, c3, rfl, ho3, hs3, hb3⟩ := gives_vz hg
    have HO3 := Lib.hid ho3
    clear ho3
    clear hg
    have HR2 := Lib.hid (HR2.out.trans (hb3.mono HR2.out.size))
    have HS3 := Lib.hid hs3
    have HB3 := Lib.hid (HB2.out.trans (hb3.mono HB2.out.size))
    clear hb3 hs3
    have HR3 := Lib.hid (Below.refl w3.heap.size w3)
    go_wp2_with fail
    refine (H2.out _ HB3.out).mono ?_
    intro e w4 hg
    obtain ⟨A4, c4, rfl, -, hs4, hb4⟩ := gives_vz hg
    clear hg
    have HS3 := Lib.hid (HS3.out.below hb4)
    have HR2 := Lib.hid (HR2.out.trans (hb4.mono HR2.out.size))
    have HR3 := Lib.hid (HR3.out.trans (hb4.mono HR3.out.size))
    have HS4 := Lib.hid hs4
    have HB4 := Lib.hid (HB3.out.trans (hb4.mono HB3.out.size))
    clear hb4 hs4
    go_wp2_with fail
    refine (H3.out _ HB4.out).mono ?_
    intro e w5 hg
    obtain ⟨A5, c5, rfl, -, hs5, hb5⟩ := gives_vz hg
    clear hg
    have HS3 := Lib.hid (HS3.out.below hb5)
    have HS4 := Lib.hid (HS4.out.below hb5)
    have HR2 := Lib.hid (HR2.out.trans (hb5.mono HR2.out.size))
    have HR3 := Lib.hid (HR3.out.trans (hb5.mono HR3.out.size))
    have HS5 := Lib.hid hs5
    have HB5 := Lib.hid (HB4.out.trans (hb5.mono HB4.out.size))
    clear hb5 hs5
    go_wp2_with fail
    refine (H4.out _ HB5.out).mono ?_
    intro e w6 hg
    obtain ⟨A6, c6, rfl, -, hs6, hb6⟩ := gives_vz hg
    clear hg
    have HS3 := Lib.hid (HS3.out.below hb6)
    have HS4 := Lib.hid (HS4.out.below hb6)
    have HS5 := Lib.hid (HS5.out.below hb6)
    have HR2 := Lib.hid (HR2.out.trans (hb6.mono HR2.out.size))
    have HR3 := Lib.hid (HR3.out.trans (hb6.mono HR3.out.size))
    have HS6 := Lib.hid hs6
    have HB6 := Lib.hid (HB5.out.trans (hb6.mono HB5.out.size))
    clear hb6 hs6
    go_wp2_with fail
    refine (H5.out _ HB6.out).mono ?_
    intro e w7 hg
    obtain ⟨rfl, hb7⟩ := gives_iz hg
    clear hg
    have HS3 := Lib.hid (HS3.out.below hb7)
    have HS4 := Lib.hid (HS4.out.below hb7)
    have HS5 := Lib.hid (HS5.out.below hb7)
    have HS6 := Lib.hid (HS6.out.below hb7)
    have HR2 := Lib.hid (HR2.out.trans (hb7.mono HR2.out.size))
    have HR3 := Lib.hid (HR3.out.trans (hb7.mono HR3.out.size))
    have HB7 := Lib.hid (HB6.out.trans (hb7.mono HB6.out.size))
    clear hb7
    go_wp2_with fail
    refine (H6.out _ HB7.out).mono ?_
    intro e w8 hg
    obtain ⟨rfl, hb8⟩ := gives_iz hg
    clear hg
    have HS3 := Lib.hid (HS3.out.below hb8)
    have HS4 := Lib.hid (HS4.out.below hb8)
    have HS5 := Lib.hid (HS5.out.below hb8)
    have HS6 := Lib.hid (HS6.out.below hb8)
    have HR2 := Lib.hid (HR2.out.trans (hb8.mono HR2.out.size))
    have HR3 := Lib.hid (HR3.out.trans (hb8.mono HR3.out.size))
    have HB8 := Lib.hid (HB7.out.trans (hb8.mono HB7.out.size))
    clear hb8
    go_wp2_with fail
    refine (H7.out _ HB8.out).mono ?_
    intro e w9 hg
    obtain ⟨rfl, hb9⟩ := gives_iz hg
    clear hg
    have HS3 := Lib.hid (HS3.out.below hb9)
    have HS4 := Lib.hid (HS4.out.below hb9)
    have HS5 := Lib.hid (HS5.out.below hb9)
    have HS6 := Lib.hid (HS6.out.below hb9)
    have HR2 := Lib.hid (HR2.out.trans (hb9.mono HR2.out.size))
    have HR3 := Lib.hid (HR3.out.trans (hb9.mono HR3.out.size))
    have HB9 := Lib.hid (HB8.out.trans (hb9.mono HB8.out.size))
    clear hb9
    go_wp2_with fail
    refine (H8.out _ HB9.out).mono ?_
    intro e w10 hg
    obtain ⟨rfl, hb10⟩ := gives_iz hg
    clear hg
    have HS3 := Lib.hid (HS3.out.below hb10)
    have HS4 := Lib.hid (HS4.out.below hb10)
    have HS5 := Lib.hid (HS5.out.below hb10)
    have HS6 := Lib.hid (HS6.out.below hb10)
    have HR2 := Lib.hid (HR2.out.trans (hb10.mono HR2.out.size))
    have HR3 := Lib.hid (HR3.out.trans (hb10.mono HR3.out.size))
    have HB10 := Lib.hid (HB9.out.trans (hb10.mono HB9.out.size))
    clear hb10
    go_wp2_with fail
    refine (refSame_any _ _ X X _ HS3.out HS4.out).mono ?_
    rw [decide_eq_true rfl]
    rintro e w11 ⟨rfl, hb11⟩
    have HS3 := Lib.hid (HS3.out.below hb11)
    have HS4 := Lib.hid (HS4.out.below hb11)
    have HS5 := Lib.hid (HS5.out.below hb11)
    have HS6 := Lib.hid (HS6.out.below hb11)
    have HR2 := Lib.hid (HR2.out.trans (hb11.mono HR2.out.size))
    have HR3 := Lib.hid (HR3.out.trans (hb11.mono HR3.out.size))
    have HB11 := Lib.hid (HB10.out.trans (hb11.mono HB10.out.size))
    clear hb11
    go_wp2_with fail
    refine (refSame_any _ _ Y Y _ HS5.out HS6.out).mono ?_
    rw [decide_eq_true rfl]
    rintro e w12 ⟨rfl, hb12⟩
    have HS3 := Lib.hid (HS3.out.below hb12)
    have HS4 := Lib.hid (HS4.out.below hb12)
    have HS5 := Lib.hid (HS5.out.below hb12)
    have HS6 := Lib.hid (HS6.out.below hb12)
    have HR2 := Lib.hid (HR2.out.trans (hb12.mono HR2.out.size))
    have HR3 := Lib.hid (HR3.out.trans (hb12.mono HR3.out.size))
    have HB12 := Lib.hid (HB11.out.trans (hb12.mono HB11.out.size))
    clear hb12
    have HXO := Lib.hid (own_below HO3.out HR3.out (fun b hb => (HO3.out.lt b hb).2))
    have HW2 := Lib.hid HB2.out.size
    have hmx : X.length ≤ 9223372036854775807 := Nat.le_trans HS3.out.from_.2.1 HS3.out.from_.2.2.1
    clear HO3 HS3 HS4 HS5 HS6 HR3
    generalize hXL : X.length = L at *
    have HXL := Lib.hid hXL
    clear hXL
    go_wp2_with fail
    go_loopw [26, 122] (fun _ i wr => ∃ (j : Nat) (xs : List Int), j ≤ L ∧ i = .int .i64 (j : Int) ∧ Hid (xs.length = L) ∧ Hid (wr.ownsRow w2.heap.size 33 1 (.slice A3 L c3) L (nshorts xs)) ∧ Hid (Below w.heap.size w wr) ∧ Hid (Below w2.heap.size w2 wr)) (fun _ i _ => L - (intOf i).toNat)
    case atStart => exact ⟨0, X, by omega, rfl, Lib.hid HXL.out, HXO, HB12, HR2⟩
    case round =>
      obtain ⟨j, xs, hj, rfl, HXS, HX, HBE, HRE⟩ := hrel
      by_cases hlt : j < L
      · obtain ⟨g, rfl, hg, -, kx⟩ := own_at HX.out (by omega)
        obtain ⟨x, hx⟩ : ∃ x, xs[j]? = some x := ⟨_, List.getElem?_eq_getElem (by rw [HXS.out]; exact hlt)⟩
        obtain ⟨cx, fx⟩ := kx j _ (nshorts_at hx)
        have hX2 := own_set HX.out (k := j) (.int .i16 7)
        rw [nshorts_set] at hX2
        have HX2 := Lib.hid hX2
        have HXS2 := Lib.hid (show (xs.set j 7).length = L by rw [List.length_set]; exact HXS.out)
        have HB2' := Lib.hid (HBE.out.setCell (p := ⟨g, j, none⟩) (Nat.le_trans HW2.out hg) (.int .i16 7))
        have HR2' := Lib.hid (HRE.out.setCell (p := ⟨g, j, none⟩) hg (.int .i16 7))
        clear kx hX2 hx hg
        go_wp2_with fail
        go_roundw
        case rel => exact ⟨j + 1, xs.set j 7, by omega, by go_num, HXS2, HX2, HB2', HR2'⟩
        case measure => simp [intOf]; omega
      · obtain rfl : j = L := by omega
        go_wp2_with fail
        refine (refSame_any _ _ v v _ (HA.out.below HBE.out) (HS2.out.below HRE.out)).mono ?_
        rw [decide_eq_true rfl]
        rintro e w9 ⟨rfl, hb9⟩
        have HB9 := Lib.hid (HBE.out.trans (hb9.mono HBE.out.size))
        clear hb9
        go_wp2_with fail
        go_ret
        exact ⟨rfl, HB9.out⟩

end Go.Proofs.Ytjohknpjkcbjlaa
