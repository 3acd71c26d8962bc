/- The law VecFar, walked. -/
import Derived.Test.Ytndccdoohmgmlaa6L
import Derived.Test.Ytndccdoohmgmlaa6Q
namespace Go.Proofs.Ytndccdoohmgmlaa
open Go.RowKit Pk Vc

set_option maxRecDepth 10000 in
set_option maxHeartbeats 4000000 in
theorem vecFar_any (va vb : Value) (a b : List Int) (w : World) (ha : Vs w (fun _ => True) va a) (hb : Vs w (fun _ => True) vb b) (sa : Small a) (sb : Small b) :
    Calls Try.prog 5 #[va, vb] w (True_ w) := by
  have HLIVE := Lib.hid (live4_any w)
  have HD := Lib.hid (fun W (h : Below w.heap.size w W) => dist_any va vb a b W (ha.below h) (hb.below h) sa sb)
  have HD' := Lib.hid (fun W (h : Below w.heap.size w W) => dist_any vb va b a W (hb.below h) (ha.below h) sb sa)
  have HX := Lib.hid (fun W (h : Below w.heap.size w W) => dot_any va va a a W (ha.below h) (ha.below h) sa sa)
  have HY := Lib.hid (fun W (h : Below w.heap.size w W) => dot_any vb vb b b W (hb.below h) (hb.below h) sb sb)
  have HZ := Lib.hid (fun W (h : Below w.heap.size w W) => dot_any va vb a b W (ha.below h) (hb.below h) sa sb)
  have HSM := Lib.hid (fun W (h : Below w.heap.size w W) => same_any va vb a b W (ha.below h) (hb.below h))
  have HCA := Lib.hid (fun W (h : Below w.heap.size w W) => chk_any va a W (ha.below h))
  have HCB := Lib.hid (fun W (h : Below w.heap.size w W) => chk_any vb b W (hb.below h))
  have HS := Lib.hid (And.intro sa sb)
  obtain ⟨A, c, rfl, hc1, hc2, _⟩ := ha
  obtain ⟨A', c', rfl, hc1', hc2', _⟩ := hb
  unfold maxLen at hc2 hc2'
  clear sa sb
  by_cases hlen : (500 : Int) < (a.length : Int) ∨ (¬ (500 : Int) < (a.length : Int) ∧ (500 : Int) < (b.length : Int))
  · clear HD HD' HX HY HZ HSM HCA HCB HS
    generalize a.length = M at *
    generalize b.length = N at *
    rcases hlen with h1 | ⟨h1, h2⟩
    all_goals
      go_enter Try.func5, Try.ntmps5
      go_wp2_with fail
      refine HLIVE.out.mono ?_
      rintro e w1 ⟨rfl, hb1⟩
      have HB1 := Lib.hid hb1
      clear hb1
      go_wp2_with fail
      go_ret
      exact ⟨rfl, HB1.out⟩
  · have g1 : a.length ≤ 500 := by omega
    have g2 : b.length ≤ 500 := by omega
    clear hlen
    cases hp : isP a b
    · rw [dist_no hp] at HD
      clear HD' HX HY HZ HSM HS
      rcases far_no hp with hl | ⟨hl, ho⟩ | ⟨hl, ho, ho'⟩
      · clear hp HCA HCB
        generalize a.length = M at *
        generalize b.length = N at *
        have t1 : ((M : Int) != (N : Int)) = true := by simp; omega
        clear hl
        go_enter Try.func5, Try.ntmps5
        go_wp2_with fail
        refine HLIVE.out.mono ?_
        rintro e w1 ⟨rfl, hb1⟩
        have HB1 := Lib.hid hb1
        clear hb1
        go_wp2_with fail
        refine (HD.out _ HB1.out).mono ?_
        intro e w2 hg
        obtain ⟨rfl, hb2⟩ := gives_i hg
        have HB2 := Lib.hid (HB1.out.trans (hb2.mono HB1.out.size))
        clear hg hb2
        go_wp2_with fail
        go_ret
        exact ⟨rfl, HB2.out⟩
      · rw [chk_no ho] at HCA
        clear hp ho HCB
        generalize a.length = M at *
        generalize b.length = N at *
        subst hl
        go_enter Try.func5, Try.ntmps5
        go_wp2_with fail
        refine HLIVE.out.mono ?_
        rintro e w1 ⟨rfl, hb1⟩
        have HB1 := Lib.hid hb1
        clear hb1
        go_wp2_with fail
        refine (HD.out _ HB1.out).mono ?_
        intro e w2 hg
        obtain ⟨rfl, hb2⟩ := gives_i hg
        have HB2 := Lib.hid (HB1.out.trans (hb2.mono HB1.out.size))
        clear hg hb2
        go_wp2_with fail
        refine (HCA.out _ HB2.out).mono ?_
        rintro e w3 ⟨rfl, rfl⟩
        go_wp2_with fail
        go_ret
        exact ⟨rfl, HB2.out⟩
      · rw [chk_ok ho] at HCA
        rw [chk_no ho'] at HCB
        clear hp ho ho'
        generalize a.length = M at *
        generalize b.length = N at *
        subst hl
        go_enter Try.func5, Try.ntmps5
        go_wp2_with fail
        refine HLIVE.out.mono ?_
        rintro e w1 ⟨rfl, hb1⟩
        have HB1 := Lib.hid hb1
        clear hb1
        go_wp2_with fail
        refine (HD.out _ HB1.out).mono ?_
        intro e w2 hg
        obtain ⟨rfl, hb2⟩ := gives_i hg
        have HB2 := Lib.hid (HB1.out.trans (hb2.mono HB1.out.size))
        clear hg hb2
        go_wp2_with fail
        refine (HCA.out _ HB2.out).mono ?_
        rintro e w3 ⟨rfl, rfl⟩
        go_wp2_with fail
        refine (HCB.out _ HB2.out).mono ?_
        rintro e w3 ⟨rfl, rfl⟩
        go_wp2_with fail
        go_ret
        exact ⟨rfl, HB2.out⟩
    · obtain ⟨n, x, y, z, f1, f2, f3, f4, f5, n0, n1, hsum, x0, x1, y0, y1, z0, z1, hiff⟩ := far_facts hp HS.out.1 HS.out.2
      rw [f1] at HD
      rw [f2] at HD'
      rw [f3] at HX
      rw [f4] at HY
      rw [f5] at HZ
      clear f1 f2 f3 f4 f5 HCA HCB HS hp
      obtain ⟨q, hq⟩ : ∃ q, q = decide (a = b) := ⟨_, rfl⟩
      have hq2 : (n == 0) = q := by rw [hq, Bool.eq_iff_iff]; simpa using hiff
      rw [← hq] at HSM
      have HQ := Lib.hid hq2
      have HT := Lib.hid (show (n == x + y - 2 * z) = true by simpa using hsum)
      clear hq hq2 hiff hsum
      generalize a.length = M at *
      generalize b.length = N at *
      go_enter Try.func5, Try.ntmps5
      go_wp2_with fail
      refine HLIVE.out.mono ?_
      rintro e w1 ⟨rfl, hb1⟩
      have HB1 := Lib.hid hb1
      clear hb1
      go_wp2_with fail
      refine (HD.out _ HB1.out).mono ?_
      intro e w2 hg
      obtain ⟨rfl, hb2⟩ := gives_i hg
      have HB2 := Lib.hid (HB1.out.trans (hb2.mono HB1.out.size))
      clear hg hb2
      go_wp2_with fail
      refine (HD'.out _ HB2.out).mono ?_
      intro e w3 hg
      obtain ⟨rfl, hb3⟩ := gives_i hg
      have HB3 := Lib.hid (HB2.out.trans (hb3.mono HB2.out.size))
      clear hg hb3
      go_wp2_with fail
      refine (HX.out _ HB3.out).mono ?_
      intro e w4 hg
      obtain ⟨rfl, hb4⟩ := gives_i hg
      have HB4 := Lib.hid (HB3.out.trans (hb4.mono HB3.out.size))
      clear hg hb4
      go_wp2_with fail
      refine (HY.out _ HB4.out).mono ?_
      intro e w5 hg
      obtain ⟨rfl, hb5⟩ := gives_i hg
      have HB5 := Lib.hid (HB4.out.trans (hb5.mono HB4.out.size))
      clear hg hb5
      go_wp2_with fail
      refine (HZ.out _ HB5.out).mono ?_
      intro e w6 hg
      obtain ⟨rfl, hb6⟩ := gives_i hg
      have HB6 := Lib.hid (HB5.out.trans (hb6.mono HB5.out.size))
      clear hg hb6
      have t1 := HQ.out
      have t2 := HT.out
      go_wp2_with fail
      refine (HSM.out _ HB6.out).mono ?_
      rintro e w7 ⟨rfl, hb7⟩
      have HB7 := Lib.hid (HB6.out.trans (hb7.mono HB6.out.size))
      clear hb7
      go_wp2_with fail
      go_ret
      exact ⟨rfl, HB7.out⟩

end Go.Proofs.Ytndccdoohmgmlaa
