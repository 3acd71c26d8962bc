/- The law VecDoes, walked. -/
import Derived.Test.Ytndccdoohmgmlaa6L
import Derived.Test.Ytndccdoohmgmlaa6Q
namespace Go.Proofs.Ytndccdoohmgmlaa
open Go.RowKit Pk Vc

set_option maxRecDepth 10000 in
set_option maxHeartbeats 4000000 in
theorem vecDoes_any (va vb : Value) (a b : List Int) (w : World) (ha : Vs w (fun _ => True) va a) (hb : Vs w (fun _ => True) vb b) (sa : Small a) (sb : Small b) :
    Calls Try.prog 3 #[va, vb] w (True_ w) := by
  have HLIVE := Lib.hid (live4_any w)
  have H1 := Lib.hid (fun W (h : Below w.heap.size w W) => dist_any va vb a b W (ha.below h) (hb.below h) sa sb)
  have H2 := Lib.hid (fun W (h : Below w.heap.size w W) => refDist_any va vb a b W (ha.below h) (hb.below h) sa sb)
  have H3 := Lib.hid (fun W (h : Below w.heap.size w W) => dot_any va vb a b W (ha.below h) (hb.below h) sa sb)
  have H4 := Lib.hid (fun W (h : Below w.heap.size w W) => refDot_any va vb a b W (ha.below h) (hb.below h) sa sb)
  have H5 := Lib.hid (fun W (h : Below w.heap.size w W) => chk_any va a W (ha.below h))
  have H6 := Lib.hid (fun W (h : Below w.heap.size w W) => refChk_any va a W (ha.below h))
  have H7 := Lib.hid (fun W (h : Below w.heap.size w W) => same_any va vb a b W (ha.below h) (hb.below h))
  have H8 := Lib.hid (fun W (h : Below w.heap.size w W) => refSame_any va vb a b W (ha.below h) (hb.below h))
  obtain ⟨A, c, rfl, hc1, hc2, _⟩ := ha
  obtain ⟨A', c', rfl, hc1', hc2', _⟩ := hb
  unfold maxLen at hc2 hc2'
  clear sa sb
  by_cases hlen : (500 : Int) < (a.length : Int) ∨ (¬ (500 : Int) < (a.length : Int) ∧ (500 : Int) < (b.length : Int))
  · clear H1 H2 H3 H4 H5 H6 H7 H8
    generalize a.length = M at *
    generalize b.length = N at *
    rcases hlen with h1 | ⟨h1, h2⟩
    all_goals
      go_enter Try.func3, Try.ntmps3
      go_wp2_with fail
      refine HLIVE.out.mono ?_
      rintro e w1 ⟨rfl, hb1⟩
      have HB1 := Lib.hid hb1
      clear hb1
      go_wp2_with fail
      go_ret
      exact ⟨rfl, HB1.out⟩
  · have g1 : a.length ≤ 500 := by omega
    have g2 : b.length ≤ 500 := by omega
    clear hlen
    generalize decide (a = b) = q at *
    generalize chk a = k at *
    obtain ⟨n, f, hn⟩ : ∃ n f, dist a b = (n, f) := ⟨_, _, rfl⟩
    obtain ⟨m, g, hm⟩ : ∃ n f, dot a b = (n, f) := ⟨_, _, rfl⟩
    rw [hn] at H1 H2
    rw [hm] at H3 H4
    clear hn hm
    generalize a.length = M at *
    generalize b.length = N at *
    go_enter Try.func3, Try.ntmps3
    go_wp2_with fail
    refine HLIVE.out.mono ?_
    rintro e w1 ⟨rfl, hb1⟩
    have HB1 := Lib.hid hb1
    clear hb1
    go_wp2_with fail
    refine (H1.out _ HB1.out).mono ?_
    intro e w2 hg
    obtain ⟨rfl, hb2⟩ := gives_i hg
    have HB2 := Lib.hid (HB1.out.trans (hb2.mono HB1.out.size))
    clear hg hb2
    go_wp2_with fail
    refine (H2.out _ HB2.out).mono ?_
    intro e w3 hg
    obtain ⟨rfl, hb3⟩ := gives_i hg
    have HB3 := Lib.hid (HB2.out.trans (hb3.mono HB2.out.size))
    clear hg hb3
    go_wp2_with fail
    refine (H3.out _ HB3.out).mono ?_
    intro e w4 hg
    obtain ⟨rfl, hb4⟩ := gives_i hg
    have HB4 := Lib.hid (HB3.out.trans (hb4.mono HB3.out.size))
    clear hg hb4
    go_wp2_with fail
    refine (H4.out _ HB4.out).mono ?_
    intro e w5 hg
    obtain ⟨rfl, hb5⟩ := gives_i hg
    have HB5 := Lib.hid (HB4.out.trans (hb5.mono HB4.out.size))
    clear hg hb5
    go_wp2_with fail
    refine (H5.out _ HB5.out).mono ?_
    rintro e w6 ⟨rfl, rfl⟩
    go_wp2_with fail
    refine (H6.out _ HB5.out).mono ?_
    rintro e w6 ⟨rfl, rfl⟩
    go_wp2_with fail
    refine (H7.out _ HB5.out).mono ?_
    rintro e w6 ⟨rfl, hb6⟩
    have HB6 := Lib.hid (HB5.out.trans (hb6.mono HB5.out.size))
    clear hb6
    go_wp2_with fail
    refine (H8.out _ HB6.out).mono ?_
    rintro e w7 ⟨rfl, hb7⟩
    have HB7 := Lib.hid (HB6.out.trans (hb7.mono HB6.out.size))
    clear hb7
    go_wp2_with fail
    go_ret
    exact ⟨rfl, HB7.out⟩

end Go.Proofs.Ytndccdoohmgmlaa
