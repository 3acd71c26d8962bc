/- The law TwistFar, walked. -/
import Derived.Test.Ytjohknpjkcbjlaa7L
namespace Go.Proofs.Ytjohknpjkcbjlaa
open Go.RowKit Pk Vc Tw

theorem dist_trn {a b : List Int} (n : Nat) (hp : isP a b = true) (sa : Small a) (sb : Small b) : ∃ k p, dist a b = (k, 0) ∧ dot a b = (p, 0) ∧ dist (trn 31 n a) (trn 31 n b) = (k, 0) ∧ dot (trn 31 n a) (trn 31 n b) = (p, 0) := by
  obtain ⟨hl, oa, ob⟩ := isP_yes hp
  have pt : isP (trn 31 n a) (trn 31 n b) = true := isP_mk (by rw [trn_length, trn_length, hl]) (okV_trn oa sa 31 n).1 (okV_trn ob sb 31 n).1
  exact ⟨_, _, dist_ok hp, dot_ok hp, by rw [dist_ok pt, trn_length, trn_dif 31 n a b hl], by rw [dot_ok pt, trn_length, trn_pro 31 n a b hl]⟩

set_option maxRecDepth 10000 in
set_option maxHeartbeats 4000000 in
theorem twistFar_any (va vb : Value) (a b : List Int) (way : Int) (w : World) (ha : Vs w (fun _ => True) va a) (hb : Vs w (fun _ => True) vb b) (sa : Small a) (sb : Small b) :
    Calls Try.prog 4 #[va, vb, .int .i64 way] w (True_ w) := by
  have HLIVE := Lib.hid (live5_any w)
  have H1 := Lib.hid (fun W (h : Below w.heap.size w W) => turn_any va a way W (ha.below h) sa)
  have H2 := Lib.hid (fun W (h : Below w.heap.size w W) => turn_any vb b way W (hb.below h) sb)
  have H3 := Lib.hid (fun W (h : Below w.heap.size w W) => dist_any va vb a b W (ha.below h) (hb.below h) sa sb)
  have H4 := Lib.hid (fun W (h : Below w.heap.size w W) => dot_any va vb a b W (ha.below h) (hb.below h) sa sb)
  have HS := Lib.hid (And.intro sa sb)
  obtain ⟨A, c, rfl, hc1, hc2, _⟩ := ha
  obtain ⟨A', c', rfl, hc1', hc2', _⟩ := hb
  unfold maxLen at hc2 hc2'
  clear sa sb
  by_cases hlen : (500 : Int) < (a.length : Int) ∨ (¬ (500 : Int) < (a.length : Int) ∧ (500 : Int) < (b.length : Int))
  · clear H1 H2 H3 H4 HS
    generalize a.length = M at *
    generalize b.length = N at *
    rcases hlen with h1 | ⟨h1, h2⟩
    all_goals
      go_enter Try.func4, Try.ntmps4
      go_wp2_with fail
      refine HLIVE.out.mono ?_
      rintro e w1 ⟨rfl, hb1⟩
      have HB1 := Lib.hid hb1
      clear hb1
      go_wp2_with fail
      go_ret
      exact ⟨rfl, HB1.out⟩
  · have g1 : a.length ≤ 500 := by omega
    have g2 : b.length ≤ 500 := by omega
    clear hlen
    rcases turn_cases a way with e1 | ⟨n, rfl, hn, oa, e1⟩
    · rw [e1] at H1
      clear e1 HS
      obtain ⟨n2, k2, e2⟩ : ∃ n k, turn b way = (n, k) := ⟨_, _, rfl⟩
      rw [e2] at H2
      clear e2
      obtain ⟨n3, k3, e3⟩ : ∃ n k, dist a b = (n, k) := ⟨_, _, rfl⟩
      rw [e3] at H3
      clear e3
      obtain ⟨n4, k4, e4⟩ : ∃ n k, dot a b = (n, k) := ⟨_, _, rfl⟩
      rw [e4] at H4
      clear e4
      generalize a.length = M at *
      generalize b.length = N at *
      go_enter Try.func4, Try.ntmps4
      go_wp2_with fail
      refine HLIVE.out.mono ?_
      rintro e w1 ⟨rfl, hb1⟩
      have HB1 := Lib.hid hb1
      clear hb1
      go_wp2_with fail
      refine (H1.out _ HB1.out).mono ?_
      intro e w2 hg
      obtain ⟨A2, c2, rfl, -, -, hb2⟩ := gives_vz hg
      clear hg
      have HB2 := Lib.hid (HB1.out.trans (hb2.mono HB1.out.size))
      clear hb2
      go_wp2_with fail
      refine (H2.out _ HB2.out).mono ?_
      intro e w3 hg
      obtain ⟨A3, c3, rfl, -, -, hb3⟩ := gives_vz hg
      clear hg
      have HB3 := Lib.hid (HB2.out.trans (hb3.mono HB2.out.size))
      clear hb3
      go_wp2_with fail
      refine (H3.out _ HB3.out).mono ?_
      intro e w4 hg
      obtain ⟨rfl, hb4⟩ := gives_iz hg
      clear hg
      have HB4 := Lib.hid (HB3.out.trans (hb4.mono HB3.out.size))
      clear hb4
      go_wp2_with fail
      refine (H4.out _ HB4.out).mono ?_
      intro e w5 hg
      obtain ⟨rfl, hb5⟩ := gives_iz hg
      clear hg
      have HB5 := Lib.hid (HB4.out.trans (hb5.mono HB4.out.size))
      clear hb5
      go_wp2_with fail
      go_ret
      exact ⟨rfl, HB5.out⟩
    · rcases turn_cases b (n : Int) with e2 | ⟨n', en, _, ob, e2⟩
      · rw [e1] at H1
        rw [e2] at H2
        clear e1 e2 HS
        obtain ⟨n3, k3, e3⟩ : ∃ n k, dist a b = (n, k) := ⟨_, _, rfl⟩
        rw [e3] at H3
        clear e3
        obtain ⟨n4, k4, e4⟩ : ∃ n k, dot a b = (n, k) := ⟨_, _, rfl⟩
        rw [e4] at H4
        clear e4
        generalize a.length = M at *
        generalize b.length = N at *
        go_enter Try.func4, Try.ntmps4
        go_wp2_with fail
        refine HLIVE.out.mono ?_
        rintro e w1 ⟨rfl, hb1⟩
        have HB1 := Lib.hid hb1
        clear hb1
        go_wp2_with fail
        refine (H1.out _ HB1.out).mono ?_
        intro e w2 hg
        obtain ⟨A2, c2, rfl, -, -, hb2⟩ := gives_vz hg
        clear hg
        have HB2 := Lib.hid (HB1.out.trans (hb2.mono HB1.out.size))
        clear hb2
        go_wp2_with fail
        refine (H2.out _ HB2.out).mono ?_
        intro e w3 hg
        obtain ⟨A3, c3, rfl, -, -, hb3⟩ := gives_vz hg
        clear hg
        have HB3 := Lib.hid (HB2.out.trans (hb3.mono HB2.out.size))
        clear hb3
        go_wp2_with fail
        refine (H3.out _ HB3.out).mono ?_
        intro e w4 hg
        obtain ⟨rfl, hb4⟩ := gives_iz hg
        clear hg
        have HB4 := Lib.hid (HB3.out.trans (hb4.mono HB3.out.size))
        clear hb4
        go_wp2_with fail
        refine (H4.out _ HB4.out).mono ?_
        intro e w5 hg
        obtain ⟨rfl, hb5⟩ := gives_iz hg
        clear hg
        have HB5 := Lib.hid (HB4.out.trans (hb5.mono HB4.out.size))
        clear hb5
        go_wp2_with fail
        go_ret
        exact ⟨rfl, HB5.out⟩
      · obtain rfl : n = n' := by omega
        rw [e1] at H1
        rw [e2] at H2
        clear e1 e2 en
        cases hp : isP a b
        · rw [dist_no hp] at H3
          clear hp HS
          obtain ⟨n4, k4, e4⟩ : ∃ n k, dot a b = (n, k) := ⟨_, _, rfl⟩
          rw [e4] at H4
          clear e4
          generalize a.length = M at *
          generalize b.length = N at *
          go_enter Try.func4, Try.ntmps4
          go_wp2_with fail
          refine HLIVE.out.mono ?_
          rintro e w1 ⟨rfl, hb1⟩
          have HB1 := Lib.hid hb1
          clear hb1
          go_wp2_with fail
          refine (H1.out _ HB1.out).mono ?_
          intro e w2 hg
          obtain ⟨A2, c2, rfl, -, -, hb2⟩ := gives_vz hg
          clear hg
          have HB2 := Lib.hid (HB1.out.trans (hb2.mono HB1.out.size))
          clear hb2
          go_wp2_with fail
          refine (H2.out _ HB2.out).mono ?_
          intro e w3 hg
          obtain ⟨A3, c3, rfl, -, -, hb3⟩ := gives_vz hg
          clear hg
          have HB3 := Lib.hid (HB2.out.trans (hb3.mono HB2.out.size))
          clear hb3
          go_wp2_with fail
          refine (H3.out _ HB3.out).mono ?_
          intro e w4 hg
          obtain ⟨rfl, hb4⟩ := gives_iz hg
          clear hg
          have HB4 := Lib.hid (HB3.out.trans (hb4.mono HB3.out.size))
          clear hb4
          go_wp2_with fail
          refine (H4.out _ HB4.out).mono ?_
          intro e w5 hg
          obtain ⟨rfl, hb5⟩ := gives_iz hg
          clear hg
          have HB5 := Lib.hid (HB4.out.trans (hb5.mono HB4.out.size))
          clear hb5
          go_wp2_with fail
          go_ret
          exact ⟨rfl, HB5.out⟩
        · obtain ⟨k, p, f1, f2, f3, f4⟩ := dist_trn n hp HS.out.1 HS.out.2
          rw [f1] at H3
          rw [f2] at H4
          have H5 := Lib.hid (fun (v u : Value) W (h1 : Vs W (fun _ => True) v (trn 31 n a)) (h2 : Vs W (fun _ => True) u (trn 31 n b)) => dist_any v u _ _ W h1 h2 (okV_trn oa HS.out.1 31 n).2 (okV_trn ob HS.out.2 31 n).2)
          have H6 := Lib.hid (fun (v u : Value) W (h1 : Vs W (fun _ => True) v (trn 31 n a)) (h2 : Vs W (fun _ => True) u (trn 31 n b)) => dot_any v u _ _ W h1 h2 (okV_trn oa HS.out.1 31 n).2 (okV_trn ob HS.out.2 31 n).2)
          rw [f3] at H5
          rw [f4] at H6
          clear f1 f2 f3 f4 hp HS
          generalize a.length = M at *
          generalize b.length = N at *
          go_enter Try.func4, Try.ntmps4
          go_wp2_with fail
          refine HLIVE.out.mono ?_
          rintro e w1 ⟨rfl, hb1⟩
          have HB1 := Lib.hid hb1
          clear hb1
          go_wp2_with fail
          refine (H1.out _ HB1.out).mono ?_
          intro e w2 hg
          obtain ⟨A2, c2, rfl, -, hs2, hb2⟩ := gives_vz hg
          clear hg
          have HS2 := Lib.hid hs2
          have HB2 := Lib.hid (HB1.out.trans (hb2.mono HB1.out.size))
          clear hb2 hs2
          go_wp2_with fail
          refine (H2.out _ HB2.out).mono ?_
          intro e w3 hg
          obtain ⟨A3, c3, rfl, -, hs3, hb3⟩ := gives_vz hg
          clear hg
          have HS2 := Lib.hid (HS2.out.below hb3)
          have HS3 := Lib.hid hs3
          have HB3 := Lib.hid (HB2.out.trans (hb3.mono HB2.out.size))
          clear hb3 hs3
          go_wp2_with fail
          refine (H3.out _ HB3.out).mono ?_
          intro e w4 hg
          obtain ⟨rfl, hb4⟩ := gives_iz hg
          clear hg
          have HS2 := Lib.hid (HS2.out.below hb4)
          have HS3 := Lib.hid (HS3.out.below hb4)
          have HB4 := Lib.hid (HB3.out.trans (hb4.mono HB3.out.size))
          clear hb4
          go_wp2_with fail
          refine (H4.out _ HB4.out).mono ?_
          intro e w5 hg
          obtain ⟨rfl, hb5⟩ := gives_iz hg
          clear hg
          have HS2 := Lib.hid (HS2.out.below hb5)
          have HS3 := Lib.hid (HS3.out.below hb5)
          have HB5 := Lib.hid (HB4.out.trans (hb5.mono HB4.out.size))
          clear hb5
          go_wp2_with fail
          refine (H5.out _ _ _ HS2.out HS3.out).mono ?_
          intro e w6 hg
          obtain ⟨rfl, hb6⟩ := gives_iz hg
          clear hg
          have HS2 := Lib.hid (HS2.out.below hb6)
          have HS3 := Lib.hid (HS3.out.below hb6)
          have HB6 := Lib.hid (HB5.out.trans (hb6.mono HB5.out.size))
          clear hb6
          go_wp2_with fail
          refine (H6.out _ _ _ HS2.out HS3.out).mono ?_
          intro e w7 hg
          obtain ⟨rfl, hb7⟩ := gives_iz hg
          clear hg
          have HS2 := Lib.hid (HS2.out.below hb7)
          have HS3 := Lib.hid (HS3.out.below hb7)
          have HB7 := Lib.hid (HB6.out.trans (hb7.mono HB6.out.size))
          clear hb7
          go_wp2_with fail
          go_ret
          exact ⟨rfl, HB7.out⟩

end Go.Proofs.Ytjohknpjkcbjlaa
