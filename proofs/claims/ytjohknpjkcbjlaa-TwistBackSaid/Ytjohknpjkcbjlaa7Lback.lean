/- The law TwistBack, walked. -/
import Derived.Test.Ytjohknpjkcbjlaa7L
namespace Go.Proofs.Ytjohknpjkcbjlaa
open Go.RowKit Pk Vc Tw

set_option maxRecDepth 10000 in
set_option maxHeartbeats 4000000 in
theorem twistBack_any (va : Value) (v : List Int) (a b : Int) (w : World) (ha : Vs w (fun _ => True) va v) (sa : Small v) :
    Calls Try.prog 5 #[va, .int .i64 a, .int .i64 b] w (True_ w) := by
  have HLIVE := Lib.hid (live5_any w)
  have H1 := Lib.hid (fun W (h : Below w.heap.size w W) => turn_any va v a W (ha.below h) sa)
  have H3 := Lib.hid (fun W (_ : Below w.heap.size w W) => both_any a b W)
  have H4 := Lib.hid (fun W (_ : Below w.heap.size w W) => not_any a W)
  have HS := Lib.hid sa
  have HA := Lib.hid ha
  obtain ⟨A, c, rfl, hc1, hc2, _⟩ := ha
  unfold maxLen at hc2
  clear sa
  by_cases hlen : (500 : Int) < (v.length : Int)
  · clear H1 H3 H4 HS HA
    generalize v.length = M at *
    go_enter Try.func5, Try.ntmps5
    go_wp2_with fail
    refine HLIVE.out.mono ?_
    rintro e w1 ⟨rfl, hb1⟩
    have HB1 := Lib.hid hb1
    clear hb1
    go_wp2_with fail
    go_ret
    exact ⟨rfl, HB1.out⟩
  · have g1 : v.length ≤ 500 := by omega
    clear hlen
    rcases turn_cases v a with e1 | ⟨n, rfl, hn, oa, e1⟩
    · rw [e1] at H1
      clear e1 HS HA
      obtain ⟨n3, k3, e3⟩ : ∃ r_ s_, both a b = (r_, s_) := ⟨_, _, rfl⟩
      rw [e3] at H3
      clear e3
      obtain ⟨n4, k4, e4⟩ : ∃ r_ s_, nott a = (r_, s_) := ⟨_, _, rfl⟩
      rw [e4] at H4
      clear e4
      have H2 := Lib.hid (fun (u : Value) W (h : Vs W (fun _ => True) u []) => turn_any u _ b W h (fun x hx => by simp at hx))
      rw [turn_no (v := []) (w := b) (.inl rfl)] at H2
      generalize v.length = M at *
      go_enter Try.func5, Try.ntmps5
      go_wp2_with fail
      refine HLIVE.out.mono ?_
      rintro e w1 ⟨rfl, hb1⟩
      have HB1 := Lib.hid hb1
      clear hb1
      go_wp2_with fail
      refine (H1.out _ HB1.out).mono ?_
      intro e w2 hg
      obtain ⟨A2, c2, rfl, -, hs2, hb2⟩ := gives_vz hg
      clear hg
      have HS2 := Lib.hid hs2
      have HB2 := Lib.hid (HB1.out.trans (hb2.mono HB1.out.size))
      clear hb2 hs2
      go_wp2_with fail
      refine (H2.out _ _ HS2.out).mono ?_
      intro e w3 hg
      obtain ⟨A3, c3, rfl, -, -, hb3⟩ := gives_vz hg
      clear hg
      have HS2 := Lib.hid (HS2.out.below hb3)
      have HB3 := Lib.hid (HB2.out.trans (hb3.mono HB2.out.size))
      clear hb3
      go_wp2_with fail
      refine (H3.out _ HB3.out).mono ?_
      intro e w4 hg
      obtain ⟨rfl, hb4⟩ := gives_iz hg
      clear hg
      have HS2 := Lib.hid (HS2.out.below hb4)
      have HB4 := Lib.hid (HB3.out.trans (hb4.mono HB3.out.size))
      clear hb4
      go_wp2_with fail
      refine (H4.out _ HB4.out).mono ?_
      intro e w5 hg
      obtain ⟨rfl, hb5⟩ := gives_iz hg
      clear hg
      have HS2 := Lib.hid (HS2.out.below hb5)
      have HB5 := Lib.hid (HB4.out.trans (hb5.mono HB4.out.size))
      clear hb5
      go_wp2_with fail
      go_ret
      exact ⟨rfl, HB5.out⟩
    · have ht := okV_trn oa HS.out 31 n
      rw [e1] at H1
      have HL := Lib.hid (trn_length 31 n v)
      have H2 := Lib.hid (fun (u : Value) W (h : Vs W (fun _ => True) u (trn 31 n v)) => turn_any u _ b W h ht.2)
      rcases turn_cases (trn 31 n v) b with e2 | ⟨m, rfl, hm, _, e2⟩
      · rw [e2] at H2
        clear e1 e2 HS HA
        obtain ⟨n3, k3, e3⟩ : ∃ r_ s_, both (n : Int) b = (r_, s_) := ⟨_, _, rfl⟩
        rw [e3] at H3
        clear e3
        obtain ⟨n4, k4, e4⟩ : ∃ r_ s_, nott (n : Int) = (r_, s_) := ⟨_, _, rfl⟩
        rw [e4] at H4
        clear e4
        generalize v.length = M at *
        go_enter Try.func5, Try.ntmps5
        go_wp2_with fail
        refine HLIVE.out.mono ?_
        rintro e w1 ⟨rfl, hb1⟩
        have HB1 := Lib.hid hb1
        clear hb1
        go_wp2_with fail
        refine (H1.out _ HB1.out).mono ?_
        intro e w2 hg
        obtain ⟨A2, c2, rfl, -, hs2, hb2⟩ := gives_vz hg
        clear hg
        have HS2 := Lib.hid hs2
        have HB2 := Lib.hid (HB1.out.trans (hb2.mono HB1.out.size))
        clear hb2 hs2
        go_wp2_with fail
        refine (H2.out _ _ HS2.out).mono ?_
        intro e w3 hg
        obtain ⟨A3, c3, rfl, -, -, hb3⟩ := gives_vz hg
        clear hg
        have HS2 := Lib.hid (HS2.out.below hb3)
        have HB3 := Lib.hid (HB2.out.trans (hb3.mono HB2.out.size))
        clear hb3
        go_wp2_with fail
        refine (H3.out _ HB3.out).mono ?_
        intro e w4 hg
        obtain ⟨rfl, hb4⟩ := gives_iz hg
        clear hg
        have HS2 := Lib.hid (HS2.out.below hb4)
        have HB4 := Lib.hid (HB3.out.trans (hb4.mono HB3.out.size))
        clear hb4
        go_wp2_with fail
        refine (H4.out _ HB4.out).mono ?_
        intro e w5 hg
        obtain ⟨rfl, hb5⟩ := gives_iz hg
        clear hg
        have HS2 := Lib.hid (HS2.out.below hb5)
        have HB5 := Lib.hid (HB4.out.trans (hb5.mono HB4.out.size))
        clear hb5
        go_wp2_with fail
        go_ret
        exact ⟨rfl, HB5.out⟩
      · have b1 := nt_lt 31 n
        have b2 := bot_lt 31 n m
        have H5 := Lib.hid (fun (u : Value) W (h : Vs W (fun _ => True) u (trn 31 n v)) => back_any u _ (n : Int) W h ht.2)
        have H6 := Lib.hid (fun (u : Value) W (h : Vs W (fun _ => True) u (trn 31 n v)) => turn_any u _ ((nt 31 n : Nat) : Int) W h ht.2)
        have H7 := Lib.hid (fun W (h : Below w.heap.size w W) => turn_any _ v ((bot 31 n m : Nat) : Int) W (HA.out.below h) HS.out)
        rw [e2] at H2
        rw [both_ok hn hm] at H3
        rw [nott_ok hn] at H4
        rw [back_ok hn, turn_ok ht.1 b1, trn_nt] at H5
        rw [turn_ok ht.1 b1, trn_nt] at H6
        rw [turn_ok oa b2, trn_bot] at H7
        clear e1 e2 HS ht oa hn hm b1 b2
        generalize bot 31 n m = q at *
        generalize nt 31 n = r at *
        generalize trn 31 m (trn 31 n v) = y at *
        generalize trn 31 n v = x at *
        generalize v.length = M at *
        go_enter Try.func5, Try.ntmps5
        go_wp2_with fail
        refine HLIVE.out.mono ?_
        rintro e w1 ⟨rfl, hb1⟩
        have HB1 := Lib.hid hb1
        clear hb1
        go_wp2_with fail
        refine (H1.out _ HB1.out).mono ?_
        intro e w2 hg
        obtain ⟨A2, c2, rfl, -, hs2, hb2⟩ := gives_vz hg
        clear hg
        have HS2 := Lib.hid hs2
        have HB2 := Lib.hid (HB1.out.trans (hb2.mono HB1.out.size))
        clear hb2 hs2
        go_wp2_with fail
        refine (H2.out _ _ HS2.out).mono ?_
        intro e w3 hg
        obtain ⟨A3, c3, rfl, -, hs3, hb3⟩ := gives_vz hg
        clear hg
        have HS2 := Lib.hid (HS2.out.below hb3)
        have HS3 := Lib.hid hs3
        have HB3 := Lib.hid (HB2.out.trans (hb3.mono HB2.out.size))
        clear hb3 hs3
        go_wp2_with fail
        refine (H3.out _ HB3.out).mono ?_
        intro e w4 hg
        obtain ⟨rfl, hb4⟩ := gives_iz hg
        clear hg
        have HS2 := Lib.hid (HS2.out.below hb4)
        have HS3 := Lib.hid (HS3.out.below hb4)
        have HB4 := Lib.hid (HB3.out.trans (hb4.mono HB3.out.size))
        clear hb4
        go_wp2_with fail
        refine (H4.out _ HB4.out).mono ?_
        intro e w5 hg
        obtain ⟨rfl, hb5⟩ := gives_iz hg
        clear hg
        have HS2 := Lib.hid (HS2.out.below hb5)
        have HS3 := Lib.hid (HS3.out.below hb5)
        have HB5 := Lib.hid (HB4.out.trans (hb5.mono HB4.out.size))
        clear hb5
        go_wp2_with fail
        refine (H5.out _ _ HS2.out).mono ?_
        intro e w6 hg
        obtain ⟨A6, c6, rfl, -, hs6, hb6⟩ := gives_vz hg
        clear hg
        have HS2 := Lib.hid (HS2.out.below hb6)
        have HS3 := Lib.hid (HS3.out.below hb6)
        have HS6 := Lib.hid hs6
        have HB6 := Lib.hid (HB5.out.trans (hb6.mono HB5.out.size))
        clear hb6 hs6
        go_wp2_with fail
        refine (H6.out _ _ HS2.out).mono ?_
        intro e w7 hg
        obtain ⟨A7, c7, rfl, -, hs7, hb7⟩ := gives_vz hg
        clear hg
        have HS2 := Lib.hid (HS2.out.below hb7)
        have HS3 := Lib.hid (HS3.out.below hb7)
        have HS6 := Lib.hid (HS6.out.below hb7)
        have HS7 := Lib.hid hs7
        have HB7 := Lib.hid (HB6.out.trans (hb7.mono HB6.out.size))
        clear hb7 hs7
        go_wp2_with fail
        refine (H7.out _ HB7.out).mono ?_
        intro e w8 hg
        obtain ⟨A8, c8, rfl, -, hs8, hb8⟩ := gives_vz hg
        clear hg
        have HS2 := Lib.hid (HS2.out.below hb8)
        have HS3 := Lib.hid (HS3.out.below hb8)
        have HS6 := Lib.hid (HS6.out.below hb8)
        have HS7 := Lib.hid (HS7.out.below hb8)
        have HS8 := Lib.hid hs8
        have HB8 := Lib.hid (HB7.out.trans (hb8.mono HB7.out.size))
        clear hb8 hs8
        go_wp2_with fail
        refine (same_any _ _ v v _ HS6.out (HA.out.below HB8.out)).mono ?_
        rw [decide_eq_true rfl]
        rintro e w9 ⟨rfl, hb9⟩
        have HS2 := Lib.hid (HS2.out.below hb9)
        have HS3 := Lib.hid (HS3.out.below hb9)
        have HS6 := Lib.hid (HS6.out.below hb9)
        have HS7 := Lib.hid (HS7.out.below hb9)
        have HS8 := Lib.hid (HS8.out.below hb9)
        have HB9 := Lib.hid (HB8.out.trans (hb9.mono HB8.out.size))
        clear hb9
        go_wp2_with fail
        refine (same_any _ _ v v _ HS7.out (HA.out.below HB9.out)).mono ?_
        rw [decide_eq_true rfl]
        rintro e w10 ⟨rfl, hb10⟩
        have HS2 := Lib.hid (HS2.out.below hb10)
        have HS3 := Lib.hid (HS3.out.below hb10)
        have HS6 := Lib.hid (HS6.out.below hb10)
        have HS7 := Lib.hid (HS7.out.below hb10)
        have HS8 := Lib.hid (HS8.out.below hb10)
        have HB10 := Lib.hid (HB9.out.trans (hb10.mono HB9.out.size))
        clear hb10
        go_wp2_with fail
        refine (same_any _ _ y y _ HS8.out HS3.out).mono ?_
        rw [decide_eq_true rfl]
        rintro e w11 ⟨rfl, hb11⟩
        have HS2 := Lib.hid (HS2.out.below hb11)
        have HS3 := Lib.hid (HS3.out.below hb11)
        have HS6 := Lib.hid (HS6.out.below hb11)
        have HS7 := Lib.hid (HS7.out.below hb11)
        have HS8 := Lib.hid (HS8.out.below hb11)
        have HB11 := Lib.hid (HB10.out.trans (hb11.mono HB10.out.size))
        clear hb11
        go_wp2_with fail
        go_ret
        exact ⟨rfl, HB11.out⟩

end Go.Proofs.Ytjohknpjkcbjlaa
