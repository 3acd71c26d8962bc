/- The law TwistGroup, walked. -/
import Derived.Test.Ytjohknpjkcbjlaa7L
namespace Go.Proofs.Ytjohknpjkcbjlaa
open Go.RowKit Pk Vc Tw

theorem both_cases (a b : Int) : both a b = (0, 1) ∨ ∃ n m : Nat, a = (n : Int) ∧ b = (m : Int) ∧ n < 4 ^ 31 ∧ m < 4 ^ 31 ∧ both a b = (((bot 31 n m : Nat) : Int), 0) := by
  cases ea : okW a
  · exact .inl (both_no (.inl ea))
  · cases eb : okW b
    · exact .inl (both_no (.inr eb))
    · obtain ⟨n, rfl, hn⟩ := okW_yes ea
      obtain ⟨m, rfl, hm⟩ := okW_yes eb
      exact .inr ⟨n, m, rfl, rfl, hn, hm, both_ok hn hm⟩

set_option maxRecDepth 10000 in
set_option maxHeartbeats 4000000 in
theorem twistGroup_any (a b c : Int) (w : World) : Calls Try.prog 6 #[.int .i64 a, .int .i64 b, .int .i64 c] w (True_ w) := by
  have HLIVE := Lib.hid (live5_any w)
  have H1 := Lib.hid (fun W => both_any a b W)
  have H2 := Lib.hid (fun W => both_any b c W)
  rcases both_cases a b with e1 | ⟨n, m, rfl, rfl, hn, hm, e1⟩
  · obtain ⟨y, f, e2⟩ : ∃ y f, both b c = (y, f) := ⟨_, _, rfl⟩
    rw [e1] at H1
    rw [e2] at H2
    clear e1 e2
    go_enter Try.func6, Try.ntmps6
    go_wp2_with fail
    refine HLIVE.out.mono ?_
    rintro e w1 ⟨rfl, hb1⟩
    have HB1 := Lib.hid hb1
    clear hb1
    go_wp2_with fail
    refine (H1.out _).mono ?_
    intro e w2 hg
    obtain ⟨rfl, hb2⟩ := gives_iz hg
    have HB2 := Lib.hid (HB1.out.trans (hb2.mono HB1.out.size))
    clear hg hb2
    go_wp2_with fail
    refine (H2.out _).mono ?_
    intro e w3 hg
    obtain ⟨rfl, hb3⟩ := gives_iz hg
    have HB3 := Lib.hid (HB2.out.trans (hb3.mono HB2.out.size))
    clear hg hb3
    go_wp2_with fail
    go_ret
    exact ⟨rfl, HB3.out⟩
  · rcases both_cases (m : Int) c with e2 | ⟨m', q, em, rfl, _, hq, e2⟩
    · rw [e1] at H1
      rw [e2] at H2
      clear e1 e2
      go_enter Try.func6, Try.ntmps6
      go_wp2_with fail
      refine HLIVE.out.mono ?_
      rintro e w1 ⟨rfl, hb1⟩
      have HB1 := Lib.hid hb1
      clear hb1
      go_wp2_with fail
      refine (H1.out _).mono ?_
      intro e w2 hg
      obtain ⟨rfl, hb2⟩ := gives_iz hg
      have HB2 := Lib.hid (HB1.out.trans (hb2.mono HB1.out.size))
      clear hg hb2
      go_wp2_with fail
      refine (H2.out _).mono ?_
      intro e w3 hg
      obtain ⟨rfl, hb3⟩ := gives_iz hg
      have HB3 := Lib.hid (HB2.out.trans (hb3.mono HB2.out.size))
      clear hg hb3
      go_wp2_with fail
      go_ret
      exact ⟨rfl, HB3.out⟩
    · obtain rfl : m = m' := by omega
      have b1 := bot_lt 31 n m
      have b2 := bot_lt 31 m q
      have b3 := nt_lt 31 n
      have b4 := bot_lt 31 n n
      have H3 := Lib.hid (fun W => both_any ((bot 31 n m : Nat) : Int) (q : Int) W)
      have H4 := Lib.hid (fun W => both_any (n : Int) ((bot 31 m q : Nat) : Int) W)
      have H5 := Lib.hid (fun W => both_any (m : Int) (n : Int) W)
      have H6 := Lib.hid (fun W => not_any (n : Int) W)
      have H7 := Lib.hid (fun W => both_any (n : Int) ((nt 31 n : Nat) : Int) W)
      have H8 := Lib.hid (fun W => both_any (n : Int) (n : Int) W)
      have H9 := Lib.hid (fun W => both_any ((bot 31 n n : Nat) : Int) ((bot 31 n n : Nat) : Int) W)
      have H10 := Lib.hid (fun W => both_any (n : Int) 0 W)
      rw [e1] at H1
      rw [e2] at H2
      rw [both_ok b1 hq, bot_assoc] at H3
      rw [both_ok hn b2] at H4
      rw [both_ok hm hn, bot_comm 31 m n] at H5
      rw [nott_ok hn] at H6
      rw [both_ok hn b3, bot_nt] at H7
      rw [both_ok hn hn] at H8
      rw [both_ok b4 b4, bot_four] at H9
      rw [show (0 : Int) = ((0 : Nat) : Int) from rfl, both_ok hn (by decide), bot_zero 31 n hn] at H10
      clear e1 e2 hn hm hq em b1 b2 b3 b4
      generalize bot 31 n m = x at *
      generalize bot 31 m q = y at *
      generalize bot 31 n y = z at *
      generalize nt 31 n = u at *
      generalize bot 31 n n = v at *
      go_enter Try.func6, Try.ntmps6
      go_wp2_with fail
      refine HLIVE.out.mono ?_
      rintro e w1 ⟨rfl, hb1⟩
      have HB1 := Lib.hid hb1
      clear hb1
      go_wp2_with fail
      refine (H1.out _).mono ?_
      intro e w2 hg
      obtain ⟨rfl, hb2⟩ := gives_iz hg
      have HB2 := Lib.hid (HB1.out.trans (hb2.mono HB1.out.size))
      clear hg hb2
      go_wp2_with fail
      refine (H2.out _).mono ?_
      intro e w3 hg
      obtain ⟨rfl, hb3⟩ := gives_iz hg
      have HB3 := Lib.hid (HB2.out.trans (hb3.mono HB2.out.size))
      clear hg hb3
      go_wp2_with fail
      refine (H3.out _).mono ?_
      intro e w4 hg
      obtain ⟨rfl, hb4⟩ := gives_iz hg
      have HB4 := Lib.hid (HB3.out.trans (hb4.mono HB3.out.size))
      clear hg hb4
      go_wp2_with fail
      refine (H4.out _).mono ?_
      intro e w5 hg
      obtain ⟨rfl, hb5⟩ := gives_iz hg
      have HB5 := Lib.hid (HB4.out.trans (hb5.mono HB4.out.size))
      clear hg hb5
      go_wp2_with fail
      refine (H5.out _).mono ?_
      intro e w6 hg
      obtain ⟨rfl, hb6⟩ := gives_iz hg
      have HB6 := Lib.hid (HB5.out.trans (hb6.mono HB5.out.size))
      clear hg hb6
      go_wp2_with fail
      refine (H6.out _).mono ?_
      intro e w7 hg
      obtain ⟨rfl, hb7⟩ := gives_iz hg
      have HB7 := Lib.hid (HB6.out.trans (hb7.mono HB6.out.size))
      clear hg hb7
      go_wp2_with fail
      refine (H7.out _).mono ?_
      intro e w8 hg
      obtain ⟨rfl, hb8⟩ := gives_iz hg
      have HB8 := Lib.hid (HB7.out.trans (hb8.mono HB7.out.size))
      clear hg hb8
      go_wp2_with fail
      refine (H8.out _).mono ?_
      intro e w9 hg
      obtain ⟨rfl, hb9⟩ := gives_iz hg
      have HB9 := Lib.hid (HB8.out.trans (hb9.mono HB8.out.size))
      clear hg hb9
      go_wp2_with fail
      refine (H9.out _).mono ?_
      intro e w10 hg
      obtain ⟨rfl, hb10⟩ := gives_iz hg
      have HB10 := Lib.hid (HB9.out.trans (hb10.mono HB9.out.size))
      clear hg hb10
      go_wp2_with fail
      refine (H10.out _).mono ?_
      intro e w11 hg
      obtain ⟨rfl, hb11⟩ := gives_iz hg
      have HB11 := Lib.hid (HB10.out.trans (hb11.mono HB10.out.size))
      clear hg hb11
      go_wp2_with fail
      go_ret
      exact ⟨rfl, HB11.out⟩

end Go.Proofs.Ytjohknpjkcbjlaa
