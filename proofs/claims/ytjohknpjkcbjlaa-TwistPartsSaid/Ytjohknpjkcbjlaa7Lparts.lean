/- The law TwistParts, walked. -/
import Derived.Test.Ytjohknpjkcbjlaa7L
import Derived.Deep.RegionHeld3
import Derived.Deep.RegionLaw
namespace Go.Proofs.Ytjohknpjkcbjlaa
open Go.RowKit Pk Vc Tw

set_option maxRecDepth 10000 in
set_option maxHeartbeats 4000000 in
theorem twistParts_any (va : Value) (v : List Int) (way pairs : Int) (w : World) (ha : Vs w (fun _ => True) va v) (sa : Small v) :
    Calls Try.prog 7 #[va, .int .i64 way, .int .i64 pairs] w (True_ w) := by
  obtain ⟨i0, hi0, hz0, hz1, hz2⟩ := info_parts infoV
  have HLIVE := Lib.hid (live5_any w)
  have H1 := Lib.hid (fun W (h : Below w.heap.size w W) => turn_any va v way W (ha.below h) sa)
  have HA := Lib.hid ha
  have HS := Lib.hid sa
  obtain ⟨A, c, rfl, hc1, hc2, _⟩ := ha
  unfold maxLen at hc2
  clear sa
  by_cases hlen : (62 : Int) < (v.length : Int) ∨ (¬ (62 : Int) < (v.length : Int) ∧ pairs < 1) ∨ (¬ (62 : Int) < (v.length : Int) ∧ ¬ pairs < 1 ∧ 31 < pairs) ∨ (¬ (62 : Int) < (v.length : Int) ∧ ¬ pairs < 1 ∧ ¬ 31 < pairs ∧ (v.length : Int) ≤ 2 * pairs)
  · clear H1 HA HS
    generalize v.length = M at *
    rcases hlen with h1 | ⟨h1, h2⟩ | ⟨h1, h2, h3⟩ | ⟨h1, h2, h3, h4⟩
    all_goals
      go_enter Try.func7, Try.ntmps7
      go_wp2_with fail
      refine HLIVE.out.mono ?_
      rintro e w1 ⟨rfl, hb1⟩
      have HB1 := Lib.hid hb1
      clear hb1
      go_wp2_with fail
      go_ret
      exact ⟨rfl, HB1.out⟩
  · have g1 : v.length ≤ 62 := by omega
    obtain ⟨p, rfl⟩ : ∃ p : Nat, pairs = (p : Int) := ⟨pairs.toNat, by omega⟩
    have p1 : 1 ≤ p := by omega
    have p2 : p ≤ 31 := by omega
    have p3 : 2 * p < v.length := by omega
    clear hlen
    rcases turn_cases v way with e1 | ⟨n, rfl, hn, oa, e1⟩
    · rw [e1] at H1
      clear e1 HS HA
      generalize v.length = M at *
      go_enter Try.func7, Try.ntmps7
      go_wp2_with fail
      refine HLIVE.out.mono ?_
      rintro e w1 ⟨rfl, hb1⟩
      have HB1 := Lib.hid hb1
      clear hb1
      go_wp2_with fail
      refine (H1.out _ HB1.out).mono ?_
      intro e w2 hg
      obtain ⟨A2, c2, rfl, -, -, hb2⟩ := gives_vz hg
      clear hg
      have HB2 := Lib.hid (HB1.out.trans (hb2.mono HB1.out.size))
      clear hb2
      go_wp2_with fail
      go_ret
      exact ⟨rfl, HB2.out⟩
    · obtain ⟨ad, rfl⟩ := HA.out.some_ (by omega)
      have hp := trn_parts (n := n) g1 p3
      have ot := okV_take oa (c := 2 * p) (by omega) p3
      have st : Small (v.take (2 * p)) ∧ Small (v.drop (2 * p)) := ⟨fun x hx => HS.out x (List.mem_of_mem_take hx), fun x hx => HS.out x (List.mem_of_mem_drop hx)⟩
      have hq : n / 4 ^ p < 4 ^ 31 := Nat.lt_of_le_of_lt (Nat.div_le_self _ _) hn
      have H2 := Lib.hid (fun W (h : Below w.heap.size w W) => turn_any _ _ (n : Int) W ((HA.out.below h).upto_ (j := 2 * p) (by omega)) st.1)
      have HSH := Lib.hid (show (n : Int) / 2 ^ (2 * p) = ((n / 4 ^ p : Nat) : Int) by
        have e : (2 : Int) ^ (2 * p) = ((4 ^ p : Nat) : Int) := by rw [Int.pow_mul]; simp
        rw [e]
        exact (Int.natCast_ediv _ _).symm)
      rw [e1, hp] at H1
      rw [turn_ok ot.1 hn] at H2
      have H3 := Lib.hid (show ∀ (W : World) (z : Int), z = ((n / 4 ^ p : Nat) : Int) → Below w.heap.size w W → Calls Try.prog 11 #[.slice (some (ad.add (2 * p))) (v.length - 2 * p) (c - 2 * p), .int .i64 z] W (GivesV W (trn 31 (n / 4 ^ p) (v.drop (2 * p)), 0)) from fun W z hz h => by
        have h3 := turn_any _ _ ((n / 4 ^ p : Nat) : Int) W ((HA.out.below h).tail (i := 2 * p) (by omega)) st.2
        rw [turn_ok ot.2 hq] at h3
        rw [hz]
        exact h3)
      have hn2 : n < 4611686018427387904 := by rwa [show (4 : Nat) ^ 31 = 4611686018427387904 by decide] at hn
      have HLX := Lib.hid (show (trn 31 n (v.take (2 * p))).length = 2 * p by rw [trn_length, List.length_take]; omega)
      have HLY := Lib.hid (show (trn 31 (n / 4 ^ p) (v.drop (2 * p))).length = v.length - 2 * p by rw [trn_length, List.length_drop])
      have HL1 := Lib.hid (show (trn 31 n (v.take (2 * p)) ++ trn 31 (n / 4 ^ p) (v.drop (2 * p))).length = v.length by rw [List.length_append, HLX.out, HLY.out]; omega)
      clear e1 hp ot st hq hn oa HS HA
      generalize trn 31 n (v.take (2 * p)) = X at *
      generalize trn 31 (n / 4 ^ p) (v.drop (2 * p)) = Y at *
      generalize v.length = M at *
      obtain ⟨q, hq⟩ : ∃ q, q = 2 * p := ⟨_, rfl⟩
      rw [← hq] at HSH H2 H3 HLX HLY p3
      have hm2 : 2 * (p : Int) = (q : Int) := by omega
      have q1 : IntKind.i64.wrap (2 * (p : Int)) = (q : Int) := by rw [hm2]; exact IntWalk.i64_in _ (by omega)
      have j1 : ¬ (M : Int) ≤ 2 * (p : Int) := by omega
      have k1 : (q : Int) ≤ (M : Int) := by omega
      have k2 : (M : Int) ≤ (c : Int) := by omega
      have k3 : (0 : Int) ≤ (q : Int) := by omega
      have k4 : ¬ c = q := by omega
      have k5 : (q : Int) ≤ (c : Int) := by omega
      have k6 : (q : Int) < 64 := by omega
      have HM2 := Lib.hid hm2
      clear hq hm2
      go_enter Try.func7, Try.ntmps7
      go_wp2_with fail
      refine HLIVE.out.mono ?_
      rintro e w1 ⟨rfl, hb1⟩
      have HB1 := Lib.hid hb1
      clear hb1
      go_wp2_with fail
      refine (H1.out _ HB1.out).mono ?_
      intro e w2 hg
      obtain ⟨A2, c2, rfl, -, hs2, hb2⟩ := gives_vz hg
      rw [HL1.out] at hs2 ⊢
      clear hg
      have HS2 := Lib.hid hs2
      have HB2 := Lib.hid (HB1.out.trans (hb2.mono HB1.out.size))
      clear hb2 hs2
      go_wp2_with fail
      refine (H2.out _ HB2.out).mono ?_
      intro e w3 hg
      obtain ⟨A3, c3, rfl, -, hs3, hb3⟩ := gives_vz hg
      rw [HLX.out] at hs3 ⊢
      clear hg
      have HS2 := Lib.hid (HS2.out.below hb3)
      have HS3 := Lib.hid hs3
      have HB3 := Lib.hid (HB2.out.trans (hb3.mono HB2.out.size))
      clear hb3 hs3
      go_wp2_with fail
      go_region_held3 (fun w' => True) (first | go_keep)
        (first
          | (go_at_call 11
             refine (H3.out _ _ (by first | exact HSH.out | exact HSH.out.symm) HB3.out.drew).mono ?_
             intro e w4 hg
             obtain ⟨A4, c4, rfl, -, hs4, hb4⟩ := gives_vz hg
             rw [HLY.out] at hs4 ⊢
             have HS4 := Lib.hid hs4
             have HSA := Lib.hid ((HS2.out.keep (w' := w3.drew) fun _ _ _ => rfl).below hb4)
             have HSX := Lib.hid ((HS3.out.keep (w' := w3.drew) fun _ _ _ => rfl).below hb4)
             have HB4 := Lib.hid (HB3.out.drew.trans (hb4.mono HB3.out.drew.size))
             clear hg hs4 hb4))
      go_wp2_with (first
        | (at_builtin; refine wpList_append_guarded _ rfl (.const (.slice none 0 0)) (.tmp 77) _ rfl w4.heap.size 33 i0 (.int .i16 0) 1 2 Try.underlying23 hi0 hz0 hz1 hz2 rfl (by decide) (.slice none 0 0) 0 [] rfl (World.ownsRow_nil _ _ _ _) (fun _ => True) _ _ _ (nshorts X) rfl (by rw [nshorts_length, Nat.mul_one]; exact HLX.out) HSX.out.cells nshorts_one (by unfold maxLen; omega) (by omega) (Nat.le_refl _) ?_; intro v5 w5 hown5 hgr5 hgn5; have hb5 := (Below.refl w4.heap.size w4).grown hgr5 (Nat.le_refl _) (by simp [Value.ownBlock]))
        | (at_builtin; refine wpList_append_guarded _ rfl (.tmp 78) (.tmp 79) _ rfl w4.heap.size 33 i0 (.int .i16 0) 1 2 Try.underlying23 hi0 hz0 hz1 hz2 rfl (by decide) _ _ _ rfl hown5 (fun _ => True) _ _ _ (nshorts Y) rfl (by rw [nshorts_length, Nat.mul_one]; exact HLY.out) (HS4.out.below hb5).cells nshorts_one (by unfold maxLen; omega) (by omega) hb5.size ?_))
      intro v6 w6 hown6 hgr6 hgn6
      have hb6 : Below w4.heap.size w4 w6 := hb5.grown hgr6 hb5.size (fun i hi => (hown5.lt i hi).1)
      have HS6 := Lib.hid (show Vs w6 (fun _ => True) v6 (X ++ Y) from Vs.of_own (by
        have h := hown6
        simp only [List.nil_append, ← nshorts_append] at h
        exact h) fun _ _ => trivial)
      have HS2' := Lib.hid (HSA.out.below hb6)
      have HB6 := Lib.hid (HB4.out.trans (hb6.mono HB4.out.size))
      obtain ⟨A6, c6, rfl⟩ := own_slice hown6
      clear hown5 hgr5 hgn5 hb5 hown6 hgr6 hgn6 hb6
      go_wp2_with fail
      refine (same_any _ _ (X ++ Y) (X ++ Y) _ HS2'.out HS6.out).mono ?_
      rw [decide_eq_true rfl]
      rintro e w7 ⟨rfl, hb7⟩
      have HB7 := Lib.hid (HB6.out.trans (hb7.mono HB6.out.size))
      clear hb7
      go_wp2_with fail
      go_ret
      exact ⟨rfl, HB7.out⟩

end Go.Proofs.Ytjohknpjkcbjlaa
