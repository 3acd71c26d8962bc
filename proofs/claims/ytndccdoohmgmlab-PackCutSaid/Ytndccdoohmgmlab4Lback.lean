/- The law PackBack, walked. -/
import Derived.Test.Ytndccdoohmgmlab4Lparts
namespace Go.Proofs.Ytndccdoohmgmlab
open Go.RowKit Pk

set_option maxRecDepth 10000 in
set_option maxHeartbeats 8000000 in
theorem packBack_any (va vb vl : Value) (a b : List UInt8) (l : List Int) (width n : Int) (w : World) (ha : Bs w (fun _ => True) va a) (hb : Bs w (fun _ => True) vb b) (hl : Ns w (fun _ => True) vl l) :
    Calls Try.prog 5 #[va, vb, .int .i64 width, vl, .int .i64 n] w (True_ w) := by
  obtain ⟨i0, hi0, hz0, hz1, hz2⟩ := info_parts info8
  have HLIVE := Lib.hid (live3_any w)
  have HA := Lib.hid ha
  have HB := Lib.hid hb
  have HL := Lib.hid hl
  obtain ⟨A, c, rfl, hc1, hc2, _⟩ := ha
  obtain ⟨A', c', rfl, hc1', hc2', _⟩ := hb
  obtain ⟨A'', c'', rfl, hc1'', hc2'', _⟩ := hl
  unfold maxLen at hc2 hc2' hc2''
  by_cases hlen : (500 : Int) < (a.length : Int) ∨ (¬ (500 : Int) < (a.length : Int) ∧ (500 : Int) < (b.length : Int)) ∨ (¬ (500 : Int) < (a.length : Int) ∧ ¬ (500 : Int) < (b.length : Int) ∧ (500 : Int) < (l.length : Int)) ∨
      (¬ (500 : Int) < (a.length : Int) ∧ ¬ (500 : Int) < (b.length : Int) ∧ ¬ (500 : Int) < (l.length : Int) ∧ 500 < n)
  · generalize a.length = M at *
    generalize b.length = M' at *
    generalize l.length = N at *
    rcases hlen with h1 | ⟨h1, h2⟩ | ⟨h1, h2, h3⟩ | ⟨h1, h2, h3, h4⟩
    all_goals
      go_enter Try.func5, Try.ntmps5
      go_wp2_with fail
      refine HLIVE.out.mono ?_
      rintro e w1 ⟨rfl, hb1⟩
      have HB1 := Lib.hid hb1
      clear hb1
      go_wp2_with fail
      go_ret
      exact ⟨rfl, HB1.out⟩
  · have g1 : a.length ≤ 500 := by omega
    have g2 : b.length ≤ 500 := by omega
    have g3 : l.length ≤ 500 := by omega
    have g4 : n ≤ 500 := by omega
    clear hlen
    have HP1 := Lib.hid (fun W (hb : Below w.heap.size w W) => put_any _ _ a width l W (HA.out.below hb) (HL.out.below hb) (by omega) (by omega))
    have HTLI := Lib.hid (take_list b width n)
    have HBL := Lib.hid g2
    have HTK := Lib.hid (fun W (hb : Below w.heap.size w W) => take_any _ b width n W (HB.out.below hb) (by omega))
    rcases put_list a width l with ⟨e, he, hp⟩ | ⟨k, rfl, k1, k8, hf, hsz, hp⟩
    · rw [hp] at HP1
      have t1 : (e == 0) = false := by simpa using he
      have HM := Lib.hid (rfl : b.length = b.length)
      clear hp he
      generalize a.length = M at *
      generalize hM' : b.length = M' at *
      generalize l.length = N at *
      have HM' := Lib.hid hM'
      clear hM'
      go_enter Try.func5, Try.ntmps5
      go_wp2_with fail
      refine HLIVE.out.mono ?_
      rintro e w1 ⟨rfl, hb1⟩
      have HB1 := Lib.hid hb1
      clear hb1
      go_wp2_with fail
      refine (HP1.out _ HB1.out).mono ?_
      intro e wz hg
      obtain ⟨A2, c2, rfl, -, -, hb2⟩ := gives_re hg
      have HBZ := Lib.hid (HB1.out.trans (hb2.mono HB1.out.size))
      clear hg hb2
      go_wp2_with fail
      rcases HTLI.out with ⟨e, he, ht⟩ | ⟨k', m, ek, em, k1', k8', hm, hmk, ht⟩
      · have t2 : (e != 0) = true := by simpa using he
        have hk := HTK.out _ HBZ.out
        rw [ht] at hk
        clear ht he
        refine hk.mono ?_
        clear hk
        intro e w8 hg
        obtain ⟨A8, c8, A9, c9, rfl, -, -, -, -, hb8⟩ := gives_t hg
        have HB8 := Lib.hid (HBZ.out.trans (hb8.mono HBZ.out.size))
        clear hg hb8
        go_wp2_with fail
        go_ret
        exact ⟨rfl, HB8.out⟩
      · have hk := HTK.out _ HBZ.out
        rw [ht] at hk
        have HPT := Lib.hid (show ∀ (v : Value) W, Ns W (fun _ => True) v (nums k' m b) → Calls Try.prog 11 #[.slice none 0 0, .int .i64 width, v] W (GivesRE W (b.take (m * k'), 0)) from fun v W h1 => by
          have h2 := put_any _ v [] width (nums k' m b) W (bs_none _) h1 (by simp) (by rw [nums_length]; omega)
          rwa [show put [] width (nums k' m b) = (b.take (m * k'), 0) from by rw [ek]; exact put_take k1' k8' (by rw [HM'.out]; exact hmk) (by rw [HM'.out]; have := HBL.out; omega)] at h2)
        have HTD := Lib.hid (show b.take (m * k') ++ b.drop (m * k') = b from List.take_append_drop _ _)
        have HNL := Lib.hid (show (nums k' m b).length = m from nums_length _ _ _)
        obtain ⟨T, hT⟩ : ∃ T, T = b.take (m * k') := ⟨_, rfl⟩
        obtain ⟨D, hD⟩ : ∃ D, D = b.drop (m * k') := ⟨_, rfl⟩
        rw [← hT] at HPT HTD
        rw [← hD] at hk HTD
        have t3 : ((m : Int) == n) = true := by rw [em]; simp
        have hcat := cat_text HTD.out
        have hTD : T.length + D.length ≤ 500 := by
          rw [← List.length_append, HTD.out, HM'.out]
          exact HBL.out
        clear ht ek em hmk hT hD
        refine hk.mono ?_
        clear hk
        intro e w8 hg
        obtain ⟨A8, c8, A9, c9, rfl, -, -, hs8, hs9, hb8⟩ := gives_t hg
        rw [HNL.out] at hs8 ⊢
        have HS8 := Lib.hid hs8
        have HS9 := Lib.hid hs9
        have HB8 := Lib.hid (HBZ.out.trans (hb8.mono HBZ.out.size))
        clear hg hs8 hs9 hb8
        go_wp2_with fail
        refine (HPT.out _ _ HS8.out).mono ?_
        intro e w9 hg
        obtain ⟨A10, c10, rfl, -, hs10, hb9⟩ := gives_re hg
        have HB9 := Lib.hid (HB8.out.trans (hb9.mono HB8.out.size))
        have z1 := run_text hs10
        have z2 := run_text (HS9.out.below hb9)
        have z3 := run_text (HB.out.below HB9.out)
        clear hg hs10 hb9
        go_wp2_with fail
        go_ret
        exact ⟨rfl, HB9.out⟩
    · obtain ⟨q, hq⟩ : ∃ q, q = k * l.length := ⟨_, rfl⟩
      have hq4 : q ≤ 4000 := by
        have : k * l.length ≤ 8 * 500 := Nat.mul_le_mul k8 g3
        omega
      have hqi : (k : Int) * (l.length : Int) = (q : Int) := by rw [hq, Int.natCast_mul]
      have hol : (octs k l).length = q := by rw [octs_length, hq]
      have htp := take_put (k := k) (l := l) k1 k8 hf (by omega) b
      obtain ⟨O, hO⟩ : ∃ O, O = octs k l := ⟨_, rfl⟩
      rw [← hO] at hol htp hp
      rw [hp] at HP1
      have HOL := Lib.hid (show (a ++ O).length = a.length + q by rw [List.length_append, hol])
      have HTP := Lib.hid (show ∀ (v : Value) W, Bs W (fun _ => True) v (O ++ b) → Calls Try.prog 13 #[v, .int .i64 (k : Int), .int .i64 (l.length : Int)] W (GivesT W (l, b, 0)) from fun v W h1 => by
        have := take_any v (O ++ b) (k : Int) (l.length : Int) W h1 (by rw [List.length_append]; omega)
        rwa [htp] at this)
      have HTA := Lib.hid (show (a ++ O).take a.length = a from List.take_left)
      have HDA := Lib.hid (show (a ++ O ++ b).drop a.length = O ++ b by rw [List.append_assoc, List.drop_left])
      have p1 : IntKind.i64.wrap ((k : Int) * (l.length : Int)) = (q : Int) := by rw [hqi]; exact IntWalk.i64_in _ (by omega)
      have p2 : IntKind.i64.wrap ((a.length : Int) + (q : Int)) = (a.length : Int) + (q : Int) := IntWalk.i64_in _ (by omega)
      clear hp htp hO hol hf hsz hq hqi
      generalize hM : a.length = M at *
      generalize hM' : b.length = M' at *
      generalize hN : l.length = N at *
      have HM := Lib.hid hM
      have HM' := Lib.hid hM'
      have HN := Lib.hid hN
      clear hM hM' hN
      go_enter Try.func5, Try.ntmps5
      go_wp2_with fail
      refine HLIVE.out.mono ?_
      rintro e w1 ⟨rfl, hb1⟩
      have HB1 := Lib.hid hb1
      clear hb1
      go_wp2_with fail
      refine (HP1.out _ HB1.out).mono ?_
      intro e w2 hg
      obtain ⟨A2, c2, rfl, -, hs2, hb2⟩ := gives_re hg
      rw [HOL.out] at hs2 ⊢
      have hc2b := hs2.caps.2
      have HS2 := Lib.hid hs2
      have HB2 := Lib.hid (HB1.out.trans (hb2.mono HB1.out.size))
      clear hg hb2 hs2
      go_wp2_with (first
        | (at_builtin; refine wpList_append_cells _ rfl (.const (.slice none 0 0)) (.tmp 53) _ rfl w2.heap.size 5 i0 (.int .u8 0) 1 1 Try.underlying22 hi0 hz0 hz1 hz2 rfl (by decide) (.slice none 0 0) 0 [] rfl (World.ownsRow_nil _ _ _ _) (fun _ => True) _ _ _ (octets (a ++ O)) rfl (by rw [octets_length, Nat.mul_one]; exact HOL.out) HS2.out.cells octets_one (by unfold maxLen; omega) (by omega) (Nat.le_refl _) ?_; intro v3 w3 hown3 hgr3 hgn3; have hb3 := (Below.refl w2.heap.size w2).grown hgr3 (Nat.le_refl _) (by simp [Value.ownBlock]))
        | (at_builtin; refine wpList_append_cells _ rfl (.tmp 54) (.tmp 55) _ rfl w2.heap.size 5 i0 (.int .u8 0) 1 1 Try.underlying22 hi0 hz0 hz1 hz2 rfl (by decide) _ _ _ rfl hown3 (fun _ => True) _ _ _ (octets b) rfl (by rw [octets_length, Nat.mul_one]; exact HM'.out) ((HB.out.below HB2.out).below hb3).cells octets_one (by unfold maxLen; omega) (by omega) hb3.size ?_))
      intro v4 w4 hown4 hgr4 hgn4
      have hb4 : Below w2.heap.size w2 w4 := hb3.grown hgr4 hb3.size (fun i hi => (hown3.lt i hi).1)
      have hs4 : Bs w4 (fun _ => True) v4 (a ++ O ++ b) := by
        have h := hown4
        simp only [List.nil_append, ← octets_append] at h
        exact Bs.of_own h (fun _ _ => trivial)
      obtain ⟨A4, c4, rfl⟩ : ∃ A4 c4, v4 = .slice A4 (M + q + M') c4 := by
        obtain ⟨A4, c4, he, _⟩ := hs4
        exact ⟨A4, c4, by rw [he, List.length_append, HOL.out, HM'.out]⟩
      have x1 := run_text_drewn ((HS2.out.below hb4).upto_ (j := M) (by omega))
      have x2 := run_text_drewn ((HA.out.below HB2.out).below hb4)
      rw [HTA.out] at x1
      have HS4 := Lib.hid hs4
      have HB4 := Lib.hid (HB2.out.trans (hb4.mono HB2.out.size))
      clear hown3 hgr3 hgn3 hb3 hown4 hgr4 hgn4 hb4 hs4
      have y1 : (M : Int) ≤ c2 := by omega
      go_wp2_with fail
      go_quiet (fail)
      have HB5 := Lib.hid (below_drewN HB4.out nq)
      have HS5 := Lib.hid (show Bs (w4.drewN nq) _ _ _ from HS4.out.keep (w' := w4.drewN nq) fun _ _ _ => rfl)
      generalize w4.drewN nq = w5 at *
      have hbh := HS5.out.behind_ (i := M) (by omega)
      rw [HDA.out] at hbh
      clear x1 x2 y1 p1 p2 hc2b
      rcases hbh with ⟨rfl, e1, e2, e3, hnil⟩ | ⟨ad, rfl, e1, e2, hnil⟩ | ⟨ad, rfl, hne, hlt, htail⟩
      all_goals
        first
          | (have HNIL := Lib.hid hnil; clear hnil)
          | (have HTAIL := Lib.hid htail; clear htail)
      · obtain rfl : M = 0 := e3
        obtain rfl : q = 0 := by omega
        obtain rfl : M' = 0 := by omega
        subst e1
        clear e2
        go_wp2_with fail
        refine (HTP.out _ _ (by rw [HNIL.out]; exact Bs.nothing _ 0 (by simp [maxLen]) (fun _ => rfl))).mono ?_
        intro e w6 hg
        obtain ⟨A6, c6, A7, c7, rfl, -, -, hs6, hs7, hb6⟩ := gives_t hg
        rw [HN.out] at hs6 ⊢
        rw [HM'.out] at hs7 ⊢
        have HS6 := Lib.hid hs6
        have HS7 := Lib.hid hs7
        have HB6 := Lib.hid (HB5.out.trans (hb6.mono HB5.out.size))
        clear hg hs6 hs7 hb6
        go_wp2_with fail
        refine (sameInts_any _ _ l l _ HS6.out (HL.out.below HB6.out)).mono ?_
        rw [decide_eq_true rfl]
        rintro e w7 ⟨rfl, hb7⟩
        have HBZ := Lib.hid (HB6.out.trans (hb7.mono HB6.out.size))
        have z1 := run_text (HS7.out.below hb7)
        have z2 := run_text (HB.out.below HBZ.out)
        clear hb7
        go_wp2_with fail
        clear z1 z2
        rcases HTLI.out with ⟨e, he, ht⟩ | ⟨k', m, ek, em, k1', k8', hm, hmk, ht⟩
        · have t2 : (e != 0) = true := by simpa using he
          have hk := HTK.out _ HBZ.out
          rw [ht] at hk
          clear ht he
          refine hk.mono ?_
          clear hk
          intro e w8 hg
          obtain ⟨A8, c8, A9, c9, rfl, -, -, -, -, hb8⟩ := gives_t hg
          have HB8 := Lib.hid (HBZ.out.trans (hb8.mono HBZ.out.size))
          clear hg hb8
          go_wp2_with fail
          go_ret
          exact ⟨rfl, HB8.out⟩
        · have hk := HTK.out _ HBZ.out
          rw [ht] at hk
          have HPT := Lib.hid (show ∀ (v : Value) W, Ns W (fun _ => True) v (nums k' m b) → Calls Try.prog 11 #[.slice none 0 0, .int .i64 (k : Int), v] W (GivesRE W (b.take (m * k'), 0)) from fun v W h1 => by
            have h2 := put_any _ v [] (k : Int) (nums k' m b) W (bs_none _) h1 (by simp) (by rw [nums_length]; omega)
            rwa [show put [] (k : Int) (nums k' m b) = (b.take (m * k'), 0) from by rw [ek]; exact put_take k1' k8' (by rw [HM'.out]; exact hmk) (by rw [HM'.out]; have := HBL.out; omega)] at h2)
          have HTD := Lib.hid (show b.take (m * k') ++ b.drop (m * k') = b from List.take_append_drop _ _)
          have HNL := Lib.hid (show (nums k' m b).length = m from nums_length _ _ _)
          obtain ⟨T, hT⟩ : ∃ T, T = b.take (m * k') := ⟨_, rfl⟩
          obtain ⟨D, hD⟩ : ∃ D, D = b.drop (m * k') := ⟨_, rfl⟩
          rw [← hT] at HPT HTD
          rw [← hD] at hk HTD
          have t3 : ((m : Int) == n) = true := by rw [em]; simp
          have hcat := cat_text HTD.out
          have hTD : T.length + D.length ≤ 500 := by
            rw [← List.length_append, HTD.out, HM'.out]
            exact HBL.out
          clear ht ek em hmk hT hD
          refine hk.mono ?_
          clear hk
          intro e w8 hg
          obtain ⟨A8, c8, A9, c9, rfl, -, -, hs8, hs9, hb8⟩ := gives_t hg
          rw [HNL.out] at hs8 ⊢
          have HS8 := Lib.hid hs8
          have HS9 := Lib.hid hs9
          have HB8 := Lib.hid (HBZ.out.trans (hb8.mono HBZ.out.size))
          clear hg hs8 hs9 hb8
          go_wp2_with fail
          refine (HPT.out _ _ HS8.out).mono ?_
          intro e w9 hg
          obtain ⟨A10, c10, rfl, -, hs10, hb9⟩ := gives_re hg
          have HB9 := Lib.hid (HB8.out.trans (hb9.mono HB8.out.size))
          have z1 := run_text hs10
          have z2 := run_text (HS9.out.below hb9)
          have z3 := run_text (HB.out.below HB9.out)
          clear hg hs10 hb9
          go_wp2_with fail
          go_ret
          exact ⟨rfl, HB9.out⟩
      · obtain rfl : q = 0 := by omega
        obtain rfl : M' = 0 := by omega
        subst e1
        clear e2
        go_wp2_with fail
        refine (HTP.out _ _ (by rw [HNIL.out]; exact Bs.nothing _ 0 (by simp [maxLen]) (fun h => by cases h))).mono ?_
        intro e w6 hg
        obtain ⟨A6, c6, A7, c7, rfl, -, -, hs6, hs7, hb6⟩ := gives_t hg
        rw [HN.out] at hs6 ⊢
        rw [HM'.out] at hs7 ⊢
        have HS6 := Lib.hid hs6
        have HS7 := Lib.hid hs7
        have HB6 := Lib.hid (HB5.out.trans (hb6.mono HB5.out.size))
        clear hg hs6 hs7 hb6
        go_wp2_with fail
        refine (sameInts_any _ _ l l _ HS6.out (HL.out.below HB6.out)).mono ?_
        rw [decide_eq_true rfl]
        rintro e w7 ⟨rfl, hb7⟩
        have HBZ := Lib.hid (HB6.out.trans (hb7.mono HB6.out.size))
        have z1 := run_text (HS7.out.below hb7)
        have z2 := run_text (HB.out.below HBZ.out)
        clear hb7
        go_wp2_with fail
        clear z1 z2
        rcases HTLI.out with ⟨e, he, ht⟩ | ⟨k', m, ek, em, k1', k8', hm, hmk, ht⟩
        · have t2 : (e != 0) = true := by simpa using he
          have hk := HTK.out _ HBZ.out
          rw [ht] at hk
          clear ht he
          refine hk.mono ?_
          clear hk
          intro e w8 hg
          obtain ⟨A8, c8, A9, c9, rfl, -, -, -, -, hb8⟩ := gives_t hg
          have HB8 := Lib.hid (HBZ.out.trans (hb8.mono HBZ.out.size))
          clear hg hb8
          go_wp2_with fail
          go_ret
          exact ⟨rfl, HB8.out⟩
        · have hk := HTK.out _ HBZ.out
          rw [ht] at hk
          have HPT := Lib.hid (show ∀ (v : Value) W, Ns W (fun _ => True) v (nums k' m b) → Calls Try.prog 11 #[.slice none 0 0, .int .i64 (k : Int), v] W (GivesRE W (b.take (m * k'), 0)) from fun v W h1 => by
            have h2 := put_any _ v [] (k : Int) (nums k' m b) W (bs_none _) h1 (by simp) (by rw [nums_length]; omega)
            rwa [show put [] (k : Int) (nums k' m b) = (b.take (m * k'), 0) from by rw [ek]; exact put_take k1' k8' (by rw [HM'.out]; exact hmk) (by rw [HM'.out]; have := HBL.out; omega)] at h2)
          have HTD := Lib.hid (show b.take (m * k') ++ b.drop (m * k') = b from List.take_append_drop _ _)
          have HNL := Lib.hid (show (nums k' m b).length = m from nums_length _ _ _)
          obtain ⟨T, hT⟩ : ∃ T, T = b.take (m * k') := ⟨_, rfl⟩
          obtain ⟨D, hD⟩ : ∃ D, D = b.drop (m * k') := ⟨_, rfl⟩
          rw [← hT] at HPT HTD
          rw [← hD] at hk HTD
          have t3 : ((m : Int) == n) = true := by rw [em]; simp
          have hcat := cat_text HTD.out
          have hTD : T.length + D.length ≤ 500 := by
            rw [← List.length_append, HTD.out, HM'.out]
            exact HBL.out
          clear ht ek em hmk hT hD
          refine hk.mono ?_
          clear hk
          intro e w8 hg
          obtain ⟨A8, c8, A9, c9, rfl, -, -, hs8, hs9, hb8⟩ := gives_t hg
          rw [HNL.out] at hs8 ⊢
          have HS8 := Lib.hid hs8
          have HS9 := Lib.hid hs9
          have HB8 := Lib.hid (HBZ.out.trans (hb8.mono HBZ.out.size))
          clear hg hs8 hs9 hb8
          go_wp2_with fail
          refine (HPT.out _ _ HS8.out).mono ?_
          intro e w9 hg
          obtain ⟨A10, c10, rfl, -, hs10, hb9⟩ := gives_re hg
          have HB9 := Lib.hid (HB8.out.trans (hb9.mono HB8.out.size))
          have z1 := run_text hs10
          have z2 := run_text (HS9.out.below hb9)
          have z3 := run_text (HB.out.below HB9.out)
          clear hg hs10 hb9
          go_wp2_with fail
          go_ret
          exact ⟨rfl, HB9.out⟩
      · go_wp2_with fail
        refine (HTP.out _ _ HTAIL.out).mono ?_
        intro e w6 hg
        obtain ⟨A6, c6, A7, c7, rfl, -, -, hs6, hs7, hb6⟩ := gives_t hg
        rw [HN.out] at hs6 ⊢
        rw [HM'.out] at hs7 ⊢
        have HS6 := Lib.hid hs6
        have HS7 := Lib.hid hs7
        have HB6 := Lib.hid (HB5.out.trans (hb6.mono HB5.out.size))
        clear hg hs6 hs7 hb6
        go_wp2_with fail
        refine (sameInts_any _ _ l l _ HS6.out (HL.out.below HB6.out)).mono ?_
        rw [decide_eq_true rfl]
        rintro e w7 ⟨rfl, hb7⟩
        have HBZ := Lib.hid (HB6.out.trans (hb7.mono HB6.out.size))
        have z1 := run_text (HS7.out.below hb7)
        have z2 := run_text (HB.out.below HBZ.out)
        clear hb7
        go_wp2_with fail
        clear z1 z2
        rcases HTLI.out with ⟨e, he, ht⟩ | ⟨k', m, ek, em, k1', k8', hm, hmk, ht⟩
        · have t2 : (e != 0) = true := by simpa using he
          have hk := HTK.out _ HBZ.out
          rw [ht] at hk
          clear ht he
          refine hk.mono ?_
          clear hk
          intro e w8 hg
          obtain ⟨A8, c8, A9, c9, rfl, -, -, -, -, hb8⟩ := gives_t hg
          have HB8 := Lib.hid (HBZ.out.trans (hb8.mono HBZ.out.size))
          clear hg hb8
          go_wp2_with fail
          go_ret
          exact ⟨rfl, HB8.out⟩
        · have hk := HTK.out _ HBZ.out
          rw [ht] at hk
          have HPT := Lib.hid (show ∀ (v : Value) W, Ns W (fun _ => True) v (nums k' m b) → Calls Try.prog 11 #[.slice none 0 0, .int .i64 (k : Int), v] W (GivesRE W (b.take (m * k'), 0)) from fun v W h1 => by
            have h2 := put_any _ v [] (k : Int) (nums k' m b) W (bs_none _) h1 (by simp) (by rw [nums_length]; omega)
            rwa [show put [] (k : Int) (nums k' m b) = (b.take (m * k'), 0) from by rw [ek]; exact put_take k1' k8' (by rw [HM'.out]; exact hmk) (by rw [HM'.out]; have := HBL.out; omega)] at h2)
          have HTD := Lib.hid (show b.take (m * k') ++ b.drop (m * k') = b from List.take_append_drop _ _)
          have HNL := Lib.hid (show (nums k' m b).length = m from nums_length _ _ _)
          obtain ⟨T, hT⟩ : ∃ T, T = b.take (m * k') := ⟨_, rfl⟩
          obtain ⟨D, hD⟩ : ∃ D, D = b.drop (m * k') := ⟨_, rfl⟩
          rw [← hT] at HPT HTD
          rw [← hD] at hk HTD
          have t3 : ((m : Int) == n) = true := by rw [em]; simp
          have hcat := cat_text HTD.out
          have hTD : T.length + D.length ≤ 500 := by
            rw [← List.length_append, HTD.out, HM'.out]
            exact HBL.out
          clear ht ek em hmk hT hD
          refine hk.mono ?_
          clear hk
          intro e w8 hg
          obtain ⟨A8, c8, A9, c9, rfl, -, -, hs8, hs9, hb8⟩ := gives_t hg
          rw [HNL.out] at hs8 ⊢
          have HS8 := Lib.hid hs8
          have HS9 := Lib.hid hs9
          have HB8 := Lib.hid (HBZ.out.trans (hb8.mono HBZ.out.size))
          clear hg hs8 hs9 hb8
          go_wp2_with fail
          refine (HPT.out _ _ HS8.out).mono ?_
          intro e w9 hg
          obtain ⟨A10, c10, rfl, -, hs10, hb9⟩ := gives_re hg
          have HB9 := Lib.hid (HB8.out.trans (hb9.mono HB8.out.size))
          have z1 := run_text hs10
          have z2 := run_text (HS9.out.below hb9)
          have z3 := run_text (HB.out.below HB9.out)
          clear hg hs10 hb9
          go_wp2_with fail
          go_ret
          exact ⟨rfl, HB9.out⟩

end Go.Proofs.Ytndccdoohmgmlab
