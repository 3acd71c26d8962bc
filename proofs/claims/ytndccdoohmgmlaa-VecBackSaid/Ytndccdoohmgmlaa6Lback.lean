/- The law VecBack, walked. -/
import Derived.Test.Ytndccdoohmgmlaa6L
import Derived.Test.Ytndccdoohmgmlaa6Q
namespace Go.Proofs.Ytndccdoohmgmlaa
open Go.RowKit Pk Vc

theorem gives_v {w : World} {l : List Int} {k : Int} {e : Ending} {w' : World} (h : GivesV w (l, k) e w') : ∃ A c, e = .returned (.tuple #[.slice A l.length c, .int .i64 k]) ∧ w'.ownsRow w.heap.size 36 1 (.slice A l.length c) l.length (nshorts l) ∧ Vs w' (fun _ => True) (.slice A l.length c) l ∧ Below w.heap.size w w' := by
  obtain ⟨v, he, ho, hb⟩ := h
  dsimp only at he ho
  obtain ⟨A, c, rfl⟩ := own_slice ho
  exact ⟨A, c, he, ho, Vs.of_own ho fun _ _ => trivial, hb⟩

theorem frm_cases (b : List UInt8) : frm b = ([], 2) ∨ (frm b = (sh b, 0) ∧ okV (sh b) = true ∧ bts (sh b) = (b, 0)) := by
  by_cases h1 : b.length % 2 = 0
  · cases h2 : okV (sh b)
    · exact .inl (frm_no (.inr h2))
    · refine .inr ⟨frm_ok h1 h2, rfl, ?_⟩
      rw [bts_ok h2, sh, octs_nums (by omega), List.take_of_length_le (by omega)]
  · exact .inl (frm_no (.inl h1))
theorem frm_bts {v : List Int} (h : okV v = true) (s : Small v) : frm (octs 2 v) = (v, 0) := by
  have hl : (octs 2 v).length = 2 * v.length := octs_length 2 v
  have e : sh (octs 2 v) = v := by
    have := nums_octs (all_two s) []
    rw [List.append_nil] at this
    rw [sh, hl, Nat.mul_div_cancel_left _ (by omega)]
    exact this
  rw [frm_ok (by rw [hl]; omega) (by rw [e]; exact h), e]

set_option maxRecDepth 10000 in
set_option maxHeartbeats 4000000 in
theorem vecBack_any (va vb : Value) (a : List Int) (b : List UInt8) (w : World) (ha : Vs w (fun _ => True) va a) (hb : Bs w (fun _ => True) vb b) (sa : Small a) :
    Calls Try.prog 6 #[va, vb] w (True_ w) := by
  have HLIVE := Lib.hid (live4_any w)
  have HA := Lib.hid ha
  have HB := Lib.hid hb
  obtain ⟨A, c, rfl, hc1, hc2, _⟩ := ha
  obtain ⟨A', c', rfl, hc1', hc2', _⟩ := hb
  unfold maxLen at hc2 hc2'
  by_cases hlen : (500 : Int) < (a.length : Int) ∨ (¬ (500 : Int) < (a.length : Int) ∧ (1000 : Int) < (b.length : Int))
  · clear HA HB sa
    generalize a.length = M at *
    generalize b.length = N at *
    rcases hlen with h1 | ⟨h1, h2⟩
    all_goals
      go_enter Try.func6, Try.ntmps6
      go_wp2_with fail
      refine HLIVE.out.mono ?_
      rintro e w1 ⟨rfl, hb1⟩
      have HB1 := Lib.hid hb1
      clear hb1
      go_wp2_with fail
      go_ret
      exact ⟨rfl, HB1.out⟩
  · have g1 : a.length ≤ 500 := by omega
    have g2 : b.length ≤ 1000 := by omega
    clear hlen
    have HF := Lib.hid (fun W (h : Below w.heap.size w W) => from_any _ b W (HB.out.below h) (by omega))
    have HY := Lib.hid (fun W (h : Below w.heap.size w W) => bytes_any _ a W (HA.out.below h) sa)
    have HCA := Lib.hid (fun W (h : Below w.heap.size w W) => chk_any _ a W (HA.out.below h))
    rcases frm_cases b with f1 | ⟨f1, f2, f3⟩
    · rw [f1] at HF
      clear f1
      cases ho : okV a
      · rw [chk_no ho] at HCA
        rw [bts_no ho] at HY
        clear ho sa
        generalize hM : a.length = M at *
        have HM := Lib.hid hM
        generalize hN : b.length = N at *
        have HN := Lib.hid hN
        clear hM hN
        go_enter Try.func6, Try.ntmps6
        go_wp2_with fail
        refine HLIVE.out.mono ?_
        rintro e w1 ⟨rfl, hb1⟩
        have HB1 := Lib.hid hb1
        clear hb1
        go_wp2_with fail
        refine (HF.out _ HB1.out).mono ?_
        intro e w2 hg
        obtain ⟨A2, c2, rfl, -, -, hb2⟩ := gives_v hg
        have HBX := Lib.hid (HB1.out.trans (hb2.mono HB1.out.size))
        clear hg hb2
        go_wp2_with fail
        refine (HY.out _ HBX.out).mono ?_
        intro e w5 hg
        obtain ⟨A5, c5, rfl, -, -, hb5⟩ := gives_re hg
        have HB5 := Lib.hid (HBX.out.trans (hb5.mono HBX.out.size))
        clear hg hb5
        go_wp2_with fail
        refine (HCA.out _ HB5.out).mono ?_
        rintro e w6 ⟨rfl, rfl⟩
        go_wp2_with fail
        go_ret
        exact ⟨rfl, HB5.out⟩
      · rw [bts_ok ho] at HY
        have HFB := Lib.hid (frm_bts ho sa)
        have HO := Lib.hid (octs_length 2 a)
        have HFO := Lib.hid (show ∀ (v : Value) W, Bs W (fun _ => True) v (octs 2 a) → Calls Try.prog 21 #[v] W (GivesV W (a, 0)) from fun v W h1 => by
          have := from_any v (octs 2 a) W h1 (by rw [HO.out]; omega)
          rwa [HFB.out] at this)
        clear ho sa HCA
        generalize hM : a.length = M at *
        have HM := Lib.hid hM
        generalize hN : b.length = N at *
        have HN := Lib.hid hN
        clear hM hN
        go_enter Try.func6, Try.ntmps6
        go_wp2_with fail
        refine HLIVE.out.mono ?_
        rintro e w1 ⟨rfl, hb1⟩
        have HB1 := Lib.hid hb1
        clear hb1
        go_wp2_with fail
        refine (HF.out _ HB1.out).mono ?_
        intro e w2 hg
        obtain ⟨A2, c2, rfl, -, -, hb2⟩ := gives_v hg
        have HBX := Lib.hid (HB1.out.trans (hb2.mono HB1.out.size))
        clear hg hb2
        go_wp2_with fail
        refine (HY.out _ HBX.out).mono ?_
        intro e w5 hg
        obtain ⟨A5, c5, rfl, -, hs5, hb5⟩ := gives_re hg
        rw [HO.out] at hs5 ⊢
        have HS5 := Lib.hid hs5
        have HB5 := Lib.hid (HBX.out.trans (hb5.mono HBX.out.size))
        clear hg hb5 hs5
        go_wp2_with fail
        refine (HFO.out _ _ HS5.out).mono ?_
        intro e w6 hg
        obtain ⟨A6, c6, rfl, -, hs6, hb6⟩ := gives_v hg
        rw [HM.out] at hs6 ⊢
        have HS6 := Lib.hid hs6
        have HB6 := Lib.hid (HB5.out.trans (hb6.mono HB5.out.size))
        clear hg hb6 hs6
        go_wp2_with fail
        refine (same_any _ _ a a _ HS6.out (HA.out.below HB6.out)).mono ?_
        rw [decide_eq_true rfl]
        rintro e w7 ⟨rfl, hb7⟩
        have HB7 := Lib.hid (HB6.out.trans (hb7.mono HB6.out.size))
        clear hb7
        go_wp2_with fail
        go_ret
        exact ⟨rfl, HB7.out⟩
    · rw [f1] at HF
      clear f1
      have HC0 := Lib.hid (chk_ok f2)
      have HB0 := Lib.hid f3
      have HSB := Lib.hid (sh_small b)
      clear f2 f3
      cases ho : okV a
      · rw [chk_no ho] at HCA
        rw [bts_no ho] at HY
        clear ho sa
        generalize hM : a.length = M at *
        have HM := Lib.hid hM
        generalize hN : b.length = N at *
        have HN := Lib.hid hN
        clear hM hN
        go_enter Try.func6, Try.ntmps6
        go_wp2_with fail
        refine HLIVE.out.mono ?_
        rintro e w1 ⟨rfl, hb1⟩
        have HB1 := Lib.hid hb1
        clear hb1
        go_wp2_with fail
        refine (HF.out _ HB1.out).mono ?_
        intro e w2 hg
        obtain ⟨A2, c2, rfl, -, hs2, hb2⟩ := gives_v hg
        have HCK := Lib.hid (fun W (h : Below w2.heap.size w2 W) => chk_any _ _ W (hs2.below h))
        have HBY := Lib.hid (bytes_any _ _ _ hs2 HSB.out)
        have HB2 := Lib.hid (HB1.out.trans (hb2.mono HB1.out.size))
        rw [HC0.out] at HCK
        rw [HB0.out] at HBY
        clear hg hb2 hs2
        generalize (sh b).length = L at *
        go_wp2_with fail
        refine HBY.out.mono ?_
        intro e w3 hg
        obtain ⟨A3, c3, rfl, -, hs3, hb3⟩ := gives_re hg
        rw [HN.out] at hs3 ⊢
        have HB3 := Lib.hid (HB2.out.trans (hb3.mono HB2.out.size))
        have z1 := run_text hs3
        have z2 := run_text (HB.out.below HB3.out)
        have HK := Lib.hid (HCK.out _ hb3)
        clear hg hb3 hs3
        go_wp2_with fail
        refine HK.out.mono ?_
        rintro e w4 ⟨rfl, rfl⟩
        clear z1 z2
        have HBX := HB3
        go_wp2_with fail
        refine (HY.out _ HBX.out).mono ?_
        intro e w5 hg
        obtain ⟨A5, c5, rfl, -, -, hb5⟩ := gives_re hg
        have HB5 := Lib.hid (HBX.out.trans (hb5.mono HBX.out.size))
        clear hg hb5
        go_wp2_with fail
        refine (HCA.out _ HB5.out).mono ?_
        rintro e w6 ⟨rfl, rfl⟩
        go_wp2_with fail
        go_ret
        exact ⟨rfl, HB5.out⟩
      · rw [bts_ok ho] at HY
        have HFB := Lib.hid (frm_bts ho sa)
        have HO := Lib.hid (octs_length 2 a)
        have HFO := Lib.hid (show ∀ (v : Value) W, Bs W (fun _ => True) v (octs 2 a) → Calls Try.prog 21 #[v] W (GivesV W (a, 0)) from fun v W h1 => by
          have := from_any v (octs 2 a) W h1 (by rw [HO.out]; omega)
          rwa [HFB.out] at this)
        clear ho sa HCA
        generalize hM : a.length = M at *
        have HM := Lib.hid hM
        generalize hN : b.length = N at *
        have HN := Lib.hid hN
        clear hM hN
        go_enter Try.func6, Try.ntmps6
        go_wp2_with fail
        refine HLIVE.out.mono ?_
        rintro e w1 ⟨rfl, hb1⟩
        have HB1 := Lib.hid hb1
        clear hb1
        go_wp2_with fail
        refine (HF.out _ HB1.out).mono ?_
        intro e w2 hg
        obtain ⟨A2, c2, rfl, -, hs2, hb2⟩ := gives_v hg
        have HCK := Lib.hid (fun W (h : Below w2.heap.size w2 W) => chk_any _ _ W (hs2.below h))
        have HBY := Lib.hid (bytes_any _ _ _ hs2 HSB.out)
        have HB2 := Lib.hid (HB1.out.trans (hb2.mono HB1.out.size))
        rw [HC0.out] at HCK
        rw [HB0.out] at HBY
        clear hg hb2 hs2
        generalize (sh b).length = L at *
        go_wp2_with fail
        refine HBY.out.mono ?_
        intro e w3 hg
        obtain ⟨A3, c3, rfl, -, hs3, hb3⟩ := gives_re hg
        rw [HN.out] at hs3 ⊢
        have HB3 := Lib.hid (HB2.out.trans (hb3.mono HB2.out.size))
        have z1 := run_text hs3
        have z2 := run_text (HB.out.below HB3.out)
        have HK := Lib.hid (HCK.out _ hb3)
        clear hg hb3 hs3
        go_wp2_with fail
        refine HK.out.mono ?_
        rintro e w4 ⟨rfl, rfl⟩
        clear z1 z2
        have HBX := HB3
        go_wp2_with fail
        refine (HY.out _ HBX.out).mono ?_
        intro e w5 hg
        obtain ⟨A5, c5, rfl, -, hs5, hb5⟩ := gives_re hg
        rw [HO.out] at hs5 ⊢
        have HS5 := Lib.hid hs5
        have HB5 := Lib.hid (HBX.out.trans (hb5.mono HBX.out.size))
        clear hg hb5 hs5
        go_wp2_with fail
        refine (HFO.out _ _ HS5.out).mono ?_
        intro e w6 hg
        obtain ⟨A6, c6, rfl, -, hs6, hb6⟩ := gives_v hg
        rw [HM.out] at hs6 ⊢
        have HS6 := Lib.hid hs6
        have HB6 := Lib.hid (HB5.out.trans (hb6.mono HB5.out.size))
        clear hg hb6 hs6
        go_wp2_with fail
        refine (same_any _ _ a a _ HS6.out (HA.out.below HB6.out)).mono ?_
        rw [decide_eq_true rfl]
        rintro e w7 ⟨rfl, hb7⟩
        have HB7 := Lib.hid (HB6.out.trans (hb7.mono HB6.out.size))
        clear hb7
        go_wp2_with fail
        go_ret
        exact ⟨rfl, HB7.out⟩

end Go.Proofs.Ytndccdoohmgmlaa
