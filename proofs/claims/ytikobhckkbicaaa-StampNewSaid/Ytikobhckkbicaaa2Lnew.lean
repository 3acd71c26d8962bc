/- The law StampNew, walked. -/
import Derived.Test.Ytikobhckkbicaaa2L
import Derived.Test.YtikobhckkbicaaaYN
import Derived.Deep.QuietTactic
import Derived.BigQuiet
namespace Go.Proofs.Ytikobhckkbicaaa
open Go.RowKit Sk

theorem run_text_drewN {w : World} {S : Nat → Prop} {v : Value} {l : List UInt8} (h : Bs w S v l) (n : Nat) : (convert 22 9 v).run Try.prog (w.drewN n) = .ok (.string ⟨l.toArray⟩) (w.drewN n) :=
  run_text (h.keep (w' := w.drewN n) fun _ _ _ => rfl)

set_option maxHeartbeats 1000000 in
theorem stampNew_any (vo vp : Value) (o p : List UInt8) (n : Int) (many : Int) (w : World) (ho : Bs w (fun _ => True) vo o) (hp : Bs w (fun _ => True) vp p) :
    Calls Try.prog 13 #[vo, .int .i64 n, vp, .int .i64 many] w (True_ w) := by
  have HO := Lib.hid ho
  have HP := Lib.hid hp
  obtain ⟨A, c, rfl, hc1, hc2, _⟩ := ho
  obtain ⟨A', c', rfl, hc1', hc2', _⟩ := hp
  unfold maxLen at hc2 hc2'
  have HSE := Lib.hid (fun W (hw : Below w.heap.size w W) => seal_any n _ p W (HP.out.below hw))
  by_cases hl : o.length ≤ 200 ∧ p.length ≤ 200
  · obtain ⟨hl1, hl2⟩ := hl
    by_cases hs : (isSt n = true ∧ p.length ≤ 16) ∧ (o.length = 32 ∧ 0 ≤ many ∧ many ≤ 32)
    · obtain ⟨⟨hs1, hs2⟩, h1, h3, h4⟩ := hs
      obtain ⟨k, rfl⟩ : ∃ k : Nat, many = (k : Int) := ⟨many.toNat, by omega⟩
      obtain ⟨Y, hY⟩ : ∃ Y, Y = mk n ++ body p ++ mk n := ⟨_, rfl⟩
      have hyl : Y.length = 32 := by rw [hY]; simp [mk_length, body_length hs2]
      have hse : seal_ n p = (Y, 0) := by rw [hY]; exact seal_ok hs1 hs2
      have hmx := mix_ok h1 hyl h3 h4
      rw [Int.toNat_natCast] at hmx
      have hzl := mix_length (k := k) h1 hyl (by omega)
      obtain ⟨Z, hZ⟩ : ∃ Z, Z = Y.take k ++ o.drop k := ⟨_, rfl⟩
      rw [← hZ] at hmx hzl
      have t1 : decide (200 < (o.length : Int)) = false := by simp; omega
      have t2 : decide (200 < (p.length : Int)) = false := by simp; omega
      have HSEQ := Lib.hid hse
      have HMX := Lib.hid hmx
      have HZL := Lib.hid hzl
      have HYL := Lib.hid hyl
      have HYD := Lib.hid (show Y.drop 24 = mk n by rw [hY, show 24 = (mk n ++ body p).length from by simp [mk_length, body_length hs2], List.drop_left])
      have HY := Lib.hid hY
      have HZ := Lib.hid hZ
      have HO1 := Lib.hid h1
      have HS1 := Lib.hid hs1
      rw [h1] at HO hc1 t1 ⊢
      clear hse hmx hzl hyl hY hZ h1 hs1
      have hcc : ¬ c = 24 := by omega
      have hcb : (24 : Int) ≤ c := by omega
      obtain ⟨ad, rfl⟩ := HO.out.some_ (by omega)
      have HBL := Lib.hid (body_length hs2)
      generalize p.length = M at *
      go_enter Try.func13, Try.ntmps13
      go_wp2_with fail
      refine (live2_any _).mono ?_
      rintro e w1 ⟨rfl, hb1⟩
      have HB1 := Lib.hid hb1
      clear hb1
      go_wp2_with fail
      refine (HSE.out _ HB1.out).mono ?_
      rw [HSEQ.out]
      intro e w2 hg
      obtain ⟨A2, c2, rfl, hs2', hb2⟩ := gives_re hg
      rw [HYL.out] at hs2' ⊢
      have HB2 := Lib.hid (HB1.out.trans (hb2.mono HB1.out.size))
      obtain ⟨ad2, rfl⟩ := hs2'.some_ (by omega)
      have hc2a := hs2'.caps.2
      have HS2 := Lib.hid hs2'
      clear hg hs2' hb2
      go_wp2_with fail
      refine (mix_any _ _ o Y _ w2 (HO.out.below HB2.out) HS2.out).mono ?_
      rw [HMX.out]
      intro e w3 hg
      obtain ⟨A3, c3, rfl, hs3, hb3⟩ := gives_re hg
      rw [HZL.out] at hs3 ⊢
      have HB3 := Lib.hid (HB2.out.trans (hb3.mono HB2.out.size))
      have HS2 := Lib.hid (HS2.out.below hb3)
      have HS3 := Lib.hid hs3
      clear hg hs3 hb3
      have x1 := run_text_drewN ((HO.out.below HB3.out).from_ (i := 24) (by omega) (by omega))
      have x2 := run_text_drewN (HS2.out.from_ (i := 24) (by omega) (by omega))
      have y1 : (24 : Int) ≤ c2 := by omega
      have y2 : ¬ c2 = 24 := by omega
      rw [HYD.out] at x2
      generalize hP : o.drop 24 = P at *
      generalize hQ : mk n = Q at *
      have HPP := Lib.hid hP
      have HQQ := Lib.hid hQ
      clear hP hQ
      go_wp2_with fail
      go_quiet (fail)
      go_wp2_with fail
      · go_ret
        exact ⟨rfl, below_drewN HB3.out _⟩
      · have hne : P ≠ Q := by have h : (P == Q) = false := by assumption
                               simpa using h
        have HNE := Lib.hid hne
        have HB3 := Lib.hid (below_drewN HB3.out nq)
        have HS2 := Lib.hid (show Bs (w3.drewN nq) _ _ _ from HS2.out.keep (w' := w3.drewN nq) fun _ _ _ => rfl)
        have HS3 := Lib.hid (show Bs (w3.drewN nq) _ _ _ from HS3.out.keep (w' := w3.drewN nq) fun _ _ _ => rfl)
        generalize w3.drewN nq = w3 at *
        clear hne x1 x2
        have hop := open_any _ Z w3 HS3.out
        rcases opens_err_or Z with ⟨kk, hk0, e⟩ | ⟨m, q, e, hm, hq, hz⟩
        · rw [e] at hop
          clear e
          have tk : (kk != 0) = true := by simpa using hk0
          refine hop.mono ?_
          intro e w4 hg
          obtain ⟨A4, c4, rfl, _, hb4⟩ := gives_o hg
          have HB4 := Lib.hid (HB3.out.trans (hb4.mono HB3.out.size))
          clear hg hb4 hop hk0
          go_wp2_with fail
          go_ret
          exact ⟨rfl, HB4.out⟩
        · rw [e] at hop
          have HE := Lib.hid e
          have HHZ := Lib.hid hz
          clear e hz
          by_cases hmn : m = n
          · subst hmn
            have hzy : Z = Y := by
              have h1 := HHZ.out
              rw [HZ.out, HY.out, HQQ.out] at h1
              rw [HZ.out, HY.out]
              exact new_whole (by rw [← HQQ.out, mk_length]) HBL.out HO1.out (by omega) (by rw [HPP.out]; exact HNE.out) hq h1
            have hqb : q = body p := by
              have h1 := HE.out
              rw [hzy, HY.out, ← HQQ.out, opens_sealed HS1.out HBL.out] at h1
              injection h1 with _ h1
              injection h1 with h1 _
              exact h1.symm
            subst hqb
            refine hop.mono ?_
            intro e w4 hg
            obtain ⟨A4, c4, rfl, hs4, hb4⟩ := gives_o hg
            rw [HBL.out] at hs4 ⊢
            have HB4 := Lib.hid (HB3.out.trans (hb4.mono HB3.out.size))
            have hc4 := hs4.caps.2
            have x1 := run_text_drewN (HS3.out.below hb4)
            have x2 := run_text_drewN (HS2.out.below hb4)
            have x3 := run_text_drewN (hs4.upto_ (j := M) (by omega))
            have x4 := run_text_drewN (HP.out.below HB4.out)
            have hbt : (body p).take M = p := by
              have := HP.out.caps.1
              rw [body, ← this, List.take_left]
            rw [hzy] at x1
            rw [hbt] at x3
            have y3 : (M : Int) ≤ c4 := by omega
            have HS4 := Lib.hid hs4
            clear hg hb4 hop hs4 hzy hbt hq hm
            go_wp2_with fail
            go_quiet (fail)
            go_wp2_with fail
            go_ret
            exact ⟨rfl, below_drewN HB4.out _⟩
          · have tm : (m != n) = true := by simpa using hmn
            refine hop.mono ?_
            intro e w4 hg
            obtain ⟨A4, c4, rfl, _, hb4⟩ := gives_o hg
            rw [hq]
            have HB4 := Lib.hid (HB3.out.trans (hb4.mono HB3.out.size))
            clear hg hb4 hop hmn hq hm
            go_wp2_with fail
            go_ret
            exact ⟨rfl, HB4.out⟩
    · have t1 : decide (200 < (o.length : Int)) = false := by simp; omega
      have t2 : decide (200 < (p.length : Int)) = false := by simp; omega
      have key : (∃ k, k ≠ 0 ∧ seal_ n p = ([], k)) ∨ ∃ Y, seal_ n p = (Y, 0) ∧ mix o Y many = ([], 1) := by
        cases h1 : isSt n
        · exact .inl ⟨1, by decide, seal_arg h1⟩
        · by_cases h2 : p.length ≤ 16
          · exact .inr ⟨_, seal_ok h1 h2, mix_no fun h => hs ⟨⟨h1, h2⟩, h.1, h.2.2⟩⟩
          · exact .inl ⟨3, by decide, seal_long h1 (by omega)⟩
      have HMI := Lib.hid (fun Y v W (hw : Below w.heap.size w W) (hv : Bs W (fun _ => True) v Y) => mix_any _ v o Y many W (HO.out.below hw) hv)
      clear hs
      rcases key with ⟨k, hk, hse⟩ | ⟨Y, hse, hmx⟩
      · have hmx : mix o [] many = ([], 1) := mix_no fun h => by have := h.2.1; simp at this
        have tk : (k != 0) = true := by simpa using hk
        have HSEQ := Lib.hid hse
        have HMX := Lib.hid hmx
        clear hse hmx hk
        generalize o.length = N at *
        generalize p.length = M at *
        go_enter Try.func13, Try.ntmps13
        go_wp2_with fail
        refine (live2_any _).mono ?_
        rintro e w1 ⟨rfl, hb1⟩
        have HB1 := Lib.hid hb1
        clear hb1
        go_wp2_with fail
        refine (HSE.out _ HB1.out).mono ?_
        rw [HSEQ.out]
        intro e w2 hg
        obtain ⟨A2, c2, rfl, hs2', hb2⟩ := gives_re hg
        have HB2 := Lib.hid (HB1.out.trans (hb2.mono HB1.out.size))
        have HS2 := Lib.hid hs2'
        clear hg hs2' hb2
        go_wp2_with fail
        refine (HMI.out [] _ w2 HB2.out HS2.out).mono ?_
        rw [HMX.out]
        intro e w3 hg
        obtain ⟨A3, c3, rfl, _, hb3⟩ := gives_re hg
        have HB3 := Lib.hid (HB2.out.trans (hb3.mono HB2.out.size))
        clear hg hb3
        go_wp2_with fail
        go_quiet (fail)
        go_wp2_with fail
        go_ret
        exact ⟨rfl, below_drewN HB3.out _⟩
      · have HSEQ := Lib.hid hse
        have HMX := Lib.hid hmx
        clear hse hmx
        generalize o.length = N at *
        generalize p.length = M at *
        go_enter Try.func13, Try.ntmps13
        go_wp2_with fail
        refine (live2_any _).mono ?_
        rintro e w1 ⟨rfl, hb1⟩
        have HB1 := Lib.hid hb1
        clear hb1
        go_wp2_with fail
        refine (HSE.out _ HB1.out).mono ?_
        rw [HSEQ.out]
        intro e w2 hg
        obtain ⟨A2, c2, rfl, hs2', hb2⟩ := gives_re hg
        have HB2 := Lib.hid (HB1.out.trans (hb2.mono HB1.out.size))
        have HS2 := Lib.hid hs2'
        clear hg hs2' hb2
        generalize Y.length = L at *
        go_wp2_with fail
        refine (HMI.out Y _ w2 HB2.out HS2.out).mono ?_
        rw [HMX.out]
        intro e w3 hg
        obtain ⟨A3, c3, rfl, _, hb3⟩ := gives_re hg
        have HB3 := Lib.hid (HB2.out.trans (hb3.mono HB2.out.size))
        clear hg hb3
        go_wp2_with fail
        go_quiet (fail)
        go_wp2_with fail
        go_ret
        exact ⟨rfl, below_drewN HB3.out _⟩
  · have key : 200 < (o.length : Int) ∨ (¬ 200 < (o.length : Int) ∧ 200 < (p.length : Int)) := by omega
    rcases key with k1 | ⟨k1, k2⟩
    · have t1 : decide (200 < (o.length : Int)) = true := by simp; omega
      generalize o.length = N at *
      generalize p.length = M at *
      go_enter Try.func13, Try.ntmps13
      go_wp2_with fail
      refine (live2_any _).mono ?_
      rintro e w1 ⟨rfl, hb1⟩
      have HB1 := Lib.hid hb1
      clear hb1
      go_wp2_with fail
      go_ret
      exact ⟨rfl, HB1.out⟩
    · have t1 : decide (200 < (o.length : Int)) = false := by simp; omega
      have t2 : decide (200 < (p.length : Int)) = true := by simp; omega
      generalize o.length = N at *
      generalize p.length = M at *
      go_enter Try.func13, Try.ntmps13
      go_wp2_with fail
      refine (live2_any _).mono ?_
      rintro e w1 ⟨rfl, hb1⟩
      have HB1 := Lib.hid hb1
      clear hb1
      go_wp2_with fail
      go_ret
      exact ⟨rfl, HB1.out⟩

end Go.Proofs.Ytikobhckkbicaaa
