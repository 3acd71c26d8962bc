/- The law PackTexts, walked. -/
import Derived.Test.Ytndccdoohmgmlab5G
import Derived.Test.Ytndccdoohmgmlab4Lsum
namespace Go.Proofs.Ytndccdoohmgmlab
open Go.RowKit Pk

set_option maxRecDepth 10000 in
set_option maxHeartbeats 4000000 in
theorem packTexts_any (vl vb : Value) (l : List (List UInt8)) (b : List UInt8) (w : World) (hl : Ts w (fun _ => True) vl l) (hb : Bs w (fun _ => True) vb b) :
    Calls Try.prog 4 #[vl, vb] w (True_ w) := by
  have HLIVE := Lib.hid (live3_any w)
  have HL := Lib.hid hl
  have HB := Lib.hid hb
  obtain ⟨A, c, xs, rfl, hc1, hc2, _⟩ := hl
  obtain ⟨A', c', rfl, hd1, hd2, _⟩ := hb
  unfold maxLen at hc2 hd2
  by_cases hg : 300 < l.length ∨ 70000 < b.length
  · generalize l.length = L at *
    generalize b.length = M at *
    go_enter Try.func4, Try.ntmps4
    rcases hg with hg | hg
    · have hg' : (300 : Int) < (L : Int) := by omega
      go_wp2_with fail
      refine HLIVE.out.mono ?_
      rintro e w1 ⟨rfl, hb1⟩
      have HB1 := Lib.hid hb1
      clear hb1
      go_wp2_with fail
      go_ret
      exact ⟨rfl, HB1.out⟩
    · have hg' : (70000 : Int) < (M : Int) := by omega
      by_cases hg2 : (300 : Int) < (L : Int)
      all_goals
        go_wp2_with fail
        refine HLIVE.out.mono ?_
        rintro e w1 ⟨rfl, hb1⟩
        have HB1 := Lib.hid hb1
        clear hb1
        go_wp2_with fail
        go_ret
        exact ⟨rfl, HB1.out⟩
  · have hg1 : ¬ (300 : Int) < (l.length : Int) := by omega
    have hg2 : ¬ (70000 : Int) < (b.length : Int) := by omega
    generalize hLL : l.length = L at *
    generalize hMM : b.length = M at *
    have HLL := Lib.hid hLL
    have HMM := Lib.hid hMM
    clear hLL hMM
    go_enter Try.func4, Try.ntmps4
    go_wp2_with fail
    refine HLIVE.out.mono ?_
    rintro e w1 ⟨rfl, hb1⟩
    have HB1 := Lib.hid hb1
    clear hb1
    go_wp2_with fail
    go_loop [7, 31] (fun _ i => ∃ j : Nat, j ≤ L ∧ i = .int .i64 (j : Int) ∧ Hid (∀ t ∈ l.take j, t.length ≤ 70000)) (fun _ i => L - (intOf i).toNat)
    case atStart => exact ⟨0, by omega, rfl, Lib.hid (by simp)⟩
    case round =>
      obtain ⟨j, hj, rfl, HT⟩ := hrel
      by_cases hlt : j < L
      · obtain ⟨t, ht⟩ : ∃ t, l[j]? = some t := ⟨_, List.getElem?_eq_getElem (by rw [HLL.out]; exact hlt)⟩
        obtain ⟨ad, B, d, rfl, hcj, hbt⟩ := (HL.out.below HB1.out).at_ ht
        have hcd := hbt.caps.2
        have hlt' : (j : Int) < (L : Int) := by omega
        have HX := Lib.hid (show t.length ≤ 70000 → ∀ s ∈ l.take (j + 1), s.length ≤ 70000 by
          intro h s hs
          rw [List.take_add_one, ht] at hs
          rcases List.mem_append.1 hs with h1 | h1
          · exact HT.out s h1
          · simp at h1
            subst h1
            exact h)
        clear ht hbt
        generalize t.length = T at *
        by_cases hbig : 70000 < T
        · have hbig' : (70000 : Int) < (T : Int) := by omega
          go_wp2_with fail
          go_ret
          exact ⟨rfl, HB1.out⟩
        · have hbig' : ¬ (70000 : Int) < (T : Int) := by omega
          go_wp2_with fail
          go_round
          case rel => exact ⟨j + 1, by omega, by go_num, Lib.hid (HX.out (by omega))⟩
          case measure => simp [intOf]; omega
      · obtain rfl : j = L := by omega
        have HALL := Lib.hid (show ∀ t ∈ l, t.length ≤ 70000 by
          have h := HT.out
          rwa [← HLL.out, List.take_length] at h)
        have HP1 := Lib.hid (fun W (hb : Below w.heap.size w W) => list_any _ l W (HL.out.below hb) (by rw [HLL.out]; omega) (fun t ht => by have := HALL.out t ht; omega))
        have HP2 := Lib.hid (fun W (hb : Below w.heap.size w W) => refList_any _ l W (HL.out.below hb) (by rw [HLL.out]; omega) HALL.out)
        have HP3 := Lib.hid (fun W (hb : Below w.heap.size w W) => cut_any _ b W (HB.out.below hb) (by rw [HMM.out]; omega))
        have HP4 := Lib.hid (fun W (hb : Below w.heap.size w W) => refCut_any _ b W (HB.out.below hb) (by rw [HMM.out]; omega))
        have HP5 := Lib.hid (fun W (hb : Below w.heap.size w W) => sum_any _ b W (HB.out.below hb))
        have HP6 := Lib.hid (fun W (hb : Below w.heap.size w W) => refSum_any _ b W (HB.out.below hb))
        generalize listp l = r1 at *
        generalize cutp b = r2 at *
        obtain ⟨X, e1⟩ := r1
        obtain ⟨P, e2⟩ := r2
        go_wp2_with fail
        refine (HP1.out _ HB1.out).mono ?_
        intro e w2 hg
        obtain ⟨A2, c2, rfl, -, hs2, hb2⟩ := gives_re hg
        have HS2 := Lib.hid hs2
        have HB2 := Lib.hid (HB1.out.trans (hb2.mono HB1.out.size))
        clear hg hs2 hb2
        go_wp2_with fail
        refine (HP2.out _ HB2.out).mono ?_
        intro e w3 hg
        obtain ⟨A3, c3, rfl, -, hs3, hb3⟩ := gives_re hg
        have HS2 := Lib.hid (HS2.out.below hb3)
        have HS3 := Lib.hid hs3
        have HB3 := Lib.hid (HB2.out.trans (hb3.mono HB2.out.size))
        clear hg hs3 hb3
        go_wp2_with fail
        refine (HP3.out _ HB3.out).mono ?_
        rintro e w4 ⟨v4, rfl, ho4, hb4⟩
        have HS2 := Lib.hid (HS2.out.below hb4)
        have HS3 := Lib.hid (HS3.out.below hb4)
        have hs4 := ho4.reads
        have HS4 := Lib.hid hs4
        obtain ⟨A4, c4, xs4, rfl, _⟩ := hs4
        have HB4 := Lib.hid (HB3.out.trans (hb4.mono HB3.out.size))
        clear ho4 hb4
        dsimp only
        go_wp2_with fail
        refine (HP4.out _ HB4.out).mono ?_
        rintro e w5 ⟨v5, rfl, ho5, hb5⟩
        have HS2 := Lib.hid (HS2.out.below hb5)
        have HS3 := Lib.hid (HS3.out.below hb5)
        have HS4 := Lib.hid (HS4.out.below hb5)
        have hs5 := ho5.reads
        have HS5 := Lib.hid hs5
        obtain ⟨A5, c5, xs5, rfl, _⟩ := hs5
        have HB5 := Lib.hid (HB4.out.trans (hb5.mono HB4.out.size))
        clear ho5 hb5
        dsimp only
        by_cases hbs : (2000 : Int) < (M : Int)
        · go_wp2_with fail
          refine (sameBytes_any _ _ X X _ HS2.out HS3.out).mono ?_
          rw [decide_eq_true rfl]
          rintro e w6 ⟨rfl, rfl⟩
          go_wp2_with fail
          refine (sameTexts_any _ _ P P _ HS4.out HS5.out).mono ?_
          rw [decide_eq_true rfl]
          rintro e w7 ⟨rfl, hb7⟩
          have HB7 := Lib.hid (HB5.out.trans (hb7.mono HB5.out.size))
          clear hb7
          go_wp2_with fail
          go_ret
          exact ⟨ret_bool (by simp), HB7.out⟩
        · go_wp2_with fail
          refine (HP5.out _ HB5.out).mono ?_
          rintro e w6 ⟨rfl, rfl⟩
          go_wp2_with fail
          refine (HP6.out _ HB5.out).mono ?_
          rintro e w6 ⟨rfl, rfl⟩
          go_wp2_with fail
          refine (sameBytes_any _ _ X X _ HS2.out HS3.out).mono ?_
          rw [decide_eq_true rfl]
          rintro e w6 ⟨rfl, rfl⟩
          go_wp2_with fail
          refine (sameTexts_any _ _ P P _ HS4.out HS5.out).mono ?_
          rw [decide_eq_true rfl]
          rintro e w7 ⟨rfl, hb7⟩
          have HB7 := Lib.hid (HB5.out.trans (hb7.mono HB5.out.size))
          clear hb7
          go_wp2_with fail
          go_ret
          exact ⟨ret_bool (by simp), HB7.out⟩

end Go.Proofs.Ytndccdoohmgmlab
