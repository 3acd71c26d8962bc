/- The law VecShift, walked. -/
import Derived.Test.Ytndccdoohmgmlaa6L
import Derived.Test.Ytndccdoohmgmlaa6M
namespace Go.Proofs.Ytndccdoohmgmlaa
open Go.RowKit Pk Vc

set_option maxRecDepth 10000 in
set_option maxHeartbeats 4000000 in
theorem vecShift_any (va vb vc : Value) (a b c : List Int) (w : World) (ha : Vs w (fun _ => True) va a) (hb : Vs w (fun _ => True) vb b) (hc : Vs w (fun _ => True) vc c) (sa : Small a) (sb : Small b) (sc : Small c) :
    Calls Try.prog 8 #[va, vb, vc] w (True_ w) := by
  obtain ⟨i0, hi0, hz0, hz1, hz2⟩ := info_parts infoV
  have HLIVE := Lib.hid (live4_any w)
  have HA := Lib.hid ha
  have HB := Lib.hid hb
  have HC := Lib.hid hc
  have HS := Lib.hid (And.intro sa (And.intro sb sc))
  obtain ⟨A1, c1, rfl, hc1, hc1m, _⟩ := ha
  obtain ⟨A2, c2, rfl, hc2, hc2m, _⟩ := hb
  obtain ⟨A3, c3, rfl, hc3, hc3m, _⟩ := hc
  unfold maxLen at hc1m hc2m hc3m
  clear sa sb sc
  by_cases hlen : (500 : Int) < (a.length : Int) ∨ (¬ (500 : Int) < (a.length : Int) ∧ ¬ b.length = a.length) ∨ (¬ (500 : Int) < (a.length : Int) ∧ b.length = a.length ∧ ¬ c.length = a.length)
  · clear HA HB HC HS
    generalize a.length = M at *
    generalize b.length = N at *
    generalize c.length = K at *
    rcases hlen with h1 | ⟨h1, h2⟩ | ⟨h1, h2, h3⟩
    all_goals
      first
        | (subst h2
           have t1 : ((K : Int) != (N : Int)) = true := by simp; omega
           clear h3)
        | (have t1 : ((N : Int) != (M : Int)) = true := by simp; omega
           clear h2)
        | skip
      go_enter Try.func8, Try.ntmps8
      go_wp2_with fail
      refine HLIVE.out.mono ?_
      rintro e w1 ⟨rfl, hb1⟩
      have HB1 := Lib.hid hb1
      clear hb1
      go_wp2_with fail
      go_ret
      exact ⟨rfl, HB1.out⟩
  · have g1 : a.length ≤ 500 := by omega
    have g2 : b.length = a.length := by omega
    have g3 : c.length = a.length := by omega
    clear hlen
    have LP := Lib.hid (show (plus a c).length = a.length from plus_length g3)
    have LD := Lib.hid (show (plus b c).length = a.length by rw [plus_length (by omega), g2])
    have HD1 := Lib.hid (fun W (h : Below w.heap.size w W) => dist_any _ _ a b W (HA.out.below h) (HB.out.below h) HS.out.1 HS.out.2.1)
    have HD4 := Lib.hid (fun W (h : Below w.heap.size w W) => dot_any _ _ c c W (HC.out.below h) (HC.out.below h) HS.out.2.2 HS.out.2.2)
    have HAV := Lib.hid (fun W (h : Below w.heap.size w W) => HA.out.below h)
    have L0 := Lib.hid g3
    have CA := Lib.hid HA.out.cells
    have CB := Lib.hid HB.out.cells
    have CC := Lib.hid HC.out.cells
    generalize hM : a.length = M at *
    generalize hN : b.length = N at *
    generalize hK : c.length = K at *
    have HM := Lib.hid hM
    have HN := Lib.hid hN
    have HK := Lib.hid hK
    clear hM hN hK HA HB HC L0
    subst g2
    subst g3
    go_enter Try.func8, Try.ntmps8
    go_wp2_with fail
    refine HLIVE.out.mono ?_
    rintro e w1 ⟨rfl, hb1⟩
    have HB1 := Lib.hid hb1
    clear hb1
    go_wp2_with (first
      | (at_make; refine wpList_make_full _ rfl _ _ _ rfl w1.heap.size 36 i0 (.int .i16 0) 1 Try.underlying23 hi0 hz0 hz1 .i64 .i64 _ _ K rfl rfl rfl rfl (by rw [hz2]; omega) (by unfold maxLen; omega) (Nat.le_refl _) ?_; intro w2 hown2 hgrow2)
      | (at_make; refine wpList_make_full _ rfl _ _ _ rfl w2.heap.size 36 i0 (.int .i16 0) 1 Try.underlying23 hi0 hz0 hz1 .i64 .i64 _ _ K rfl rfl rfl rfl (by rw [hz2]; omega) (by unfold maxLen; omega) (Nat.le_refl _) ?_; intro w3 hown3 hgrow3))
    have hG1 := blk_vec (plus a c) hown2 (by rw [show (Value.int IntKind.i16 0).cells = #[Value.int .i16 0] from rfl, toList_madeCells_one, Nat.mul_one])
    have hG2 := blk_vec (plus b c) hown3 (by rw [show (Value.int IntKind.i16 0).cells = #[Value.int .i16 0] from rfl, toList_madeCells_one, Nat.mul_one])
    have hlt12 : w1.heap.size < w2.heap.size := (Array.getElem?_eq_some_iff.1 hG1).1
    have hb2 : Below w.heap.size w w2 := HB1.out.grown hgrow2 HB1.out.size (by simp)
    have hb3 : Below w2.heap.size w2 w3 := (Below.refl _ _).grown hgrow3 (Nat.le_refl _) (by simp)
    have HG1 := Lib.hid ((hb3.block _ hlt12).trans hG1)
    have HG2 := Lib.hid hG2
    have HB3 := Lib.hid (hb2.trans (hb3.mono hb2.size))
    have HL1 := Lib.hid HB1.out.size
    have HL2 := Lib.hid hb2.size
    clear hown2 hown3 hgrow2 hgrow3 hG1 hG2 hb2 hb3
    generalize w1.heap.size = g at *
    generalize w2.heap.size = h at *
    have hne : ¬ g = h := by omega
    go_wp2_with fail
    go_loopw [10, 11, 12, 50] (fun _ _ _ i wr => ∃ j : Nat, j ≤ K ∧ i = .int .i64 (j : Int) ∧ Hid (wr.heap[g]? = some (.cells (nshorts ((plus a c).take j ++ izeros (K - j))).toArray 36 (0, 0))) ∧ Hid (wr.heap[h]? = some (.cells (nshorts ((plus b c).take j ++ izeros (K - j))).toArray 36 (0, 0))) ∧
        Hid (In ((plus a c).take j) ∧ In ((plus b c).take j)) ∧ Hid (Below w.heap.size w wr)) (fun _ _ _ i _ => K - (intOf i).toNat)
    case atStart => exact ⟨0, by omega, rfl, HG1, HG2, Lib.hid ⟨In.none, In.none⟩, HB3⟩
    case round =>
      obtain ⟨j, hj, rfl, HX, HY, HIN, HBE⟩ := hrel
      by_cases hlt : j < K
      · obtain ⟨x, hx⟩ : ∃ x, a[j]? = some x := ⟨_, List.getElem?_eq_getElem (by rw [HM.out]; exact hlt)⟩
        obtain ⟨y, hy⟩ : ∃ y, b[j]? = some y := ⟨_, List.getElem?_eq_getElem (by rw [HN.out]; exact hlt)⟩
        obtain ⟨z, hz⟩ : ∃ z, c[j]? = some z := ⟨_, List.getElem?_eq_getElem (by rw [HK.out]; exact hlt)⟩
        obtain ⟨ad1, rfl, k1⟩ := cell_at (CA.out.below HBE.out) (nshorts_at hx)
        obtain ⟨ad2, rfl, k2⟩ := cell_at (CB.out.below HBE.out) (nshorts_at hy)
        obtain ⟨ad3, rfl, k3⟩ := cell_at (CC.out.below HBE.out) (nshorts_at hz)
        have bx := HS.out.1 x (List.mem_of_getElem? hx)
        have by_ := HS.out.2.1 y (List.mem_of_getElem? hy)
        have bz := HS.out.2.2 z (List.mem_of_getElem? hz)
        have HPX := Lib.hid (plus_at hx hz)
        have HPY := Lib.hid (plus_at hy hz)
        have K3 := Lib.hid (And.intro k2 k3)
        have hlt' : (j : Int) < (K : Int) := by omega
        clear hx hy hz
        go_wp2_with fail
        go_quiet (fail)
        have HX' := Lib.hid (show (wr.drewN nq).heap[g]? = _ from HX.out)
        have HY' := Lib.hid (show (wr.drewN nq).heap[h]? = _ from HY.out)
        have HBE' := Lib.hid (below_drewN HBE.out nq)
        have k4 : (wr.drewN nq).cell? (ad2.add j) = some (.int .i16 y) := K3.out.1
        have k5 : (wr.drewN nq).cell? (ad3.add j) = some (.int .i16 z) := K3.out.2
        clear k1 k2 k3 K3
        generalize wr.drewN nq = wq at *
        clear nq
        go_wp2_with fail
        go_quiet (fail)
        have HX'' := Lib.hid (show (wq.drewN nq).heap[g]? = _ from HX'.out)
        have HY'' := Lib.hid (show (wq.drewN nq).heap[h]? = _ from HY'.out)
        have HBE'' := Lib.hid (below_drewN HBE'.out nq)
        clear k4 k5
        generalize wq.drewN nq = wz at *
        have htri : (y < x ∧ y + z < x + z ∧ ¬ x + z < y + z) ∨ (x < y ∧ x + z < y + z ∧ ¬ y + z < x + z) ∨ x = y := by omega
        rcases htri with ⟨u1, u2, u3⟩ | ⟨u1, u2, u3⟩ | rfl
        · by_cases hbad : y + z < -32767 ∨ (¬ y + z < -32767 ∧ 32767 < x + z)
          · rcases hbad with h1 | ⟨h1, h2⟩
            all_goals
              go_wp2_with fail
              go_ret
              exact ⟨rfl, HBE''.out⟩
          · have q1 : ¬ y + z < -32767 := by omega
            have q2 : ¬ 32767 < x + z := by omega
            have r1 : -32767 ≤ x + z ∧ x + z ≤ 32767 := by omega
            have r2 : -32767 ≤ y + z ∧ y + z ≤ 32767 := by omega
            clear hbad
            obtain ⟨cx, fx⟩ := blk_zero LP.out hlt HX''.out
            have hX2 := vfill_stored LP.out HPX.out HX''.out
            have hY2 : (wz.setCell ⟨g, j, none⟩ (.int .i16 (x + z))).heap[h]? = _ := (blk_far (fun e => hne e.symm) _).trans HY''.out
            obtain ⟨cy, fy⟩ := blk_zero LD.out hlt hY2
            have hY3 := vfill_stored LD.out HPY.out hY2
            have HX3 := Lib.hid (show ((wz.setCell ⟨g, j, none⟩ (.int .i16 (x + z))).setCell ⟨h, j, none⟩ (.int .i16 (y + z))).heap[g]? = _ from (blk_far hne _).trans hX2)
            have HY3 := Lib.hid hY3
            have HB5 := Lib.hid ((HBE''.out.setCell (p := ⟨g, j, none⟩) HL1.out (.int .i16 (x + z))).setCell (p := ⟨h, j, none⟩) HL2.out (.int .i16 (y + z)))
            have HIN' := Lib.hid (And.intro (HIN.out.1.snoc HPX.out (by omega)) (HIN.out.2.snoc HPY.out (by omega)))
            clear hX2 hY2 hY3
            go_wp2_with fail
            go_roundw
            case rel => exact ⟨j + 1, by omega, by go_num, HX3, HY3, HIN', HB5⟩
            case measure => simp [intOf]; omega
        · by_cases hbad : x + z < -32767 ∨ (¬ x + z < -32767 ∧ 32767 < y + z)
          · rcases hbad with h1 | ⟨h1, h2⟩
            all_goals
              go_wp2_with fail
              go_ret
              exact ⟨rfl, HBE''.out⟩
          · have q1 : ¬ x + z < -32767 := by omega
            have q2 : ¬ 32767 < y + z := by omega
            have r1 : -32767 ≤ x + z ∧ x + z ≤ 32767 := by omega
            have r2 : -32767 ≤ y + z ∧ y + z ≤ 32767 := by omega
            clear hbad
            obtain ⟨cx, fx⟩ := blk_zero LP.out hlt HX''.out
            have hX2 := vfill_stored LP.out HPX.out HX''.out
            have hY2 : (wz.setCell ⟨g, j, none⟩ (.int .i16 (x + z))).heap[h]? = _ := (blk_far (fun e => hne e.symm) _).trans HY''.out
            obtain ⟨cy, fy⟩ := blk_zero LD.out hlt hY2
            have hY3 := vfill_stored LD.out HPY.out hY2
            have HX3 := Lib.hid (show ((wz.setCell ⟨g, j, none⟩ (.int .i16 (x + z))).setCell ⟨h, j, none⟩ (.int .i16 (y + z))).heap[g]? = _ from (blk_far hne _).trans hX2)
            have HY3 := Lib.hid hY3
            have HB5 := Lib.hid ((HBE''.out.setCell (p := ⟨g, j, none⟩) HL1.out (.int .i16 (x + z))).setCell (p := ⟨h, j, none⟩) HL2.out (.int .i16 (y + z)))
            have HIN' := Lib.hid (And.intro (HIN.out.1.snoc HPX.out (by omega)) (HIN.out.2.snoc HPY.out (by omega)))
            clear hX2 hY2 hY3
            go_wp2_with fail
            go_roundw
            case rel => exact ⟨j + 1, by omega, by go_num, HX3, HY3, HIN', HB5⟩
            case measure => simp [intOf]; omega
        · by_cases hbad : x + z < -32767 ∨ (¬ x + z < -32767 ∧ 32767 < x + z)
          · rcases hbad with h1 | ⟨h1, h2⟩
            all_goals
              go_wp2_with fail
              go_ret
              exact ⟨rfl, HBE''.out⟩
          · have q1 : ¬ x + z < -32767 := by omega
            have q2 : ¬ 32767 < x + z := by omega
            have r1 : -32767 ≤ x + z ∧ x + z ≤ 32767 := by omega
            have r2 : -32767 ≤ x + z ∧ x + z ≤ 32767 := by omega
            clear hbad
            obtain ⟨cx, fx⟩ := blk_zero LP.out hlt HX''.out
            have hX2 := vfill_stored LP.out HPX.out HX''.out
            have hY2 : (wz.setCell ⟨g, j, none⟩ (.int .i16 (x + z))).heap[h]? = _ := (blk_far (fun e => hne e.symm) _).trans HY''.out
            obtain ⟨cy, fy⟩ := blk_zero LD.out hlt hY2
            have hY3 := vfill_stored LD.out HPY.out hY2
            have HX3 := Lib.hid (show ((wz.setCell ⟨g, j, none⟩ (.int .i16 (x + z))).setCell ⟨h, j, none⟩ (.int .i16 (x + z))).heap[g]? = _ from (blk_far hne _).trans hX2)
            have HY3 := Lib.hid hY3
            have HB5 := Lib.hid ((HBE''.out.setCell (p := ⟨g, j, none⟩) HL1.out (.int .i16 (x + z))).setCell (p := ⟨h, j, none⟩) HL2.out (.int .i16 (x + z)))
            have HIN' := Lib.hid (And.intro (HIN.out.1.snoc HPX.out (by omega)) (HIN.out.2.snoc HPY.out (by omega)))
            clear hX2 hY2 hY3
            go_wp2_with fail
            go_roundw
            case rel => exact ⟨j + 1, by omega, by go_num, HX3, HY3, HIN', HB5⟩
            case measure => simp [intOf]; omega
      · obtain rfl : j = K := by omega
        have HV1 := Lib.hid (blk_full (base := 0) LP.out (by omega) (Nat.zero_le _) HX.out)
        have HV2 := Lib.hid (blk_full (base := 0) LD.out (by omega) (Nat.zero_le _) HY.out)
        have HIN' := Lib.hid (show In (plus a c) ∧ In (plus b c) by
          have h := HIN.out
          rwa [List.take_of_length_le (by rw [LP.out]; exact Nat.le_refl _), List.take_of_length_le (by rw [LD.out]; exact Nat.le_refl _)] at h)
        have HD2 := Lib.hid (fun W (h : Below wr.heap.size wr W) => dist_any _ _ (plus a c) (plus b c) W (HV1.out.below h) (HV2.out.below h) HIN'.out.1.small HIN'.out.2.small)
        have HD3 := Lib.hid (fun W (h : Below wr.heap.size wr W) (h2 : Below w.heap.size w W) => dist_any _ _ a (plus a c) W (HAV.out _ h2) (HV1.out.below h) HS.out.1 HIN'.out.1.small)
        clear HX HY HIN HV1 HV2 HG1 HG2 HAV
        cases p1 : isP a b
        · rw [dist_no p1] at HD1
          clear p1
          obtain ⟨n2, k2, f2⟩ : ∃ n k, dist (plus a c) (plus b c) = (n, k) := ⟨_, _, rfl⟩
          rw [f2] at HD2
          clear f2
          obtain ⟨n3, k3, f3⟩ : ∃ n k, dist a (plus a c) = (n, k) := ⟨_, _, rfl⟩
          rw [f3] at HD3
          clear f3
          obtain ⟨n4, k4, f4⟩ : ∃ n k, dot c c = (n, k) := ⟨_, _, rfl⟩
          rw [f4] at HD4
          clear f4
          clear HS HIN'
          go_wp2_with fail
          refine (HD1.out _ HBE.out).mono ?_
          intro e w6 hg
          obtain ⟨rfl, hb6⟩ := gives_i hg
          have HR6 := Lib.hid hb6
          have HB6 := Lib.hid (HBE.out.trans (hb6.mono HBE.out.size))
          clear hg hb6
          go_wp2_with fail
          refine (HD2.out _ HR6.out).mono ?_
          intro e w7 hg
          obtain ⟨rfl, hb7⟩ := gives_i hg
          have HR7 := Lib.hid (HR6.out.trans (hb7.mono HR6.out.size))
          have HB7 := Lib.hid (HB6.out.trans (hb7.mono HB6.out.size))
          clear hg hb7
          go_wp2_with fail
          refine (HD3.out _ HR7.out HB7.out).mono ?_
          intro e w8 hg
          obtain ⟨rfl, hb8⟩ := gives_i hg
          have HR8 := Lib.hid (HR7.out.trans (hb8.mono HR7.out.size))
          have HB8 := Lib.hid (HB7.out.trans (hb8.mono HB7.out.size))
          clear hg hb8
          go_wp2_with fail
          refine (HD4.out _ HB8.out).mono ?_
          intro e w9 hg
          obtain ⟨rfl, hb9⟩ := gives_i hg
          have HR9 := Lib.hid (HR8.out.trans (hb9.mono HR8.out.size))
          have HB9 := Lib.hid (HB8.out.trans (hb9.mono HB8.out.size))
          clear hg hb9
          go_wp2_with fail
          go_ret
          exact ⟨rfl, HB9.out⟩
        · cases p2 : okV c
          · obtain ⟨⟨n1, f1⟩, ⟨n2, f2⟩, ⟨n3, f3⟩⟩ := shift_two p1 (by rw [HK.out, HM.out]) HIN'.out.1 HIN'.out.2
            rw [f1] at HD1
            rw [f2] at HD2
            rw [f3] at HD3
            rw [dot_no (a := c) (b := c) (by rw [isP, p2, Bool.and_false])] at HD4
            clear p1 p2 f1 f2 f3 HS HIN'
            go_wp2_with fail
            refine (HD1.out _ HBE.out).mono ?_
            intro e w6 hg
            obtain ⟨rfl, hb6⟩ := gives_i hg
            have HR6 := Lib.hid hb6
            have HB6 := Lib.hid (HBE.out.trans (hb6.mono HBE.out.size))
            clear hg hb6
            go_wp2_with fail
            refine (HD2.out _ HR6.out).mono ?_
            intro e w7 hg
            obtain ⟨rfl, hb7⟩ := gives_i hg
            have HR7 := Lib.hid (HR6.out.trans (hb7.mono HR6.out.size))
            have HB7 := Lib.hid (HB6.out.trans (hb7.mono HB6.out.size))
            clear hg hb7
            go_wp2_with fail
            refine (HD3.out _ HR7.out HB7.out).mono ?_
            intro e w8 hg
            obtain ⟨rfl, hb8⟩ := gives_i hg
            have HR8 := Lib.hid (HR7.out.trans (hb8.mono HR7.out.size))
            have HB8 := Lib.hid (HB7.out.trans (hb8.mono HB7.out.size))
            clear hg hb8
            go_wp2_with fail
            refine (HD4.out _ HB8.out).mono ?_
            intro e w9 hg
            obtain ⟨rfl, hb9⟩ := gives_i hg
            have HR9 := Lib.hid (HR8.out.trans (hb9.mono HR8.out.size))
            have HB9 := Lib.hid (HB8.out.trans (hb9.mono HB8.out.size))
            clear hg hb9
            go_wp2_with fail
            go_ret
            exact ⟨rfl, HB9.out⟩
          · obtain ⟨n, p, f1, f2, f3, f4⟩ := shift_facts p1 p2 (by rw [HK.out, HM.out]) HS.out.1 HS.out.2.1 HS.out.2.2 HIN'.out.1 HIN'.out.2
            rw [f1] at HD1
            rw [f2] at HD2
            rw [f3] at HD3
            rw [f4] at HD4
            clear f1 f2 f3 f4 p1 p2 HS HIN'
            go_wp2_with fail
            refine (HD1.out _ HBE.out).mono ?_
            intro e w6 hg
            obtain ⟨rfl, hb6⟩ := gives_i hg
            have HR6 := Lib.hid hb6
            have HB6 := Lib.hid (HBE.out.trans (hb6.mono HBE.out.size))
            clear hg hb6
            go_wp2_with fail
            refine (HD2.out _ HR6.out).mono ?_
            intro e w7 hg
            obtain ⟨rfl, hb7⟩ := gives_i hg
            have HR7 := Lib.hid (HR6.out.trans (hb7.mono HR6.out.size))
            have HB7 := Lib.hid (HB6.out.trans (hb7.mono HB6.out.size))
            clear hg hb7
            go_wp2_with fail
            refine (HD3.out _ HR7.out HB7.out).mono ?_
            intro e w8 hg
            obtain ⟨rfl, hb8⟩ := gives_i hg
            have HR8 := Lib.hid (HR7.out.trans (hb8.mono HR7.out.size))
            have HB8 := Lib.hid (HB7.out.trans (hb8.mono HB7.out.size))
            clear hg hb8
            go_wp2_with fail
            refine (HD4.out _ HB8.out).mono ?_
            intro e w9 hg
            obtain ⟨rfl, hb9⟩ := gives_i hg
            have HR9 := Lib.hid (HR8.out.trans (hb9.mono HR8.out.size))
            have HB9 := Lib.hid (HB8.out.trans (hb9.mono HB8.out.size))
            clear hg hb9
            go_wp2_with fail
            go_ret
            exact ⟨rfl, HB9.out⟩

end Go.Proofs.Ytndccdoohmgmlaa
