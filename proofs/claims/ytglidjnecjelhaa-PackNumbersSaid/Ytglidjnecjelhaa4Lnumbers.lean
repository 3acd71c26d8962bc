/- The law PackNumbers, walked. -/
import Derived.Test.Ytglidjnecjelhaa4X
import Derived.Laws.OwnMore
namespace Go.Proofs.Ytglidjnecjelhaa
open Go.RowKit Pk

theorem octets_set (l : List UInt8) (j : Nat) (x : UInt8) : (octets l).set j (.int .u8 (x.toNat : Int)) = octets (l.set j x) := by
  rw [octets, octets, List.map_set]

/-- An octet of a row of the call's own, one more. -/
theorem up_at {w : World} {base L cap j : Nat} {A : Option Addr} {ys : List UInt8} (h : w.ownsRow base 5 1 (.slice A L cap) L (octets ys)) (hy : ys.length = L) (hj : j < L) :
    ∃ g y, A = some ⟨g, 0, none⟩ ∧ base ≤ g ∧ (Value.slice A L cap).ownBlock = some g ∧ w.cell? ⟨g, j, none⟩ = some (.int .u8 ((y : UInt8).toNat : Int)) ∧ w.frozen? ⟨g, j, none⟩ = false ∧
      (w.setCell ⟨g, j, none⟩ (.int .u8 ((y + 1).toNat : Int))).ownsRow base 5 1 (.slice A L cap) L (octets (ys.set j (y + 1))) := by
  obtain ⟨g, cap', he, hg, _⟩ := h.form (by omega)
  injection he with e1 _ e3
  subst e1 e3
  obtain ⟨y, hyj⟩ : ∃ y, ys[j]? = some y := ⟨_, List.getElem?_eq_getElem (by omega)⟩
  refine ⟨g, y, rfl, hg, rfl, (h.cellAt j (by omega)).trans (octets_at hyj), h.frozenAt j, ?_⟩
  rw [← octets_set]
  exact (h.stored j _).1

theorem u8_up (y : UInt8) : (((y + 1).toNat : Nat) : Int) = ((y.toNat : Int) + 1) % 256 := by
  rw [UInt8.toNat_add]
  simp

set_option maxRecDepth 10000 in
set_option maxHeartbeats 8000000 in
theorem packNumbers_any (v vl : Value) (b : List UInt8) (l : List Int) (width n : Int) (w : World) (hb : Bs w (fun _ => True) v b) (hl : Ns w (fun _ => True) vl l) (hwf : ∀ n ∈ l, -9223372036854775808 ≤ n ∧ n ≤ 9223372036854775807) :
    Calls Try.prog 4 #[v, .int .i64 width, vl, .int .i64 n] w (True_ w) := by
  have HLIVE := Lib.hid (live3_any w)
  have HB := Lib.hid hb
  have HL := Lib.hid hl
  have HWF := Lib.hid hwf
  clear hwf
  obtain ⟨A, c, rfl, hc1, hc2, _⟩ := hb
  obtain ⟨A', c', rfl, hc1', hc2', _⟩ := hl
  unfold maxLen at hc2 hc2'
  by_cases hgo : ((b.length ≤ 1000 ∧ n ≤ 2000) ∨ (b.length ≤ 1000 ∧ 65536 < n) ∨ (60000 ≤ b.length ∧ b.length ≤ 70000 ∧ n ≤ 2000) ∨ (60000 ≤ b.length ∧ b.length ≤ 70000 ∧ 65536 < n)) ∧ l.length ≤ 2000
  · obtain ⟨hgo, gl⟩ := hgo
    have gb : b.length ≤ 70000 := by omega
    obtain ⟨X, ex, hput⟩ : ∃ X ex, put b width l = (X, ex) := ⟨_, _, rfl⟩
    obtain ⟨T, R, et, htake⟩ : ∃ T R et, take b width n = (T, R, et) := ⟨_, _, _, rfl⟩
    have HP1 := Lib.hid (fun W (hb : Below w.heap.size w W) => put_any _ _ b width l W (HB.out.below hb) (HL.out.below hb) (by omega) (by omega))
    have HP2 := Lib.hid (fun W (hb : Below w.heap.size w W) => refPut_any _ _ b width l W (HB.out.below hb) (HL.out.below hb) (by omega) (by omega) HWF.out)
    have HT1 := Lib.hid (fun W (hb : Below w.heap.size w W) => take_any _ b width n W (HB.out.below hb) (by omega))
    have HT2 := Lib.hid (fun W (hb : Below w.heap.size w W) => refTake_any _ b width n W (HB.out.below hb) (by omega))
    rw [hput] at HP1 HP2
    rw [htake] at HT1 HT2
    clear hput htake
    generalize b.length = M at *
    generalize l.length = N at *
    rcases hgo with ⟨h1, h2⟩ | ⟨h1, h2⟩ | ⟨h1, h2, h3⟩ | ⟨h1, h2, h3⟩
    all_goals
      have x0 := run_text HB.out
      go_enter Try.func4, Try.ntmps4
      go_wp2_with fail
      refine HLIVE.out.mono ?_
      rintro e w1 ⟨rfl, hb1⟩
      have HB1 := Lib.hid hb1
      have x1 := run_text (HB.out.below hb1)
      clear hb1 x0
      go_wp2_with fail
      clear x1
      refine (HP1.out _ HB1.out).mono ?_
      intro e w2 hg
      obtain ⟨A2, c2, rfl, ho2, hs2, hb2⟩ := gives_re hg
      have HO2 := Lib.hid (own_mono ho2 HB1.out.size)
      have HS2 := Lib.hid hs2
      have HB2 := Lib.hid (HB1.out.trans (hb2.mono HB1.out.size))
      clear hg ho2 hs2 hb2
      go_wp2_with fail
      refine (HP2.out _ HB2.out).mono ?_
      intro e w3 hg
      obtain ⟨A3, c3, rfl, -, hs3, hb3⟩ := gives_re hg
      have HO2 := Lib.hid (own_below HO2.out hb3 fun b hh => (HO2.out.lt b hh).2)
      have HS2 := Lib.hid (HS2.out.below hb3)
      have HS3 := Lib.hid hs3
      have HB3 := Lib.hid (HB2.out.trans (hb3.mono HB2.out.size))
      clear hg hs3 hb3
      go_wp2_with fail
      refine (HT1.out _ HB3.out).mono ?_
      intro e w4 hg
      obtain ⟨A4, c4, A5, c5, rfl, -, ho5, hs4, hs5, hb4⟩ := gives_t hg
      have HNE := Lib.hid (show ∀ b, (Value.slice A2 X.length c2).ownBlock = some b → ∀ b', (Value.slice A5 R.length c5).ownBlock = some b' → b' ≠ b from fun b hb b' hb' he => by
        have q1 := (HO2.out.lt b hb).2
        have q2 := (ho5.lt b' hb').1
        omega)
      have HO2 := Lib.hid (own_below HO2.out hb4 fun b hh => (HO2.out.lt b hh).2)
      have HO5 := Lib.hid (own_mono ho5 HB3.out.size)
      have HS2 := Lib.hid (HS2.out.below hb4)
      have HS3 := Lib.hid (HS3.out.below hb4)
      have HS4 := Lib.hid hs4
      have HS5 := Lib.hid hs5
      have HB4 := Lib.hid (HB3.out.trans (hb4.mono HB3.out.size))
      clear hg ho5 hs4 hs5 hb4
      go_wp2_with fail
      refine (HT2.out _ HB4.out).mono ?_
      intro e w5 hg
      obtain ⟨A6, c6, A7, c7, rfl, -, -, hs6, hs7, hb5⟩ := gives_t hg
      have HO2 := Lib.hid (own_below HO2.out hb5 fun b hh => (HO2.out.lt b hh).2)
      have HO5 := Lib.hid (own_below HO5.out hb5 fun b hh => (HO5.out.lt b hh).2)
      have HS2 := Lib.hid (HS2.out.below hb5)
      have HS3 := Lib.hid (HS3.out.below hb5)
      have HS4 := Lib.hid (HS4.out.below hb5)
      have HS5 := Lib.hid (HS5.out.below hb5)
      have HS6 := Lib.hid hs6
      have HS7 := Lib.hid hs7
      have HB5 := Lib.hid (HB4.out.trans (hb5.mono HB4.out.size))
      clear hg hs6 hs7 hb5
      go_wp2_with fail
      refine (sameBytes_any _ _ X X _ HS2.out HS3.out).mono ?_
      rw [decide_eq_true rfl]
      rintro e w6 ⟨rfl, rfl⟩
      go_wp2_with fail
      refine (sameInts_any _ _ T T _ HS4.out HS6.out).mono ?_
      rw [decide_eq_true rfl]
      rintro e w6 ⟨rfl, hb6⟩
      have HO2 := Lib.hid (own_below HO2.out hb6 fun b hh => (HO2.out.lt b hh).2)
      have HO5 := Lib.hid (own_below HO5.out hb6 fun b hh => (HO5.out.lt b hh).2)
      have HS5 := Lib.hid (HS5.out.below hb6)
      have HS7 := Lib.hid (HS7.out.below hb6)
      have HB6 := Lib.hid (HB5.out.trans (hb6.mono HB5.out.size))
      clear hb6
      go_wp2_with fail
      refine (sameBytes_any _ _ R R _ HS5.out HS7.out).mono ?_
      rw [decide_eq_true rfl]
      rintro e w7 ⟨rfl, rfl⟩
      go_wp2_with fail
      have xb : X.length ≤ 9223372036854775807 := Nat.le_trans HS2.out.caps.2.1 HS2.out.caps.2.2
      have rb : R.length ≤ 9223372036854775807 := Nat.le_trans HS5.out.caps.2.1 HS5.out.caps.2.2
      clear HS2 HS3 HS4 HS5 HS6 HS7 HP1 HP2 HT1 HT2
      go_loopw [22, 111] (fun _ i wr => ∃ j : Nat, j ≤ X.length ∧ i = .int .i64 (j : Int) ∧ ∃ ys, ys.length = X.length ∧ Hid (wr.ownsRow w.heap.size 5 1 (.slice A2 X.length c2) X.length (octets ys)) ∧ Hid (wr.ownsRow w.heap.size 5 1 (.slice A5 R.length c5) R.length (octets R)) ∧ Hid (Below w.heap.size w wr)) (fun _ i _ => X.length - (intOf i).toNat)
      case atStart => exact ⟨0, by omega, rfl, X, rfl, HO2, HO5, HB6⟩
      case round =>
        obtain ⟨j, hj, rfl, ys, hys, HOX, HOR, HBE⟩ := hrel
        by_cases hlt : j < X.length
        · obtain ⟨g, y, rfl, hg, hob, hcell, hfz, hst⟩ := up_at HOX.out hys hlt
          have HOX' := Lib.hid hst
          have HOR' := Lib.hid (own_far HOR.out (p := ⟨g, j, none⟩) (fun b hb => HNE.out g hob b hb) (.int .u8 ((y + 1).toNat : Int)))
          have HBE' := Lib.hid (HBE.out.setCell (p := ⟨g, j, none⟩) hg (.int .u8 ((y + 1).toNat : Int)))
          have HUP := Lib.hid (u8_up y)
          have hyl := y.toNat_lt
          have HYS := Lib.hid (show (ys.set j (y + 1)).length = X.length by rw [List.length_set]; exact hys)
          clear hys hst
          go_wp2_with fail
          rw [← HUP.out]
          go_roundw
          case rel => exact ⟨j + 1, by omega, by go_num, _, HYS.out, HOX', HOR', HBE'⟩
          case measure => simp [intOf]; omega
        · obtain rfl : j = X.length := by omega
          clear hys
          go_wp2_with fail
          obtain ⟨wo, hwo⟩ : ∃ wo : World, wo = wr := ⟨_, rfl⟩
          subst hwo
          go_loopw [23, 123] (fun _ i wq => ∃ q : Nat, q ≤ R.length ∧ i = .int .i64 (q : Int) ∧ ∃ zs, zs.length = R.length ∧ Hid (wq.ownsRow w.heap.size 5 1 (.slice A5 R.length c5) R.length (octets zs)) ∧ Hid (Below w.heap.size w wq)) (fun _ i _ => R.length - (intOf i).toNat)
          case atStart => exact ⟨0, by omega, rfl, R, rfl, HOR, HBE⟩
          case round =>
            obtain ⟨q, hq, rfl, zs, hzs, HOZ, HBQ⟩ := hrel
            by_cases hlt2 : q < R.length
            · obtain ⟨g, y, rfl, hg, hob, hcell, hfz, hst⟩ := up_at HOZ.out hzs hlt2
              have HOZ' := Lib.hid hst
              have HBQ' := Lib.hid (HBQ.out.setCell (p := ⟨g, q, none⟩) hg (.int .u8 ((y + 1).toNat : Int)))
              have HUP := Lib.hid (u8_up y)
              have hyl := y.toNat_lt
              have HZS := Lib.hid (show (zs.set q (y + 1)).length = R.length by rw [List.length_set]; exact hzs)
              clear hzs hst
              go_wp2_with fail
              rw [← HUP.out]
              go_roundw
              case rel => exact ⟨q + 1, by omega, by go_num, _, HZS.out, HOZ', HBQ'⟩
              case measure => simp [intOf]; omega
            · obtain rfl : q = R.length := by omega
              clear hzs
              have x9 := run_text (HB.out.below HBQ.out)
              go_wp2_with fail
              go_ret
              exact ⟨rfl, HBQ.out⟩
  · have hno : (1000 < b.length ∧ b.length < 60000) ∨ 70000 < b.length ∨ (b.length ≤ 1000 ∧ 2000 < l.length) ∨ (60000 ≤ b.length ∧ b.length ≤ 70000 ∧ 2000 < l.length) ∨
        (b.length ≤ 1000 ∧ l.length ≤ 2000 ∧ 2000 < n ∧ n ≤ 65536) ∨ (60000 ≤ b.length ∧ b.length ≤ 70000 ∧ l.length ≤ 2000 ∧ 2000 < n ∧ n ≤ 65536) := by omega
    clear hgo
    generalize b.length = M at *
    generalize l.length = N at *
    rcases hno with ⟨h1, h2⟩ | h1 | ⟨h1, h2⟩ | ⟨h1, h2, h3⟩ | ⟨h1, h2, h3, h4⟩ | ⟨h1, h2, h3, h4, h5⟩
    all_goals
      go_enter Try.func4, Try.ntmps4
      go_wp2_with fail
      refine HLIVE.out.mono ?_
      rintro e w1 ⟨rfl, hb1⟩
      have HB1 := Lib.hid hb1
      clear hb1
      go_wp2_with fail
      go_ret
      exact ⟨rfl, HB1.out⟩

end Go.Proofs.Ytglidjnecjelhaa
