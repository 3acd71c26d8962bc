/- Contract of the reference's: List. -/
import Derived.Test.Ytndccdoohmgmlab5A
namespace Go.Proofs.Ytndccdoohmgmlab
open Go.RowKit Pk

theorem put_four {n : Nat} (h : n ≤ 65536) : put [] 4 [(n : Int)] = (oct 4 (n : Int), 0) :=
  put_more (k := 4) (m := 4) (by omega) (decide_eq_true (by simp only [Int.reducePow]; omega)) (by omega) (by omega)

set_option maxRecDepth 10000 in
set_option maxHeartbeats 2000000 in
theorem refList_any (v : Value) (l : List (List UInt8)) (w : World) (h : Ts w (fun _ => True) v l) (hl : l.length ≤ 1000000) (ht : ∀ t ∈ l, t.length ≤ 70000) :
    Calls Try.prog 18 #[v] w (GivesRE w (listp l)) := by
  obtain ⟨i0, hi0, hz0, hz1, hz2⟩ := info_parts info8
  have HT := Lib.hid h
  have HLT := Lib.hid ht
  clear ht
  obtain ⟨A, c, xs, rfl, hc1, hc2, _⟩ := h
  unfold maxLen at hc2
  generalize hL : l.length = L at *
  have HL := Lib.hid hL
  clear hL
  go_enter Try.func18, Try.ntmps18
  go_wp2_with fail
  go_loop [4, 6, 14] (fun s _ i => ∃ j : Nat, j ≤ L ∧ i = .int .i64 (j : Int) ∧ ∃ m : Nat, m ≤ 65536 ∧ s = .int .i64 (m : Int) ∧ Hid ((lst (l.take j)).length = m)) (fun _ _ i => L - (intOf i).toNat)
  case atStart => exact ⟨0, by omega, rfl, 0, by omega, rfl, Lib.hid rfl⟩
  case round =>
    obtain ⟨j, hj, rfl, m, hm, rfl, HM⟩ := hrel
    by_cases hlt : j < L
    · obtain ⟨t, ht⟩ : ∃ t, l[j]? = some t := ⟨_, List.getElem?_eq_getElem (by rw [HL.out]; exact hlt)⟩
      obtain ⟨ad, B, d, rfl, hcj, hbt⟩ := HT.out.at_ ht
      have hcd := hbt.caps.2
      have htl := HLT.out t (List.mem_of_getElem? ht)
      have HS := Lib.hid (show (lst (l.take (j + 1))).length = m + (4 + t.length) by rw [lst_take_succ ht, lst_snoc_length, HM.out])
      have HP := Lib.hid (lst_part l (j + 1))
      clear ht hbt
      generalize t.length = T at *
      have hmin : min (T : Int) 70000 = (T : Int) := by omega
      by_cases hbig : 65536 < m + (4 + T)
      · have HE := Lib.hid (listp_long (l := l) (by have h1 := HP.out; have h2 := HS.out; omega))
        go_wp2_with fail
        go_ret2
        exact ⟨_, by rw [HE.out]; rfl, by rw [HE.out]; exact World.ownsRow_nil _ _ _ _, Below.refl _ _⟩
      · go_wp2_with fail
        go_round
        case rel => exact ⟨j + 1, by omega, by go_num, m + (4 + T), by omega, by go_num, HS⟩
        case measure => simp [intOf]; omega
    · obtain rfl : j = L := by omega
      have HLL := Lib.hid (show (lst l).length = m by have := HM.out; rwa [← HL.out, List.take_length] at this)
      have HE := Lib.hid (listp_ok (l := l) (by rw [HLL.out]; exact hm))
      go_wp2_with fail
      go_loopw [7, 9, 10, 11, 29] (fun u _ _ _ i wr => ∃ q : Nat, q ≤ j ∧ i = .int .i64 (q : Int) ∧ Hid (wr.ownsRow w.heap.size 5 1 u (lst (l.take q)).length (octets (lst (l.take q)))) ∧ Hid (Below w.heap.size w wr)) (fun _ _ _ _ i _ => j - (intOf i).toNat)
      case atStart => exact ⟨0, by omega, rfl, Lib.hid (World.ownsRow_nil _ _ _ _), Lib.hid (Below.refl _ _)⟩
      case round =>
        obtain ⟨q, hq, rfl, HOWN, HBE⟩ := hrel
        by_cases hlt2 : q < j
        · obtain ⟨t, ht⟩ : ∃ t, l[q]? = some t := ⟨_, List.getElem?_eq_getElem (by rw [HL.out]; exact hlt2)⟩
          obtain ⟨ad, B, d, rfl, hcj, hbt⟩ := (HT.out.below HBE.out).at_ ht
          have hcd := hbt.caps.2
          have hlen := lst_snoc_length (l.take q) t
          have hpart := lst_part l (q + 1)
          rw [lst_take_succ ht, HLL.out] at hpart
          have hX : (lst (l.take q)).length + (4 + t.length) ≤ 65536 := by omega
          have HX := Lib.hid (show lst (l.take (q + 1)) = (lst (l.take q) ++ oct 4 (t.length : Int)) ++ t by rw [lst_take_succ ht, lst_snoc, List.append_assoc])
          have HPT := Lib.hid (show ∀ (v : Value) W, Ns W (fun _ => True) v [(t.length : Int)] → Calls Try.prog 12 #[.slice none 0 0, .int .i64 4, v] W (GivesRE W (oct 4 (t.length : Int), 0)) from fun v W h1 => by
            have := refPut_any _ v [] 4 [(t.length : Int)] W (bs_none _) h1 (by simp) (by simp) (fun n hn => by simp at hn; omega)
            rwa [put_four (by omega)] at this)
          have hOL := oct_length 4 (t.length : Int)
          have hbw : Bs w (fun _ => True) (.slice B t.length d) t := by
            obtain ⟨ad', B', d', e1, e2, e3⟩ := HT.out.at_ ht
            injection e1 with e1
            subst e1
            have e4 := (HBE.out.cell (World.block_lt_of_cell? w _ e2)).trans e2
            rw [hcj] at e4
            injection e4 with e4
            injection e4 with e5 e6 e7
            subst e5 e7
            exact e3
          have HBW := Lib.hid hbw.cells
          have hY : (lst (l.take q)).length ≤ 65536 := by omega
          obtain ⟨Y, hYd⟩ : ∃ Y, Y = lst (l.take q) := ⟨_, rfl⟩
          obtain ⟨O, hOd⟩ : ∃ O, O = oct 4 (t.length : Int) := ⟨_, rfl⟩
          rw [← hYd] at HOWN HX hX hY
          rw [← hOd] at HX HPT hOL
          have HOL := Lib.hid hOL
          generalize hTT : t.length = T at *
          have HTT := Lib.hid hTT
          have HNS := Lib.hid (ns_one wr (T : Int))
          clear ht hbt hbw hlen hpart hTT hYd hOd hOL
          go_wp2_with fail
          refine (HPT.out _ _ HNS.out).mono ?_
          intro e w2 hg
          obtain ⟨A2, c2, rfl, -, hs2, hb2⟩ := gives_re hg
          rw [HOL.out] at hs2 ⊢
          have hb20 : Below wr.heap.size wr w2 := (below_new wr _).trans (hb2.mono (by simp))
          have HO2 := Lib.hid (own_below HOWN.out hb20 fun b hh => (HOWN.out.lt b hh).2)
          have HB2 := Lib.hid (HBE.out.trans (hb20.mono HBE.out.size))
          have HS2 := Lib.hid hs2
          clear hg hs2 hb2 hb20
          go_wp2_with (first
            | (at_builtin; refine wpList_append_cells _ rfl (.tmp 40) (.tmp 41) _ rfl w.heap.size 5 i0 (.int .u8 0) 1 1 Try.underlying22 hi0 hz0 hz1 hz2 rfl (by decide) _ Y.length _ rfl HO2.out (fun _ => True) _ _ _ (octets O) rfl (by rw [octets_length, HOL.out]) HS2.out.cells octets_one (by unfold maxLen; omega) (by omega) HB2.out.size ?_; intro v3 w3 hown3 hgr3 hgn3; have hb3 := HB2.out.grown hgr3 HB2.out.size (fun i hi => (HO2.out.lt i hi).1))
            | (at_builtin; refine wpList_append_cells _ rfl (.tmp 42) (.tmp 43) _ rfl w.heap.size 5 i0 (.int .u8 0) 1 1 Try.underlying22 hi0 hz0 hz1 hz2 rfl (by decide) _ _ _ rfl hown3 (fun _ => True) _ _ _ (octets t) rfl (by rw [octets_length, HTT.out, Nat.mul_one]) (HBW.out.below hb3) octets_one (by unfold maxLen; omega) (by omega) hb3.size ?_))
          intro v4 w4 hown4 hgr4 hgn4
          have HB4 := Lib.hid (hb3.grown hgr4 hb3.size (fun i hi => (hown3.lt i hi).1))
          have HO4 := Lib.hid (show w4.ownsRow w.heap.size 5 1 v4 (Y ++ O ++ t).length (octets (Y ++ O ++ t)) by
            rw [octets_append, octets_append, List.length_append, List.length_append, HTT.out, HOL.out, List.append_assoc]
            simpa only [List.append_assoc] using hown4)
          rw [← HX.out] at HO4
          clear hown3 hgr3 hgn3 hb3 hown4 hgr4 hgn4
          go_wp2_with fail
          go_roundw
          case rel => exact ⟨q + 1, by omega, by go_num, HO4, HB4⟩
          case measure => simp [intOf]; omega
        · obtain rfl : q = j := by omega
          have HTL := Lib.hid (show l.take q = l by rw [← HL.out, List.take_length])
          go_wp2_with fail
          go_ret2
          refine ⟨_, by rw [HE.out]; rfl, ?_, HBE.out⟩
          rw [HE.out]
          have h := HOWN.out
          rw [HTL.out] at h
          exact h

end Go.Proofs.Ytndccdoohmgmlab
