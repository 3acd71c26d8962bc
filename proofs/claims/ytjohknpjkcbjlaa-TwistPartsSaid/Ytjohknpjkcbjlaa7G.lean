/- Contracts of the reference's: Turn, Back. -/
import Derived.Test.Ytjohknpjkcbjlaa7E
namespace Go.Proofs.Ytjohknpjkcbjlaa
open Go.RowKit Pk Vc Tw

/-- A list, two neighbours of it turned by so many quarters. -/
def spun (t : List Int) (k m : Nat) (x y : Int) : List Int := (t.set k (rot m (x, y)).1).set (k + 1) (rot m (x, y)).2
theorem spun_none {t : List Int} {k : Nat} {x y : Int} (h1 : t[k]? = some x) (h2 : t[k + 1]? = some y) : spun t k 0 x y = t := by
  obtain ⟨l1, e1⟩ := List.getElem?_eq_some_iff.1 h1
  obtain ⟨l2, e2⟩ := List.getElem?_eq_some_iff.1 h2
  unfold spun
  rw [rot]
  dsimp only
  have a1 : t.set k x = t := by rw [← e1]; exact List.set_getElem_self l1
  rw [a1]
  rw [← e2]
  exact List.set_getElem_self l2
theorem spun_more (t : List Int) (k m : Nat) (x y : Int) : ((spun t k m x y).set k (-(rot m (x, y)).2)).set (k + 1) (rot m (x, y)).1 = spun t k (m + 1) x y := by
  unfold spun
  rw [List.set_comm _ _ (by omega : k + 1 ≠ k), List.set_set, List.set_set, rot]
theorem spun_at {t : List Int} {k m : Nat} {x y : Int} (h : k + 1 < t.length) : (spun t k m x y)[k]? = some (rot m (x, y)).1 ∧ (spun t k m x y)[k + 1]? = some (rot m (x, y)).2 := by
  unfold spun
  constructor
  · rw [List.getElem?_set_ne (by omega), List.getElem?_set_self (by omega)]
  · rw [List.getElem?_set_self (by rw [List.length_set]; exact h)]
theorem spun_length (t : List Int) (k m : Nat) (x y : Int) : (spun t k m x y).length = t.length := by rw [spun, List.length_set, List.length_set]
theorem rot_low {m : Nat} {x y : Int} (hm : m < 4) (hx : -32767 ≤ x ∧ x ≤ 32767) (hy : -32767 ≤ y ∧ y ≤ 32767) : (-32767 ≤ (rot m (x, y)).1 ∧ (rot m (x, y)).1 ≤ 32767) ∧ (-32767 ≤ (rot m (x, y)).2 ∧ (rot m (x, y)).2 ≤ 32767) := by
  have := rot_in (n := m) hx hy
  rwa [Nat.mod_eq_of_lt hm] at this

set_option maxRecDepth 10000 in
set_option maxHeartbeats 4000000 in
theorem refTurn_any (v : Value) (l : List Int) (a : Int) (w : World) (h : Vs w (fun _ => True) v l) (hs : Small l) : Calls Try.prog 12 #[v, .int .i64 a] w (GivesV w (turn l a)) := by
  have HCK := Lib.hid (refChk_any v l w h)
  have HMA := Lib.hid (fun W => may_any a W)
  have HV := Lib.hid h
  obtain ⟨A, c, rfl, hc1, hc2, _⟩ := h
  unfold maxLen at hc2
  cases hk : okV l
  · have HE := Lib.hid (turn_no (w := a) (.inl hk))
    rw [chk_no hk] at HCK
    clear hk HV
    generalize l.length = L at *
    go_enter Try.func12, Try.ntmps12
    go_wp2_with fail
    refine HCK.out.mono ?_
    rintro e w' ⟨rfl, rfl⟩
    go_wp2_with fail
    go_ret2
    exact ⟨_, by rw [HE.out]; rfl, by rw [HE.out]; exact World.ownsRow_nil _ _ _ _, Below.refl _ _⟩
  · cases ea : okW a
    · have HE := Lib.hid (turn_no (v := l) (.inr ea))
      rw [chk_ok hk] at HCK
      rw [ea] at HMA
      clear hk ea HV
      generalize l.length = L at *
      go_enter Try.func12, Try.ntmps12
      go_wp2_with fail
      refine HCK.out.mono ?_
      rintro e w' ⟨rfl, rfl⟩
      go_wp2_with fail
      refine (HMA.out _).mono ?_
      rintro e w' ⟨rfl, rfl⟩
      go_wp2_with fail
      go_ret2
      exact ⟨_, by rw [HE.out]; rfl, by rw [HE.out]; exact World.ownsRow_nil _ _ _ _, Below.refl _ _⟩
    · rw [ea] at HMA
      obtain ⟨n, rfl, hn⟩ := okW_yes ea
      have HE := Lib.hid (turn_ok hk hn)
      rw [show (4 : Nat) ^ 31 = 4611686018427387904 by decide] at hn
      have HDA := Lib.hid (fun W => digits_any n W hn)
      rw [chk_ok hk] at HCK
      obtain ⟨o1, o2, o3⟩ := okV_yes hk
      have HCP := Lib.hid (copy_any _ l w HV.out (by omega))
      have HIN := Lib.hid (show In l from fun x hx => ⟨o3 x hx, (hs x hx).2⟩)
      have HTL := Lib.hid (fun k => trn_length k n l)
      clear hk ea hn hs o3 HV
      generalize hL : l.length = L at *
      have HL := Lib.hid hL
      clear hL
      go_enter Try.func12, Try.ntmps12
      go_wp2_with fail
      refine HCK.out.mono ?_
      rintro e w' ⟨rfl, rfl⟩
      go_wp2_with fail
      refine (HMA.out _).mono ?_
      rintro e w' ⟨rfl, rfl⟩
      go_wp2_with fail
      refine HCP.out.mono ?_
      rintro e w1 ⟨u1, rfl, ho1, hb1⟩
      obtain ⟨A1, c1, rfl⟩ := own_slice ho1
      obtain ⟨g, rfl, hg, hgc, -⟩ := own_at ho1 (by omega)
      have hgl : g < w1.heap.size := (ho1.lt g rfl).2
      have HO1 := Lib.hid ho1
      have HB1 := Lib.hid hb1
      clear ho1 hb1
      go_wp2_with fail
      refine (HDA.out _).mono ?_
      rintro e w2 ⟨u2, rfl, ho2, hb2⟩
      obtain ⟨A2, c2, rfl⟩ := own_slice ho2
      obtain ⟨h, rfl, hh, hhc, -⟩ := own_at ho2 (by omega)
      have hne : h ≠ g := by omega
      have HO1' := Lib.hid (own_below HO1.out hb2 (fun b hb => by have e : some g = some b := hb; injection e with e; omega))
      have HO2 := Lib.hid (own_mono ho2 HB1.out.size)
      have HB2 := Lib.hid (HB1.out.trans (hb2.mono HB1.out.size))
      clear ho2 hb2 HO1 hgl hh
      go_wp2_with fail
      go_loopw [7, 8, 9, 23] (fun _ _ _ i wr => ∃ j : Nat, j ≤ 31 ∧ i = .int .i64 (j : Int) ∧ Hid (wr.ownsRow w.heap.size 33 1 (.slice (some ⟨g, 0, none⟩) L c1) L (nshorts (trn j n l))) ∧ Hid (wr.ownsRow w.heap.size 3 1 (.slice (some ⟨h, 0, none⟩) 31 c2) 31 (nints (dgs 31 n))) ∧ Hid (Below w.heap.size w wr)) (fun _ _ _ i _ => 31 - (intOf i).toNat)
      case atStart => exact ⟨0, by omega, rfl, Lib.hid (by rw [trn_zero]; exact HO1'.out), HO2, HB2⟩
      case round =>
        obtain ⟨j, hj, rfl, HX, HY, HBE⟩ := hrel
        have hfin : ∀ (W : World), trn 31 n l = trn j n l → GivesV w (turn l (n : Int)) (.returned (.tuple #[.slice (some ⟨g, 0, none⟩) L c1, .int .i64 0])) wr := fun W he => by
          rw [HE.out, he]
          refine ⟨_, rfl, ?_, HBE.out⟩
          dsimp only
          rw [HTL.out]
          exact HX.out
        have HFIN := Lib.hid hfin
        clear hfin
        by_cases hlt : j < 31
        · obtain ⟨h', e2, -, -, ky⟩ := own_at HY.out (by omega)
          injection e2 with e2
          injection e2 with e2
          subst e2
          have bd : n / 4 ^ j % 4 < 4 := Nat.mod_lt _ (by omega)
          obtain ⟨cy, _⟩ := ky j _ (nints_at (dgs_at 31 n j hlt))
          clear ky
          by_cases hend : L ≤ 2 * j + 1
          · have HT := Lib.hid (trn_fuel j 31 n l (by rw [HL.out]; exact hend) hj)
            generalize n / 4 ^ j % 4 = d at *
            go_wp2_with fail
            go_ret2
            exact HFIN.out wr HT.out
          · obtain ⟨x, hx⟩ : ∃ x, l[2 * j]? = some x := ⟨_, List.getElem?_eq_getElem (by rw [HL.out]; omega)⟩
            obtain ⟨y, hy⟩ : ∃ y, l[2 * j + 1]? = some y := ⟨_, List.getElem?_eq_getElem (by rw [HL.out]; omega)⟩
            have bx := HIN.out x (List.mem_of_getElem? hx)
            have by_ := HIN.out y (List.mem_of_getElem? hy)
            have HSP := Lib.hid (show spun (trn j n l) (2 * j) (n / 4 ^ j % 4) x y = trn (j + 1) n l from (trn_step j n l x y hx hy).symm)
            have HS0 := Lib.hid (spun_none (t := trn j n l) (k := 2 * j) (by rw [trn_rest _ _ _ _ (Nat.le_refl _)]; exact hx) (by rw [trn_rest _ _ _ _ (by omega)]; exact hy))
            have HTJ := Lib.hid (show 2 * j + 1 < (trn j n l).length by rw [HTL.out]; omega)
            clear hx hy
            generalize n / 4 ^ j % 4 = d at *
            generalize trn j n l = t at *
            go_wp2_with fail
            go_loopw [9, 35] (fun _ i ws => ∃ m : Nat, m ≤ d ∧ i = .int .i64 (m : Int) ∧ Hid (ws.ownsRow w.heap.size 33 1 (.slice (some ⟨g, 0, none⟩) L c1) L (nshorts (spun t (2 * j) m x y))) ∧ Hid (ws.ownsRow w.heap.size 3 1 (.slice (some ⟨h, 0, none⟩) 31 c2) 31 (nints (dgs 31 n))) ∧ Hid (Below w.heap.size w ws)) (fun _ i _ => d - (intOf i).toNat)
            case atStart => exact ⟨0, by omega, rfl, Lib.hid (by rw [HS0.out]; exact HX.out), HY, HBE⟩
            case round =>
              obtain ⟨m, hm, rfl, HXS, HYS, HBS⟩ := hrel
              by_cases hlt2 : m < d
              · have hr := rot_low (m := m) (by omega) bx by_
                have hat := spun_at (m := m) (x := x) (y := y) HTJ.out
                have HMO := Lib.hid (spun_more t (2 * j) m x y)
                obtain ⟨g', e1, -, -, kx⟩ := own_at HXS.out (by omega)
                injection e1 with e1
                injection e1 with e1
                subst e1
                obtain ⟨cp, fp⟩ := kx _ _ (nshorts_at hat.1)
                obtain ⟨cq, fq⟩ := kx _ _ (nshorts_at hat.2)
                generalize (rot m (x, y)).1 = p at *
                generalize (rot m (x, y)).2 = q at *
                have hX2 := own_set HXS.out (k := 2 * j) (.int .i16 (-q))
                rw [nshorts_set] at hX2
                obtain ⟨g', e1, -, -, kx2⟩ := own_at hX2 (by omega)
                injection e1 with e1
                injection e1 with e1
                subst e1
                obtain ⟨cq2, fq2⟩ := kx2 (2 * j + 1) (.int .i16 q) (nshorts_at (by rw [List.getElem?_set_ne (by omega)]; exact hat.2))
                have hX3 := own_set hX2 (k := 2 * j + 1) (.int .i16 p)
                rw [nshorts_set, HMO.out] at hX3
                have HX3 := Lib.hid hX3
                have HY3 := Lib.hid (own_far (own_far HYS.out (p := ⟨g, 2 * j, none⟩) (fun b hb => by have e : some h = some b := hb; injection e with e; rw [← e]; exact hne) (.int .i16 (-q))) (p := ⟨g, 2 * j + 1, none⟩) (fun b hb => by have e : some h = some b := hb; injection e with e; rw [← e]; exact hne) (.int .i16 p))
                have HB3 := Lib.hid ((HBS.out.setCell (p := ⟨g, 2 * j, none⟩) hg (.int .i16 (-q))).setCell (p := ⟨g, 2 * j + 1, none⟩) hg (.int .i16 p))
                clear kx kx2 hX2 hX3 hat
                go_wp2_with fail
                go_roundw
                case rel => exact ⟨m + 1, by omega, by go_num, HX3, HY3, HB3⟩
                case measure => simp [intOf]; omega
              · obtain rfl : m = d := by omega
                have h4 := HXS.out
                rw [HSP.out] at h4
                have HX4 := Lib.hid h4
                clear h4
                go_wp2_with fail
                go_roundw
                case rel => exact ⟨j + 1, by omega, by go_num, HX4, HYS, HBS⟩
                case measure => simp [intOf]; omega
        · obtain rfl : j = 31 := by omega
          go_wp2_with fail
          go_ret2
          exact HFIN.out wr (by first | rfl | trivial)

set_option maxHeartbeats 800000 in
theorem refBack_any (v : Value) (l : List Int) (a : Int) (w : World) (h : Vs w (fun _ => True) v l) (hs : Small l) : Calls Try.prog 14 #[v, .int .i64 a] w (GivesV w (back l a)) := by
  have HN := Lib.hid (refNot_any a w)
  cases ea : okW a
  · rw [nott_no ea] at HN
    have HE := Lib.hid (back_no (v := l) ea)
    obtain ⟨A, c, rfl⟩ := h.form
    clear h hs ea
    generalize l.length = L at *
    go_enter Try.func14, Try.ntmps14
    go_wp2_with fail
    refine HN.out.mono ?_
    rintro e w1 ⟨rfl, hb⟩
    have HB := Lib.hid hb
    clear hb
    go_wp2_with fail
    go_ret2
    exact ⟨_, by rw [HE.out]; rfl, by rw [HE.out]; exact World.ownsRow_nil _ _ _ _, HB.out⟩
  · obtain ⟨n, rfl, hn⟩ := okW_yes ea
    rw [nott_ok hn] at HN
    have HE := Lib.hid (back_ok (v := l) hn)
    have HT := Lib.hid (fun W (hb : Below w.heap.size w W) => refTurn_any v l ((nt 31 n : Nat) : Int) W (h.below hb) hs)
    rw [← HE.out] at HT
    obtain ⟨A, c, rfl⟩ := h.form
    clear h hs ea hn
    generalize l.length = L at *
    generalize ((nt 31 n : Nat) : Int) = m at *
    generalize back l (n : Int) = r at *
    go_enter Try.func14, Try.ntmps14
    go_wp2_with fail
    refine HN.out.mono ?_
    rintro e w1 ⟨rfl, hb⟩
    have HB := Lib.hid hb
    clear hb
    go_wp2_with fail
    refine (HT.out _ HB.out).mono ?_
    rintro e w2 ⟨u, rfl, ho, hb2⟩
    have HO := Lib.hid (own_mono ho HB.out.size)
    have HB2 := Lib.hid (HB.out.trans (hb2.mono HB.out.size))
    clear ho hb2
    go_wp2_with fail
    go_ret2
    exact ⟨u, rfl, HO.out, HB2.out⟩

end Go.Proofs.Ytjohknpjkcbjlaa
