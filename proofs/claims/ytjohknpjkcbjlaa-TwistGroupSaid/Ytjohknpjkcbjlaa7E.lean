/- Contracts of the reference's: Both, Not. -/
import Derived.Test.Ytjohknpjkcbjlaa7D
namespace Go.Proofs.Ytjohknpjkcbjlaa
open Go.RowKit Pk Vc Tw

theorem nints_set (l : List Int) (k : Nat) (x : Int) : (nints l).set k (.int .i64 x) = nints (l.set k x) := by rw [nints, nints, List.map_set]
theorem nshorts_set (l : List Int) (k : Nat) (x : Int) : (nshorts l).set k (.int .i16 x) = nshorts (l.set k x) := by rw [nshorts, nshorts, List.map_set]
/-- A list that is filled from its start over another one. -/
theorem over_set {z a : List Int} {j : Nat} {y : Int} (hl : z.length = a.length) (hj : z[j]? = some y) : (z.take j ++ a.drop j).set j y = z.take (j + 1) ++ a.drop (j + 1) := by
  have hlt := (List.getElem?_eq_some_iff.1 hj).1
  have hjl : (z.take j).length = j := by rw [List.length_take]; omega
  rw [List.set_append_right _ _ (by omega), hjl, Nat.sub_self, List.drop_eq_getElem_cons (show j < a.length by omega), List.set_cons_zero, List.take_add_one, hj]
  simp
theorem over_at {z a : List Int} {j : Nat} (hl : z.length = a.length) (hj : j ≤ z.length) : (z.take j ++ a.drop j)[j]? = a[j]? := by
  have hjl : (z.take j).length = j := by rw [List.length_take]; omega
  rw [List.getElem?_append_right (by omega), hjl, Nat.sub_self, List.getElem?_drop, Nat.add_zero]

/-- The answer of a call that tells a number, and an error, in a world of its own. -/
theorem own_ns {w : World} {base n : Nat} {v : Value} {l : List Int} (h : w.ownsRow base 3 1 v n (nints l)) : Ns w (fun _ => True) v l := by
  have hn : l.length = n := by have := h.1; rw [nints_length] at this; omega
  subst hn
  rcases h.2 with ⟨rfl, h0⟩ | ⟨g, cap, cur, rfl, hg, hh, hc, hm, hs, ht⟩
  · exact ⟨none, 0, by rw [h0], by omega, by simp [maxLen], fun _ => rfl, fun hl => by rw [nints_length] at hl; omega⟩
  · exact ⟨some ⟨g, 0, none⟩, cap, rfl, hc, hm, (fun h => by cases h), fun _ => ⟨_, rfl, trivial, h.cells rfl⟩⟩

def mixd (a b : Nat) : List Int := List.zipWith (fun x y => (x + y) % 4) (dgs 31 a) (dgs 31 b)
def turnd (a : Nat) : List Int := (dgs 31 a).map fun x => (4 - x) % 4
theorem mixd_length (a b : Nat) : (mixd a b).length = 31 := by rw [mixd, List.length_zipWith, dgs_length, dgs_length]; rfl
theorem turnd_length (a : Nat) : (turnd a).length = 31 := by rw [turnd, List.length_map, dgs_length]
theorem four_mixd (a b : Nat) : Four (mixd a b) := fun d h => by
  rw [mixd] at h
  obtain ⟨i, hi⟩ := List.mem_iff_getElem?.1 h
  rw [List.getElem?_zipWith] at hi
  split at hi
  · injection hi with hi
    subst hi
    omega
  · cases hi
theorem four_turnd (a : Nat) : Four (turnd a) := fun d h => by
  obtain ⟨x, _, rfl⟩ := List.mem_map.1 h
  omega

set_option maxRecDepth 10000 in
set_option maxHeartbeats 2000000 in
theorem refBoth_any (a b : Int) (w : World) : Calls Try.prog 16 #[.int .i64 a, .int .i64 b] w (GivesI w (both a b)) := by
  have HMA := Lib.hid (fun W => may_any a W)
  have HMB := Lib.hid (fun W => may_any b W)
  cases ea : okW a
  · have HE := Lib.hid (both_no (b := b) (.inl ea))
    rw [ea] at HMA
    clear ea
    go_enter Try.func16, Try.ntmps16
    go_wp2_with fail
    refine (HMA.out _).mono ?_
    rintro e w' ⟨rfl, rfl⟩
    go_wp2_with fail
    go_ret2
    exact ⟨by rw [HE.out]; rfl, Below.refl _ _⟩
  · cases eb : okW b
    · have HE := Lib.hid (both_no (a := a) (.inr eb))
      rw [ea] at HMA
      rw [eb] at HMB
      clear ea eb
      go_enter Try.func16, Try.ntmps16
      go_wp2_with fail
      refine (HMA.out _).mono ?_
      rintro e w' ⟨rfl, rfl⟩
      go_wp2_with fail
      refine (HMB.out _).mono ?_
      rintro e w' ⟨rfl, rfl⟩
      go_wp2_with fail
      go_ret2
      exact ⟨by rw [HE.out]; rfl, Below.refl _ _⟩
    · rw [ea] at HMA
      rw [eb] at HMB
      obtain ⟨n, rfl, hn⟩ := okW_yes ea
      obtain ⟨m, rfl, hm⟩ := okW_yes eb
      have HE := Lib.hid (both_ok hn hm)
      rw [show (4 : Nat) ^ 31 = 4611686018427387904 by decide] at hn hm
      have HDA := Lib.hid (fun W => digits_any n W hn)
      have HDB := Lib.hid (fun W => digits_any m W hm)
      have HZL := Lib.hid (show (mixd n m).length = (dgs 31 n).length by rw [mixd_length, dgs_length])
      have HVL := Lib.hid (show vl (mixd n m) = ((bot 31 n m : Nat) : Int) from vl_bot 31 n m)
      clear ea eb hn hm
      go_enter Try.func16, Try.ntmps16
      go_wp2_with fail
      refine (HMA.out _).mono ?_
      rintro e w' ⟨rfl, rfl⟩
      go_wp2_with fail
      refine (HMB.out _).mono ?_
      rintro e w' ⟨rfl, rfl⟩
      go_wp2_with fail
      refine (HDA.out _).mono ?_
      rintro e w1 ⟨u1, rfl, ho1, hb1⟩
      obtain ⟨A1, c1, rfl⟩ := own_slice ho1
      obtain ⟨g, rfl, hg, hgc, -⟩ := own_at ho1 (by omega)
      have hgl : g < w1.heap.size := (ho1.lt g rfl).2
      have HO1 := Lib.hid ho1
      have HB1 := Lib.hid hb1
      clear ho1 hb1
      go_wp2_with fail
      refine (HDB.out _).mono ?_
      rintro e w2 ⟨u2, rfl, ho2, hb2⟩
      obtain ⟨A2, c2, rfl⟩ := own_slice ho2
      obtain ⟨h, rfl, hh, hhc, -⟩ := own_at ho2 (by omega)
      have hne : h ≠ g := by omega
      have HO1' := Lib.hid (own_below HO1.out hb2 (fun b hb => by have e : some g = some b := hb; injection e with e; omega))
      have HO2 := Lib.hid (own_mono ho2 HB1.out.size)
      have HB2 := Lib.hid (HB1.out.trans (hb2.mono HB1.out.size))
      clear ho2 hb2 HO1 hgl hh
      go_wp2_with fail
      go_loopw [7, 8, 22] (fun _ _ i wr => ∃ j : Nat, j ≤ 31 ∧ i = .int .i64 (j : Int) ∧ Hid (wr.ownsRow w.heap.size 3 1 (.slice (some ⟨g, 0, none⟩) 31 c1) 31 (nints ((mixd n m).take j ++ (dgs 31 n).drop j))) ∧ Hid (wr.ownsRow w.heap.size 3 1 (.slice (some ⟨h, 0, none⟩) 31 c2) 31 (nints (dgs 31 m))) ∧ Hid (Below w.heap.size w wr)) (fun _ _ i _ => 31 - (intOf i).toNat)
      case atStart => exact ⟨0, by omega, rfl, Lib.hid (by rw [List.take_zero, List.nil_append, List.drop_zero]; exact HO1'.out), HO2, HB2⟩
      case round =>
        obtain ⟨j, hj, rfl, HX, HY, HBE⟩ := hrel
        by_cases hlt : j < 31
        · obtain ⟨p, hp⟩ : ∃ p, (dgs 31 n)[j]? = some p := ⟨_, dgs_at 31 n j hlt⟩
          obtain ⟨q, hq⟩ : ∃ q, (dgs 31 m)[j]? = some q := ⟨_, dgs_at 31 m j hlt⟩
          have bp := four_dgs 31 n p (List.mem_of_getElem? hp)
          have bq := four_dgs 31 m q (List.mem_of_getElem? hq)
          obtain ⟨g', e1, -, -, kx⟩ := own_at HX.out (by omega)
          injection e1 with e1
          injection e1 with e1
          subst e1
          obtain ⟨h', e2, -, -, ky⟩ := own_at HY.out (by omega)
          injection e2 with e2
          injection e2 with e2
          subst e2
          obtain ⟨cx, fx⟩ := kx j _ (nints_at (by rw [over_at HZL.out (by rw [mixd_length]; omega)]; exact hp))
          obtain ⟨cy, _⟩ := ky j _ (nints_at hq)
          have hz : (mixd n m)[j]? = some ((p + q) % 4) := by rw [mixd, List.getElem?_zipWith, hp, hq]
          have hX2 := own_set HX.out (k := j) (.int .i64 ((p + q) % 4))
          rw [nints_set, over_set HZL.out hz] at hX2
          have HX2 := Lib.hid hX2
          have HY2 := Lib.hid (own_far HY.out (p := ⟨g, j, none⟩) (fun b hb => by have e : some h = some b := hb; injection e with e; rw [← e]; exact hne) (.int .i64 ((p + q) % 4)))
          have HB3 := Lib.hid (HBE.out.setCell (p := ⟨g, j, none⟩) hg (.int .i64 ((p + q) % 4)))
          clear kx ky hX2 hz hp hq
          go_wp2_with fail
          go_roundw
          case rel => exact ⟨j + 1, by omega, by go_num, HX2, HY2, HB3⟩
          case measure => simp [intOf]; omega
        · obtain rfl : j = 31 := by omega
          have HN := Lib.hid (show Ns wr (fun _ => True) _ (mixd n m) from own_ns (by
            have h := HX.out
            rwa [List.take_of_length_le (by rw [mixd_length]; exact Nat.le_refl _), List.drop_of_length_le (by rw [dgs_length]; exact Nat.le_refl _), List.append_nil] at h))
          go_wp2_with fail
          refine (whole_any _ _ _ HN.out (by rw [mixd_length]; exact Nat.le_refl _) (four_mixd n m)).mono ?_
          rintro e w5 ⟨rfl, rfl⟩
          rw [HVL.out]
          go_wp2_with fail
          go_ret2
          exact ⟨by rw [HE.out]; rfl, HBE.out⟩

set_option maxRecDepth 10000 in
set_option maxHeartbeats 2000000 in
theorem refNot_any (a : Int) (w : World) : Calls Try.prog 18 #[.int .i64 a] w (GivesI w (nott a)) := by
  have HMA := Lib.hid (fun W => may_any a W)
  cases ea : okW a
  · have HE := Lib.hid (nott_no ea)
    rw [ea] at HMA
    clear ea
    go_enter Try.func18, Try.ntmps18
    go_wp2_with fail
    refine (HMA.out _).mono ?_
    rintro e w' ⟨rfl, rfl⟩
    go_wp2_with fail
    go_ret2
    exact ⟨by rw [HE.out]; rfl, Below.refl _ _⟩
  · rw [ea] at HMA
    obtain ⟨n, rfl, hn⟩ := okW_yes ea
    have HE := Lib.hid (nott_ok hn)
    rw [show (4 : Nat) ^ 31 = 4611686018427387904 by decide] at hn
    have HDA := Lib.hid (fun W => digits_any n W hn)
    have HZL := Lib.hid (show (turnd n).length = (dgs 31 n).length by rw [turnd_length, dgs_length])
    have HVL := Lib.hid (show vl (turnd n) = ((nt 31 n : Nat) : Int) from vl_nt 31 n)
    clear ea hn
    go_enter Try.func18, Try.ntmps18
    go_wp2_with fail
    refine (HMA.out _).mono ?_
    rintro e w' ⟨rfl, rfl⟩
    go_wp2_with fail
    refine (HDA.out _).mono ?_
    rintro e w1 ⟨u1, rfl, ho1, hb1⟩
    obtain ⟨A1, c1, rfl⟩ := own_slice ho1
    obtain ⟨g, rfl, hg, hgc, -⟩ := own_at ho1 (by omega)
    have HO1 := Lib.hid ho1
    have HB1 := Lib.hid hb1
    clear ho1 hb1
    go_wp2_with fail
    go_loopw [5, 13] (fun _ i wr => ∃ j : Nat, j ≤ 31 ∧ i = .int .i64 (j : Int) ∧ Hid (wr.ownsRow w.heap.size 3 1 (.slice (some ⟨g, 0, none⟩) 31 c1) 31 (nints ((turnd n).take j ++ (dgs 31 n).drop j))) ∧ Hid (Below w.heap.size w wr)) (fun _ i _ => 31 - (intOf i).toNat)
    case atStart => exact ⟨0, by omega, rfl, Lib.hid (by rw [List.take_zero, List.nil_append, List.drop_zero]; exact HO1.out), HB1⟩
    case round =>
      obtain ⟨j, hj, rfl, HX, HBE⟩ := hrel
      by_cases hlt : j < 31
      · obtain ⟨p, hp⟩ : ∃ p, (dgs 31 n)[j]? = some p := ⟨_, dgs_at 31 n j hlt⟩
        have bp := four_dgs 31 n p (List.mem_of_getElem? hp)
        obtain ⟨g', e1, -, -, kx⟩ := own_at HX.out (by omega)
        injection e1 with e1
        injection e1 with e1
        subst e1
        obtain ⟨cx, fx⟩ := kx j _ (nints_at (by rw [over_at HZL.out (by rw [turnd_length]; omega)]; exact hp))
        have hz : (turnd n)[j]? = some (-p % 4) := by
          rw [turnd, List.getElem?_map, hp]
          exact congrArg some (show (4 - p) % 4 = -p % 4 by omega)
        have hX2 := own_set HX.out (k := j) (.int .i64 (-p % 4))
        rw [nints_set, over_set HZL.out hz] at hX2
        have HX2 := Lib.hid hX2
        have HB3 := Lib.hid (HBE.out.setCell (p := ⟨g, j, none⟩) hg (.int .i64 (-p % 4)))
        clear kx hX2 hz hp
        go_wp2_with fail
        go_roundw
        case rel => exact ⟨j + 1, by omega, by go_num, HX2, HB3⟩
        case measure => simp [intOf]; omega
      · obtain rfl : j = 31 := by omega
        have HN := Lib.hid (show Ns wr (fun _ => True) _ (turnd n) from own_ns (by
          have h := HX.out
          rwa [List.take_of_length_le (by rw [turnd_length]; exact Nat.le_refl _), List.drop_of_length_le (by rw [dgs_length]; exact Nat.le_refl _), List.append_nil] at h))
        go_wp2_with fail
        refine (whole_any _ _ _ HN.out (by rw [turnd_length]; exact Nat.le_refl _) (four_turnd n)).mono ?_
        rintro e w5 ⟨rfl, rfl⟩
        rw [HVL.out]
        go_wp2_with fail
        go_ret2
        exact ⟨by rw [HE.out]; rfl, HBE.out⟩

end Go.Proofs.Ytjohknpjkcbjlaa
