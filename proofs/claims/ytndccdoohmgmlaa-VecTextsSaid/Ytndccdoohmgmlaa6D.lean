/- Contracts of the reference's: Dist, Dot. -/
import Derived.Test.Ytndccdoohmgmlaa6C
namespace Go.Proofs.Ytndccdoohmgmlaa
open Go.RowKit Pk Vc

set_option maxHeartbeats 1600000 in
theorem refDist_any (va vb : Value) (a b : List Int) (w : World) (ha : Vs w (fun _ => True) va a) (hb : Vs w (fun _ => True) vb b) (sa : Small a) (sb : Small b) :
    Calls Try.prog 12 #[va, vb] w (GivesI w (dist a b)) := by
  have HP := Lib.hid (two_any va vb a b w ha hb)
  have HS := Lib.hid (And.intro sa sb)
  obtain ⟨A, c, rfl, hc1, hc2, _, hc⟩ := ha
  obtain ⟨A', c', rfl, hc1', hc2', _, hc'⟩ := hb
  unfold maxLen at hc2 hc2'
  have HC := Lib.hid hc
  have HC' := Lib.hid hc'
  clear hc hc' sa sb
  cases hp : isP a b
  · have HE := Lib.hid (dist_no hp)
    rw [hp] at HP
    clear hp HS
    generalize a.length = M at *
    generalize b.length = N at *
    go_enter Try.func12, Try.ntmps12
    go_wp2_with fail
    refine HP.out.mono ?_
    rintro e w' ⟨rfl, rfl⟩
    go_wp2_with fail
    go_ret2
    exact ⟨by rw [HE.out]; rfl, Below.refl _ _⟩
  · have HE := Lib.hid (dist_ok hp)
    obtain ⟨hl, hoa, hob⟩ := isP_yes hp
    obtain ⟨o1, o2, _⟩ := okV_yes hoa
    rw [hp] at HP
    have HLE := Lib.hid (dif_le hl HS.out.1 HS.out.2)
    clear hp hoa hob
    generalize hM : a.length = M at *
    generalize hN : b.length = N at *
    have HM := Lib.hid hM
    have HN := Lib.hid hN
    clear hM hN
    subst hl
    go_enter Try.func12, Try.ntmps12
    go_wp2_with fail
    refine HP.out.mono ?_
    rintro e w' ⟨rfl, rfl⟩
    go_wp2_with fail
    go_loopw [6, 7, 8, 15] (fun s _ _ i wr => ∃ j : Nat, j ≤ M ∧ i = .int .i64 (j : Int) ∧ s = .int .i64 (sm (dif a b) j) ∧ Hid (Below w.heap.size w wr)) (fun _ _ _ i _ => M - (intOf i).toNat)
    case atStart => exact ⟨0, by omega, rfl, rfl, Lib.hid (Below.refl _ _)⟩
    case round =>
      obtain ⟨j, hj, rfl, rfl, HBE⟩ := hrel
      by_cases hlt : j < M
      · obtain ⟨x, hx⟩ : ∃ x, a[j]? = some x := ⟨_, List.getElem?_eq_getElem (by rw [HM.out]; exact hlt)⟩
        obtain ⟨y, hy⟩ : ∃ y, b[j]? = some y := ⟨_, List.getElem?_eq_getElem (by rw [HN.out]; exact hlt)⟩
        obtain ⟨ad, rfl, k1⟩ := cell_at (HC.out.below HBE.out) (nshorts_at hx)
        obtain ⟨ad', rfl, k2⟩ := cell_at (HC'.out.below HBE.out) (nshorts_at hy)
        have bx := HS.out.1 x (List.mem_of_getElem? hx)
        have by_ := HS.out.2 y (List.mem_of_getElem? hy)
        have hd : dif a b j = (x - y) * (x - y) := by rw [dif, at_ hx, at_ hy]
        have hsq := HLE.out j hlt
        rw [hd] at hsq
        have hsm := sm_le (f := dif a b) (n := j) fun i hi => HLE.out i (by omega)
        have HSN := Lib.hid (show sm (dif a b) (j + 1) = sm (dif a b) j + (x - y) * (x - y) by rw [sm, hd])
        have hlt' : (j : Int) < (M : Int) := by omega
        clear hx hy hd
        generalize sm (dif a b) j = S at *
        go_wp2_with fail
        go_quiet (fail)
        go_wp2_with fail
        go_roundw
        case rel => exact ⟨j + 1, by omega, by go_num, by rw [HSN.out], Lib.hid (below_drewN HBE.out _)⟩
        case measure => simp [intOf]; omega
      · obtain rfl : j = M := by omega
        go_wp2_with fail
        go_ret2
        exact ⟨by rw [HE.out]; rfl, HBE.out⟩

set_option maxHeartbeats 1600000 in
theorem refDot_any (va vb : Value) (a b : List Int) (w : World) (ha : Vs w (fun _ => True) va a) (hb : Vs w (fun _ => True) vb b) (sa : Small a) (sb : Small b) :
    Calls Try.prog 14 #[va, vb] w (GivesI w (dot a b)) := by
  have HP := Lib.hid (two_any va vb a b w ha hb)
  have HS := Lib.hid (And.intro sa sb)
  obtain ⟨A, c, rfl, hc1, hc2, _, hc⟩ := ha
  obtain ⟨A', c', rfl, hc1', hc2', _, hc'⟩ := hb
  unfold maxLen at hc2 hc2'
  have HC := Lib.hid hc
  have HC' := Lib.hid hc'
  clear hc hc' sa sb
  cases hp : isP a b
  · have HE := Lib.hid (dot_no hp)
    rw [hp] at HP
    clear hp HS
    generalize a.length = M at *
    generalize b.length = N at *
    go_enter Try.func14, Try.ntmps14
    go_wp2_with fail
    refine HP.out.mono ?_
    rintro e w' ⟨rfl, rfl⟩
    go_wp2_with fail
    go_ret2
    exact ⟨by rw [HE.out]; rfl, Below.refl _ _⟩
  · have HE := Lib.hid (dot_ok hp)
    obtain ⟨hl, hoa, hob⟩ := isP_yes hp
    obtain ⟨o1, o2, _⟩ := okV_yes hoa
    rw [hp] at HP
    have HLE := Lib.hid (pro_le hl HS.out.1 HS.out.2)
    clear hp hoa hob
    generalize hM : a.length = M at *
    generalize hN : b.length = N at *
    have HM := Lib.hid hM
    have HN := Lib.hid hN
    clear hM hN
    subst hl
    go_enter Try.func14, Try.ntmps14
    go_wp2_with fail
    refine HP.out.mono ?_
    rintro e w' ⟨rfl, rfl⟩
    go_wp2_with fail
    go_loopw [6, 7, 14] (fun s _ i wr => ∃ j : Nat, j ≤ M ∧ i = .int .i64 (j : Int) ∧ s = .int .i64 (sm (pro a b) j) ∧ Hid (Below w.heap.size w wr)) (fun _ _ i _ => M - (intOf i).toNat)
    case atStart => exact ⟨0, by omega, rfl, rfl, Lib.hid (Below.refl _ _)⟩
    case round =>
      obtain ⟨j, hj, rfl, rfl, HBE⟩ := hrel
      by_cases hlt : j < M
      · obtain ⟨x, hx⟩ : ∃ x, a[j]? = some x := ⟨_, List.getElem?_eq_getElem (by rw [HM.out]; exact hlt)⟩
        obtain ⟨y, hy⟩ : ∃ y, b[j]? = some y := ⟨_, List.getElem?_eq_getElem (by rw [HN.out]; exact hlt)⟩
        obtain ⟨ad, rfl, k1⟩ := cell_at (HC.out.below HBE.out) (nshorts_at hx)
        obtain ⟨ad', rfl, k2⟩ := cell_at (HC'.out.below HBE.out) (nshorts_at hy)
        have bx := HS.out.1 x (List.mem_of_getElem? hx)
        have by_ := HS.out.2 y (List.mem_of_getElem? hy)
        have hd : pro a b j = x * y := by rw [pro, at_ hx, at_ hy]
        have hsq := HLE.out j hlt
        rw [hd] at hsq
        have hsm := sm_abs (f := pro a b) (m := 1073741824) (n := j) fun i hi => HLE.out i (by omega)
        have HSN := Lib.hid (show sm (pro a b) (j + 1) = sm (pro a b) j + x * y by rw [sm, hd])
        have hlt' : (j : Int) < (M : Int) := by omega
        clear hx hy hd
        generalize sm (pro a b) j = S at *
        go_wp2_with fail
        go_quiet (fail)
        go_wp2_with fail
        go_roundw
        case rel => exact ⟨j + 1, by omega, by go_num, by rw [HSN.out], Lib.hid (below_drewN HBE.out _)⟩
        case measure => simp [intOf]; omega
      · obtain rfl : j = M := by omega
        go_wp2_with fail
        go_ret2
        exact ⟨by rw [HE.out]; rfl, HBE.out⟩

end Go.Proofs.Ytndccdoohmgmlaa
