/- Contracts: Dist, Dot; the reference's two. -/
import Derived.Test.Ytjohknpjkcbjlaa6B
namespace Go.Proofs.Ytjohknpjkcbjlaa
open Go.RowKit Pk Vc

/-- The answer of a call that tells a number, and an error. -/
def GivesI (w : World) (r : Int × Int) (e : Ending) (w' : World) : Prop := e = .returned (.tuple #[.int .i64 r.1, .int .i64 r.2]) ∧ Below w.heap.size w w'

theorem dist_no {a b : List Int} (h : isP a b = false) : dist a b = (0, 1) := by rw [dist, h]; rfl
theorem dist_ok {a b : List Int} (h : isP a b = true) : dist a b = (sm (dif a b) a.length, 0) := by rw [dist, h]; rfl
theorem dot_no {a b : List Int} (h : isP a b = false) : dot a b = (0, 1) := by rw [dot, h]; rfl
theorem dot_ok {a b : List Int} (h : isP a b = true) : dot a b = (sm (pro a b) a.length, 0) := by rw [dot, h]; rfl

/-- Two boxes, made one behind the other. -/
theorem boxes (w : World) (va vb : Value) (a b : List Int) (t : TypeId) (ha : Vs w (fun _ => True) va a) (hb : Vs w (fun _ => True) vb b) :
    BoxV ((w.alloc (.cells #[va] t)).alloc (.cells #[vb] t)) w.heap.size a ∧ BoxV ((w.alloc (.cells #[va] t)).alloc (.cells #[vb] t)) (w.heap.size + 1) b := by
  have b1 := below_new w (.cells #[va] t)
  have b2 := below_new (w.alloc (.cells #[va] t)) (.cells #[vb] t)
  have h1 : BoxV (w.alloc (.cells #[va] t)) w.heap.size a := ⟨va, by rw [cell_of_row _ _ 0 _ _ _ (heap_alloc_new w _)]; rfl, ha.below b1⟩
  exact ⟨h1.below b2, vb, by rw [cell_of_row _ _ 0 _ _ _ (heap_second w _ _)]; rfl, (hb.below b1).below b2⟩

set_option maxHeartbeats 800000 in
theorem dist_any (va vb : Value) (a b : List Int) (w : World) (ha : Vs w (fun _ => True) va a) (hb : Vs w (fun _ => True) vb b) (sa : Small a) (sb : Small b) :
    Calls Try.prog 20 #[va, vb] w (GivesI w (dist a b)) := by
  have HBX := Lib.hid (boxes w va vb a b 23 ha hb)
  have HV := Lib.hid (And.intro ha hb)
  have HP := Lib.hid (fun W (h : Below w.heap.size w W) => isPair_any va vb a b W (ha.below h) (hb.below h))
  have HS := Lib.hid (And.intro sa sb)
  have HB0 := Lib.hid (((below_new w (.cells #[va] 23)).trans ((below_new (w.alloc (.cells #[va] 23)) (.cells #[vb] 23)).mono (by simp))))
  obtain ⟨A, c, rfl⟩ := ha.form
  obtain ⟨A', c', rfl⟩ := hb.form
  clear ha hb sa sb
  cases hp : isP a b
  · have HE := Lib.hid (dist_no hp)
    rw [hp] at HP
    clear hp HS
    generalize a.length = M at *
    generalize b.length = N at *
    go_enter Try.func20, Try.ntmps20
    go_wp2_with fail
    refine (HP.out _ HB0.out).mono ?_
    rintro e w' ⟨rfl, rfl⟩
    go_wp2_with fail
    go_ret2
    exact ⟨by rw [HE.out]; rfl, HB0.out⟩
  · have HE := Lib.hid (dist_ok hp)
    obtain ⟨hl, hoa, hob⟩ := isP_yes hp
    obtain ⟨o1, o2, _⟩ := okV_yes hoa
    rw [hp] at HP
    have HSUM := Lib.hid (fun (W : World) (h1 : BoxV W w.heap.size a) (h2 : BoxV W (w.heap.size + 1) b) =>
      sum_any 35 (.inl rfl) (.pointer (some ⟨w.heap.size, 0, none⟩)) (.pointer (some ⟨w.heap.size + 1, 0, none⟩)) (dif a b) a.length W o2
        (fun i hi => by have := dif_le hl HS.out.1 HS.out.2 i hi; omega)
        (fun i W1 hi hb1 => difAt_any a b w.heap.size (w.heap.size + 1) i W1 (h1.below hb1) (h2.below hb1) hi hl o2 HS.out.1 HS.out.2))
    clear hp HS hoa hob
    generalize a.length = M at *
    generalize b.length = N at *
    subst hl
    go_enter Try.func20, Try.ntmps20
    go_wp2_with fail
    refine (HP.out _ HB0.out).mono ?_
    rintro e w' ⟨rfl, rfl⟩
    go_wp2_with fail
    refine (HSUM.out _ HBX.out.1 HBX.out.2).mono ?_
    rintro e w' ⟨rfl, hb⟩
    have HB := Lib.hid (HB0.out.trans (hb.mono HB0.out.size))
    clear hb
    go_wp2_with fail
    go_ret2
    exact ⟨by rw [HE.out]; rfl, HB.out⟩

set_option maxHeartbeats 800000 in
theorem dot_any (va vb : Value) (a b : List Int) (w : World) (ha : Vs w (fun _ => True) va a) (hb : Vs w (fun _ => True) vb b) (sa : Small a) (sb : Small b) :
    Calls Try.prog 21 #[va, vb] w (GivesI w (dot a b)) := by
  have HBX := Lib.hid (boxes w va vb a b 23 ha hb)
  have HV := Lib.hid (And.intro ha hb)
  have HP := Lib.hid (fun W (h : Below w.heap.size w W) => isPair_any va vb a b W (ha.below h) (hb.below h))
  have HS := Lib.hid (And.intro sa sb)
  have HB0 := Lib.hid (((below_new w (.cells #[va] 23)).trans ((below_new (w.alloc (.cells #[va] 23)) (.cells #[vb] 23)).mono (by simp))))
  obtain ⟨A, c, rfl⟩ := ha.form
  obtain ⟨A', c', rfl⟩ := hb.form
  clear ha hb sa sb
  cases hp : isP a b
  · have HE := Lib.hid (dot_no hp)
    rw [hp] at HP
    clear hp HS
    generalize a.length = M at *
    generalize b.length = N at *
    go_enter Try.func21, Try.ntmps21
    go_wp2_with fail
    refine (HP.out _ HB0.out).mono ?_
    rintro e w' ⟨rfl, rfl⟩
    go_wp2_with fail
    go_ret2
    exact ⟨by rw [HE.out]; rfl, HB0.out⟩
  · have HE := Lib.hid (dot_ok hp)
    obtain ⟨hl, hoa, hob⟩ := isP_yes hp
    obtain ⟨o1, o2, _⟩ := okV_yes hoa
    rw [hp] at HP
    have HSUM := Lib.hid (fun (W : World) (h1 : BoxV W w.heap.size a) (h2 : BoxV W (w.heap.size + 1) b) =>
      sum_any 36 (.inr rfl) (.pointer (some ⟨w.heap.size, 0, none⟩)) (.pointer (some ⟨w.heap.size + 1, 0, none⟩)) (pro a b) a.length W o2
        (fun i hi => by have := pro_le hl HS.out.1 HS.out.2 i hi; omega)
        (fun i W1 hi hb1 => proAt_any a b w.heap.size (w.heap.size + 1) i W1 (h1.below hb1) (h2.below hb1) hi hl o2 HS.out.1 HS.out.2))
    clear hp HS hoa hob
    generalize a.length = M at *
    generalize b.length = N at *
    subst hl
    go_enter Try.func21, Try.ntmps21
    go_wp2_with fail
    refine (HP.out _ HB0.out).mono ?_
    rintro e w' ⟨rfl, rfl⟩
    go_wp2_with fail
    refine (HSUM.out _ HBX.out.1 HBX.out.2).mono ?_
    rintro e w' ⟨rfl, hb⟩
    have HB := Lib.hid (HB0.out.trans (hb.mono HB0.out.size))
    clear hb
    go_wp2_with fail
    go_ret2
    exact ⟨by rw [HE.out]; rfl, HB.out⟩

end Go.Proofs.Ytjohknpjkcbjlaa
