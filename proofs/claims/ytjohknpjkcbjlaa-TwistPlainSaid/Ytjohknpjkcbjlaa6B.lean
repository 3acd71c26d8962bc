/- Contracts: isPair, what Dist and Dot sum up, sum; the reference's two. -/
import Derived.Test.Ytjohknpjkcbjlaa6A
namespace Go.Proofs.Ytjohknpjkcbjlaa
open Go.RowKit Pk Vc

theorem chk_ok {a : List Int} (h : okV a = true) : chk a = 0 := by rw [chk, h]; rfl
theorem chk_no {a : List Int} (h : okV a = false) : chk a = 1 := by rw [chk, h]; rfl

set_option maxHeartbeats 800000 in
theorem isPair_any (va vb : Value) (a b : List Int) (w : World) (ha : Vs w (fun _ => True) va a) (hb : Vs w (fun _ => True) vb b) :
    Calls Try.prog 33 #[va, vb] w fun e w' => e = .returned (.bool (isP a b)) ∧ w = w' := by
  have HA := Lib.hid (chk_any va a w ha)
  have HB := Lib.hid (chk_any vb b w hb)
  obtain ⟨A, c, rfl⟩ := ha.form
  obtain ⟨A', c', rfl⟩ := hb.form
  clear ha hb
  by_cases hl : a.length = b.length
  · have HI := Lib.hid (show isP a b = (okV a && okV b) by rw [isP, decide_eq_true hl, Bool.true_and])
    cases ea : okV a
    · rw [chk_no ea] at HA
      rw [ea] at HI
      clear ea
      generalize a.length = M at *
      generalize b.length = N at *
      subst hl
      go_enter Try.func33, Try.ntmps33
      go_wp2_with fail
      refine HA.out.mono ?_
      rintro e w' ⟨rfl, rfl⟩
      go_wp2_with fail
      go_ret
      exact ⟨ret_bool (by rw [HI.out]; rfl), rfl⟩
    · rw [chk_ok ea] at HA
      rw [ea, Bool.true_and] at HI
      clear ea
      cases eb : okV b
      all_goals
        first
          | rw [chk_no eb] at HB
          | rw [chk_ok eb] at HB
        rw [eb] at HI
        clear eb
        generalize a.length = M at *
        generalize b.length = N at *
        subst hl
        go_enter Try.func33, Try.ntmps33
        go_wp2_with fail
        refine HA.out.mono ?_
        rintro e w' ⟨rfl, rfl⟩
        go_wp2_with fail
        refine HB.out.mono ?_
        rintro e w' ⟨rfl, rfl⟩
        go_wp2_with fail
        go_ret
        exact ⟨ret_bool (by rw [HI.out]), rfl⟩
  · have HI := Lib.hid (show isP a b = false by rw [isP, decide_eq_false hl]; rfl)
    clear HA HB
    generalize a.length = M at *
    generalize b.length = N at *
    have t1 : ((M : Int) == (N : Int)) = false := by simp; omega
    clear hl
    go_enter Try.func33, Try.ntmps33
    go_wp2_with fail
    go_ret
    exact ⟨ret_bool (by rw [HI.out]), rfl⟩

/-- A box that holds a vector. -/
def BoxV (w : World) (g : Nat) (l : List Int) : Prop := ∃ v, w.cell? ⟨g, 0, none⟩ = some v ∧ Vs w (fun _ => True) v l
theorem BoxV.below {w w' : World} {g : Nat} {l : List Int} (h : BoxV w g l) (hb : Below w.heap.size w w') : BoxV w' g l := by
  obtain ⟨v, hc, hv⟩ := h
  exact ⟨v, (hb.cell (World.block_lt_of_cell? w _ hc)).trans hc, hv.below hb⟩

set_option maxHeartbeats 1600000 in
theorem difAt_any (a b : List Int) (g h i : Nat) (w : World) (ha : BoxV w g a) (hb : BoxV w h b) (hi : i < a.length) (hl : a.length = b.length) (hm : a.length ≤ 64) (sa : Small a) (sb : Small b) :
    Calls Try.prog 35 #[.int .i64 (i : Int), .pointer (some ⟨g, 0, none⟩), .pointer (some ⟨h, 0, none⟩)] w fun e w' => e = .returned (.int .i64 (dif a b i)) ∧ Below w.heap.size w w' := by
  obtain ⟨va, ca, ha⟩ := ha
  obtain ⟨vb, cb, hb⟩ := hb
  obtain ⟨A, c, rfl, hc1, hc2, _, hc⟩ := ha
  obtain ⟨A', c', rfl, hc1', hc2', _, hc'⟩ := hb
  unfold maxLen at hc2 hc2'
  obtain ⟨x, hx⟩ : ∃ x, a[i]? = some x := ⟨_, List.getElem?_eq_getElem hi⟩
  obtain ⟨y, hy⟩ : ∃ y, b[i]? = some y := ⟨_, List.getElem?_eq_getElem (hl ▸ hi)⟩
  obtain ⟨ad, rfl, k1⟩ := cell_at hc (nshorts_at hx)
  obtain ⟨ad', rfl, k2⟩ := cell_at hc' (nshorts_at hy)
  have bx := sa x (List.mem_of_getElem? hx)
  have by_ := sb y (List.mem_of_getElem? hy)
  have HE := Lib.hid (show dif a b i = (x - y) * (x - y) by rw [dif, at_ hx, at_ hy])
  have hsq : 0 ≤ (x - y) * (x - y) ∧ (x - y) * (x - y) ≤ 4294836225 := by
    have := dif_le hl sa sb i hi
    rwa [HE.out] at this
  clear hc hc' hx hy sa sb
  rw [← hl] at cb hc1'
  clear hl
  generalize a.length = M at *
  have hiM : (i : Int) < (M : Int) := by omega
  go_enter Try.func35, Try.ntmps35
  go_wp2_with fail
  go_quiet (fail)
  go_wp2_with fail
  go_ret
  exact ⟨ret_int (by rw [HE.out]), below_drewN (Below.refl _ _) _⟩

set_option maxHeartbeats 1600000 in
theorem proAt_any (a b : List Int) (g h i : Nat) (w : World) (ha : BoxV w g a) (hb : BoxV w h b) (hi : i < a.length) (hl : a.length = b.length) (hm : a.length ≤ 64) (sa : Small a) (sb : Small b) :
    Calls Try.prog 36 #[.int .i64 (i : Int), .pointer (some ⟨g, 0, none⟩), .pointer (some ⟨h, 0, none⟩)] w fun e w' => e = .returned (.int .i64 (pro a b i)) ∧ Below w.heap.size w w' := by
  obtain ⟨va, ca, ha⟩ := ha
  obtain ⟨vb, cb, hb⟩ := hb
  obtain ⟨A, c, rfl, hc1, hc2, _, hc⟩ := ha
  obtain ⟨A', c', rfl, hc1', hc2', _, hc'⟩ := hb
  unfold maxLen at hc2 hc2'
  obtain ⟨x, hx⟩ : ∃ x, a[i]? = some x := ⟨_, List.getElem?_eq_getElem hi⟩
  obtain ⟨y, hy⟩ : ∃ y, b[i]? = some y := ⟨_, List.getElem?_eq_getElem (hl ▸ hi)⟩
  obtain ⟨ad, rfl, k1⟩ := cell_at hc (nshorts_at hx)
  obtain ⟨ad', rfl, k2⟩ := cell_at hc' (nshorts_at hy)
  have bx := sa x (List.mem_of_getElem? hx)
  have by_ := sb y (List.mem_of_getElem? hy)
  have HE := Lib.hid (show pro a b i = x * y by rw [pro, at_ hx, at_ hy])
  have hsq : -1073741824 ≤ x * y ∧ x * y ≤ 1073741824 := by
    have := pro_le hl sa sb i hi
    rwa [HE.out] at this
  clear hc hc' hx hy sa sb
  rw [← hl] at cb hc1'
  clear hl
  generalize a.length = M at *
  have hiM : (i : Int) < (M : Int) := by omega
  go_enter Try.func36, Try.ntmps36
  go_wp2_with fail
  go_quiet (fail)
  go_wp2_with fail
  go_ret
  exact ⟨ret_int (by rw [HE.out]), below_drewN (Below.refl _ _) _⟩

set_option maxHeartbeats 800000 in
theorem sum_any (fid : Nat) (hfid : fid = 35 ∨ fid = 36) (p q : Value) (f : Nat → Int) (n : Nat) (w : World) (hn : n ≤ 64) (hf : ∀ i, i < n → -4294967296 ≤ f i ∧ f i ≤ 4294967296)
    (hcall : ∀ (i : Nat) (W : World), i < n → Below w.heap.size w W → Calls Try.prog fid #[.int .i64 (i : Int), p, q] W fun e W' => e = .returned (.int .i64 (f i)) ∧ Below W.heap.size W W') :
    Calls Try.prog 34 #[.int .i64 (n : Int), .func (.func fid) #[] #[p, q]] w fun e w' => e = .returned (.int .i64 (sm f n)) ∧ Below w.heap.size w w' := by
  have HF := Lib.hid hf
  have HC := Lib.hid hcall
  clear hf hcall
  rcases hfid with rfl | rfl
  all_goals
    go_enter Try.func34, Try.ntmps34
    go_wp2_with fail
    go_loopw [5, 6, 8] (fun s _ i wr => ∃ j : Nat, j ≤ n ∧ i = .int .i64 (j : Int) ∧ s = .int .i64 (sm f j) ∧ Hid (Below w.heap.size w wr)) (fun _ _ i _ => n - (intOf i).toNat)
    case atStart => exact ⟨0, by omega, rfl, rfl, Lib.hid (Below.refl _ _)⟩
    case round =>
      obtain ⟨j, hj, rfl, rfl, HBE⟩ := hrel
      by_cases hlt : j < n
      · have hfj := HF.out j hlt
        have hsm := sm_abs (f := f) (m := 4294967296) (n := j) fun i hi => HF.out i (by omega)
        have hsn : sm f (j + 1) = sm f j + f j := rfl
        have HS := Lib.hid hsn
        clear hsn
        have hmul : (j : Int) * 4294967296 ≤ 274877906944 := by omega
        have HCA := Lib.hid (HC.out j wr hlt HBE.out)
        generalize sm f j = S at *
        generalize f j = F at *
        go_wp2_with fail
        refine HCA.out.mono ?_
        rintro e w2 ⟨rfl, hb2⟩
        have HB2 := Lib.hid (HBE.out.trans (hb2.mono HBE.out.size))
        clear hb2
        go_wp2_with fail
        go_roundw
        case rel => exact ⟨j + 1, by omega, by go_num, by rw [HS.out], HB2⟩
        case measure => simp [intOf]; omega
      · obtain rfl : j = n := by omega
        go_wp2_with fail
        go_ret
        exact ⟨rfl, HBE.out⟩

end Go.Proofs.Ytjohknpjkcbjlaa
