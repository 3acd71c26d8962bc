/- Contracts: slices.Min, slices.Equal, vec.Check, vec.Same; the reference's Check, Same. -/
import Derived.Test.Ytjohknpjkcbjlaa6N
namespace Go.Proofs.Ytjohknpjkcbjlaa
open Go.RowKit Pk Vc

theorem all_low {l : List Int} {m : Int} (h1 : ∀ x ∈ l, m ≤ x) (h2 : m ∈ l) : (l.all fun x => decide (-32767 ≤ x)) = decide (-32767 ≤ m) := by
  rw [Bool.eq_iff_iff, List.all_eq_true, decide_eq_true_eq]
  exact ⟨fun h => of_decide_eq_true (h m h2), fun h x hx => decide_eq_true (by have := h1 x hx; omega)⟩

set_option maxHeartbeats 800000 in
theorem min_any (v : Value) (l : List Int) (w : World) (h : Vs w (fun _ => True) v l) (h1 : 1 ≤ l.length) (h2 : l.length ≤ 1000000) :
    Calls Try.prog 38 #[v] w fun e w' => ∃ m : Int, e = .returned (.int .i16 m) ∧ (∀ x ∈ l, m ≤ x) ∧ m ∈ l ∧ w = w' := by
  obtain ⟨A, c, rfl, hc1, hc2, _, hc⟩ := h
  unfold maxLen at hc2
  obtain ⟨ad, rfl, _, hcell⟩ := hc (by rw [nshorts_length]; omega)
  have HC := Lib.hid hcell
  obtain ⟨x0, hx0⟩ : ∃ x, l[0]? = some x := ⟨_, List.getElem?_eq_getElem (by omega)⟩
  have hc0 : w.cell? ad = some (.int .i16 x0) := by simpa [Addr.add] using hcell 0 _ (nshorts_at hx0)
  have HX0 := Lib.hid hx0
  clear hc hcell hx0
  generalize hL : l.length = L at *
  have HL := Lib.hid hL
  clear hL
  go_enter Try.func38, Try.ntmps38
  go_wp2_with fail
  go_loop [3, 4] (fun m i => ∃ (j : Nat) (y : Int), 1 ≤ j ∧ j ≤ L ∧ i = .int .i64 (j : Int) ∧ m = .int .i16 y ∧ Hid ((∀ x ∈ l.take j, y ≤ x) ∧ y ∈ l)) (fun _ i => L - (intOf i).toNat)
  case atStart =>
    refine ⟨1, x0, by omega, by omega, rfl, rfl, Lib.hid ⟨fun x hx => ?_, List.mem_of_getElem? HX0.out⟩⟩
    rw [List.take_add_one, HX0.out] at hx
    simp at hx
    omega
  case round =>
    obtain ⟨j, y, hj1, hj, rfl, rfl, HY⟩ := hrel
    by_cases hlt : j < L
    · obtain ⟨x, hx⟩ : ∃ x, l[j]? = some x := ⟨_, List.getElem?_eq_getElem (by rw [HL.out]; exact hlt)⟩
      have hcj := HC.out j _ (nshorts_at hx)
      have HX := Lib.hid hx
      clear hx
      by_cases hxy : x < y
      all_goals
        go_wp2_with fail
        refine ⟨⟨j + 1, ?_⟩, by simp [intOf]; omega⟩
        first
          | (refine ⟨x, by omega, by omega, by go_num, rfl, Lib.hid ⟨fun z hz => ?_, List.mem_of_getElem? HX.out⟩⟩
             rw [List.take_add_one, HX.out] at hz
             rcases List.mem_append.1 hz with hz | hz
             · have := HY.out.1 z hz; omega
             · simp at hz; omega)
          | (refine ⟨y, by omega, by omega, by go_num, rfl, Lib.hid ⟨fun z hz => ?_, HY.out.2⟩⟩
             rw [List.take_add_one, HX.out] at hz
             rcases List.mem_append.1 hz with hz | hz
             · exact HY.out.1 z hz
             · simp at hz; omega)
    · obtain rfl : j = L := by omega
      go_wp2_with fail
      go_ret
      exact ⟨y, rfl, by have h := HY.out.1; rwa [List.take_of_length_le (by rw [HL.out]; exact Nat.le_refl _)] at h, HY.out.2, rfl⟩

theorem chk_any (v : Value) (l : List Int) (w : World) (h : Vs w (fun _ => True) v l) :
    Calls Try.prog 23 #[v] w fun e w' => e = .returned (.int .i64 (chk l)) ∧ w = w' := by
  have HV := Lib.hid h
  obtain ⟨A, c, rfl, hc1, hc2, _⟩ := h
  unfold maxLen at hc2
  by_cases h1 : l.length < 1
  · have HE := Lib.hid (show chk l = 1 by rw [chk, okV_len (.inl h1)]; rfl)
    clear HV
    generalize l.length = L at *
    go_enter Try.func23, Try.ntmps23
    go_wp2_with fail
    go_ret
    exact ⟨ret_int (by rw [HE.out]), rfl⟩
  · by_cases h2 : 64 < l.length
    · have HE := Lib.hid (show chk l = 1 by rw [chk, okV_len (.inr h2)]; rfl)
      clear HV
      generalize l.length = L at *
      go_enter Try.func23, Try.ntmps23
      go_wp2_with fail
      go_ret
      exact ⟨ret_int (by rw [HE.out]), rfl⟩
    · have HM := Lib.hid (min_any _ l w HV.out (by omega) (by omega))
      have HA := Lib.hid (fun m (a : ∀ x ∈ l, m ≤ x) (b : m ∈ l) => all_low a b)
      have HO := Lib.hid (show chk l = if (l.all fun x => decide (-32767 ≤ x)) then 0 else 1 by
        rw [chk, okV, decide_eq_true (by omega), Bool.true_and])
      clear HV
      generalize l.length = L at *
      go_enter Try.func23, Try.ntmps23
      go_wp2_with fail
      refine HM.out.mono ?_
      rintro e w' ⟨m, rfl, q1, q2, rfl⟩
      have HQ := Lib.hid (HA.out m q1 q2)
      clear q1 q2
      by_cases hm : m < -32767
      all_goals
        go_wp2_with fail
        go_ret
        refine ⟨ret_int ?_, rfl⟩
        rw [HO.out, HQ.out]
        first
          | (rw [decide_eq_false (by omega)]; rfl)
          | (rw [decide_eq_true (by omega)]; rfl)

set_option maxHeartbeats 800000 in
theorem refChk_any (v : Value) (l : List Int) (w : World) (h : Vs w (fun _ => True) v l) :
    Calls Try.prog 28 #[v] w fun e w' => e = .returned (.int .i64 (chk l)) ∧ w = w' := by
  obtain ⟨A, c, rfl, hc1, hc2, _, hc⟩ := h
  unfold maxLen at hc2
  have HC := Lib.hid hc
  clear hc
  by_cases h1 : l.length < 1
  · have HE := Lib.hid (show chk l = 1 by rw [chk, okV_len (.inl h1)]; rfl)
    generalize l.length = L at *
    go_enter Try.func28, Try.ntmps28
    go_wp2_with fail
    go_ret
    exact ⟨ret_int (by rw [HE.out]), rfl⟩
  · by_cases h2 : 64 < l.length
    · have HE := Lib.hid (show chk l = 1 by rw [chk, okV_len (.inr h2)]; rfl)
      generalize l.length = L at *
      go_enter Try.func28, Try.ntmps28
      go_wp2_with fail
      go_ret
      exact ⟨ret_int (by rw [HE.out]), rfl⟩
    · have h3 : 1 ≤ l.length := by omega
      have h4 : l.length ≤ 64 := by omega
      generalize hL : l.length = L at *
      have HL := Lib.hid hL
      clear hL
      go_enter Try.func28, Try.ntmps28
      go_wp2_with fail
      go_loop [4, 15] (fun _ i => ∃ j : Nat, j ≤ L ∧ i = .int .i64 (j : Int) ∧ Hid (∀ x ∈ l.take j, -32767 ≤ x)) (fun _ i => L - (intOf i).toNat)
      case atStart => exact ⟨0, by omega, rfl, Lib.hid (by simp)⟩
      case round =>
        obtain ⟨j, hj, rfl, HY⟩ := hrel
        by_cases hlt : j < L
        · obtain ⟨x, hx⟩ : ∃ x, l[j]? = some x := ⟨_, List.getElem?_eq_getElem (by rw [HL.out]; exact hlt)⟩
          obtain ⟨ad, rfl, hcj⟩ := cell_at HC.out (nshorts_at hx)
          have HX := Lib.hid hx
          clear hx
          by_cases hxl : x < -32767
          · have HE := Lib.hid (show chk l = 1 by rw [chk, okV_low (List.mem_of_getElem? HX.out) hxl]; rfl)
            go_wp2_with fail
            go_ret
            exact ⟨ret_int (by rw [HE.out]), rfl⟩
          · have HY' := Lib.hid (show ∀ z ∈ l.take (j + 1), -32767 ≤ z from fun z hz => by
              rw [List.take_add_one, HX.out] at hz
              rcases List.mem_append.1 hz with hz | hz
              · exact HY.out z hz
              · simp at hz; omega)
            go_wp2_with fail
            refine ⟨⟨j + 1, by omega, by go_num, HY'⟩, by simp [intOf]; omega⟩
        · obtain rfl : j = L := by omega
          have HE := Lib.hid (show chk l = 0 by
            rw [chk, okV_mk (by rw [HL.out]; exact h3) (by rw [HL.out]; exact h4) (by have h := HY.out; rwa [List.take_of_length_le (by rw [HL.out]; exact Nat.le_refl _)] at h)]; rfl)
          go_wp2_with fail
          go_ret
          exact ⟨ret_int (by rw [HE.out]), rfl⟩

set_option maxHeartbeats 800000 in
theorem equalV_any (va vb : Value) (a b : List Int) (w : World) (ha : Vs w (fun _ => True) va a) (hb : Vs w (fun _ => True) vb b) :
    Calls Try.prog 37 #[va, vb] w fun e w' => e = .returned (.bool (decide (a = b))) ∧ Below w.heap.size w w' := by
  obtain ⟨A, c, rfl, hc1, hc2, _, hc⟩ := ha
  obtain ⟨A', c', rfl, hc1', hc2', _, hc'⟩ := hb
  unfold maxLen at hc2 hc2'
  have HC := Lib.hid hc
  have HC' := Lib.hid hc'
  clear hc hc'
  by_cases hl : a.length = b.length
  · have HL := Lib.hid hl
    generalize hM : b.length = M at *
    generalize hN : a.length = N at *
    have HM := Lib.hid hM
    have HN := Lib.hid hN
    subst hl
    clear hM hN
    go_enter Try.func37, Try.ntmps37
    go_wp2_with fail
    go_loopw [5, 13] (fun _ i wr => ∃ j : Nat, j ≤ N ∧ i = .int .i64 (j : Int) ∧ Hid (a.take j = b.take j) ∧ Hid (Below w.heap.size w wr)) (fun _ i _ => N - (intOf i).toNat)
    case atStart => exact ⟨0, by omega, rfl, Lib.hid rfl, Lib.hid (Below.refl _ _)⟩
    case round =>
      obtain ⟨j, hj, rfl, HEQ, HBE⟩ := hrel
      by_cases hlt : j < N
      · obtain ⟨x, hx⟩ : ∃ x, a[j]? = some x := ⟨_, List.getElem?_eq_getElem (by rw [HN.out]; exact hlt)⟩
        obtain ⟨y, hy⟩ : ∃ y, b[j]? = some y := ⟨_, List.getElem?_eq_getElem (by rw [HM.out]; exact hlt)⟩
        obtain ⟨ad, rfl, k1⟩ := cell_at (HC.out.below HBE.out) (nshorts_at hx)
        obtain ⟨ad', rfl, k2⟩ := cell_at (HC'.out.below HBE.out) (nshorts_at hy)
        have hlt' : (j : Int) < (N : Int) := by omega
        have HX := Lib.hid (And.intro hx hy)
        clear hx hy
        by_cases hxy : x = y
        · subst hxy
          have HEQ' := Lib.hid (show a.take (j + 1) = b.take (j + 1) by rw [List.take_add_one, List.take_add_one, HEQ.out, HX.out.1, HX.out.2])
          go_wp2_with fail
          go_quiet (fail)
          go_wp2_with fail
          go_roundw
          case rel => exact ⟨j + 1, by omega, by go_num, HEQ', Lib.hid (below_drewN HBE.out _)⟩
          case measure => simp [intOf]; omega
        · have HD := Lib.hid (show a ≠ b from fun h => by
            subst h
            have := HX.out.1.symm.trans HX.out.2
            injection this with this
            exact hxy this)
          have t1 : (x != y) = true := by simpa using hxy
          clear hxy
          go_wp2_with fail
          go_quiet (fail)
          go_wp2_with fail
          go_ret
          exact ⟨ret_bool (by simp [HD.out]), below_drewN HBE.out _⟩
      · obtain rfl : j = N := by omega
        have HE := Lib.hid (show a = b by
          have h := HEQ.out
          rwa [List.take_of_length_le (by rw [HN.out]; exact Nat.le_refl _), List.take_of_length_le (by rw [HM.out]; exact Nat.le_refl _)] at h)
        go_wp2_with fail
        go_ret
        exact ⟨ret_bool (by simp [HE.out]), HBE.out⟩
  · have HD := Lib.hid (show a ≠ b from fun h => hl (by rw [h]))
    have t1 : decide (a.length = b.length) = false := decide_eq_false hl
    generalize b.length = M at *
    generalize a.length = N at *
    have t2 : ((N : Int) != (M : Int)) = true := by simp; omega
    clear hl t1
    go_enter Try.func37, Try.ntmps37
    go_wp2_with fail
    go_ret
    exact ⟨ret_bool (by simp [HD.out]), Below.refl _ _⟩

set_option maxHeartbeats 800000 in
theorem refSame_any (va vb : Value) (a b : List Int) (w : World) (ha : Vs w (fun _ => True) va a) (hb : Vs w (fun _ => True) vb b) :
    Calls Try.prog 19 #[va, vb] w fun e w' => e = .returned (.bool (decide (a = b))) ∧ Below w.heap.size w w' := by
  obtain ⟨A, c, rfl, hc1, hc2, _, hc⟩ := ha
  obtain ⟨A', c', rfl, hc1', hc2', _, hc'⟩ := hb
  unfold maxLen at hc2 hc2'
  have HC := Lib.hid hc
  have HC' := Lib.hid hc'
  clear hc hc'
  by_cases hl : a.length = b.length
  · have HL := Lib.hid hl
    generalize hM : b.length = M at *
    generalize hN : a.length = N at *
    have HM := Lib.hid hM
    have HN := Lib.hid hN
    subst hl
    clear hM hN
    go_enter Try.func19, Try.ntmps19
    go_wp2_with fail
    go_loopw [5, 13] (fun _ i wr => ∃ j : Nat, j ≤ N ∧ i = .int .i64 (j : Int) ∧ Hid (a.take j = b.take j) ∧ Hid (Below w.heap.size w wr)) (fun _ i _ => N - (intOf i).toNat)
    case atStart => exact ⟨0, by omega, rfl, Lib.hid rfl, Lib.hid (Below.refl _ _)⟩
    case round =>
      obtain ⟨j, hj, rfl, HEQ, HBE⟩ := hrel
      by_cases hlt : j < N
      · obtain ⟨x, hx⟩ : ∃ x, a[j]? = some x := ⟨_, List.getElem?_eq_getElem (by rw [HN.out]; exact hlt)⟩
        obtain ⟨y, hy⟩ : ∃ y, b[j]? = some y := ⟨_, List.getElem?_eq_getElem (by rw [HM.out]; exact hlt)⟩
        obtain ⟨ad, rfl, k1⟩ := cell_at (HC.out.below HBE.out) (nshorts_at hx)
        obtain ⟨ad', rfl, k2⟩ := cell_at (HC'.out.below HBE.out) (nshorts_at hy)
        have hlt' : (j : Int) < (N : Int) := by omega
        have HX := Lib.hid (And.intro hx hy)
        clear hx hy
        by_cases hxy : x = y
        · subst hxy
          have HEQ' := Lib.hid (show a.take (j + 1) = b.take (j + 1) by rw [List.take_add_one, List.take_add_one, HEQ.out, HX.out.1, HX.out.2])
          go_wp2_with fail
          go_quiet (fail)
          go_wp2_with fail
          go_roundw
          case rel => exact ⟨j + 1, by omega, by go_num, HEQ', Lib.hid (below_drewN HBE.out _)⟩
          case measure => simp [intOf]; omega
        · have HD := Lib.hid (show a ≠ b from fun h => by
            subst h
            have := HX.out.1.symm.trans HX.out.2
            injection this with this
            exact hxy this)
          have t1 : (x != y) = true := by simpa using hxy
          clear hxy
          go_wp2_with fail
          go_quiet (fail)
          go_wp2_with fail
          go_ret
          exact ⟨ret_bool (by simp [HD.out]), below_drewN HBE.out _⟩
      · obtain rfl : j = N := by omega
        have HE := Lib.hid (show a = b by
          have h := HEQ.out
          rwa [List.take_of_length_le (by rw [HN.out]; exact Nat.le_refl _), List.take_of_length_le (by rw [HM.out]; exact Nat.le_refl _)] at h)
        go_wp2_with fail
        go_ret
        exact ⟨ret_bool (by simp [HE.out]), HBE.out⟩
  · have HD := Lib.hid (show a ≠ b from fun h => hl (by rw [h]))
    have t1 : decide (a.length = b.length) = false := decide_eq_false hl
    generalize b.length = M at *
    generalize a.length = N at *
    have t2 : ((N : Int) != (M : Int)) = true := by simp; omega
    clear hl t1
    go_enter Try.func19, Try.ntmps19
    go_wp2_with fail
    go_ret
    exact ⟨ret_bool (by simp [HD.out]), Below.refl _ _⟩

theorem same_any (va vb : Value) (a b : List Int) (w : World) (ha : Vs w (fun _ => True) va a) (hb : Vs w (fun _ => True) vb b) :
    Calls Try.prog 22 #[va, vb] w fun e w' => e = .returned (.bool (decide (a = b))) ∧ Below w.heap.size w w' := by
  have HE := Lib.hid (equalV_any va vb a b w ha hb)
  obtain ⟨A, c, rfl⟩ := ha.form
  obtain ⟨A', c', rfl⟩ := hb.form
  clear ha hb
  generalize decide (a = b) = q at *
  generalize a.length = M at *
  generalize b.length = N at *
  go_enter Try.func22, Try.ntmps22
  go_wp2_with fail
  refine HE.out.mono ?_
  rintro e w' ⟨rfl, hb⟩
  have HB := Lib.hid hb
  clear hb
  go_wp2_with fail
  go_ret
  exact ⟨rfl, HB.out⟩

end Go.Proofs.Ytjohknpjkcbjlaa
