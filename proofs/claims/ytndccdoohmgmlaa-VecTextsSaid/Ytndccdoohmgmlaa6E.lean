/- Contracts: Bytes, From; the chapter's example. -/
import Derived.Test.Ytndccdoohmgmlaa6D
namespace Go.Proofs.Ytndccdoohmgmlaa
open Go.RowKit Pk Vc

/-- A vector in octets, and back. -/
def bts (l : List Int) : List UInt8 × Int := if okV l then (octs 2 l, 0) else ([], 1)
def sh (b : List UInt8) : List Int := nums 2 (b.length / 2) b
def frm (b : List UInt8) : List Int × Int := if b.length % 2 = 0 ∧ okV (sh b) = true then (sh b, 0) else ([], 2)

theorem bts_ok {l : List Int} (h : okV l = true) : bts l = (octs 2 l, 0) := by rw [bts, h]; rfl
theorem bts_no {l : List Int} (h : okV l = false) : bts l = ([], 1) := by rw [bts, h]; rfl
theorem fits_two {n : Int} (h : -32768 ≤ n ∧ n ≤ 32767) : fitsB 2 n = true := decide_eq_true (by omega)
theorem two_fits {n : Int} (h : fitsB 2 n = true) : -32768 ≤ n ∧ n ≤ 32767 := by have := of_decide_eq_true h; omega
theorem all_two {l : List Int} (h : Small l) : l.all (fitsB 2) = true := List.all_eq_true.2 fun x hx => fits_two (h x hx)
theorem small_nums {n : Nat} {b : List UInt8} (h : n * 2 ≤ b.length) : Small (nums 2 n b) := fun x hx => two_fits (List.all_eq_true.1 (fits_nums h) x hx)
theorem put_vec {l : List Int} (h : okV l = true) (hs : Small l) : put [] 2 l = bts l := by
  obtain ⟨_, h2, _⟩ := okV_yes h
  have := put_list_ok (b := []) (k := 2) (l := l) (by omega) (by omega) (all_two hs) (by simp; omega)
  rw [bts_ok h]
  exact this

/-- What is stored at a place of a list that is filled from its start. -/
theorem fill_stored {w : World} {g : Nat} {l : List Int} {y : Int} {n j : Nat} {t : TypeId} (hn : l.length = n) (hj : l[j]? = some y) (h : w.heap[g]? = some (.cells (nints (l.take j ++ izeros (n - j))).toArray t (0, 0))) :
    (w.setCell ⟨g, j, none⟩ (.int .i64 y)).heap[g]? = some (.cells (nints (l.take (j + 1) ++ izeros (n - (j + 1)))).toArray t (0, 0)) := by
  have hlt := (List.getElem?_eq_some_iff.1 hj).1
  have := blk_stored (y := y) (n := n) (by rw [List.length_take]; omega) (by omega) h rfl
  rwa [show l.take j ++ [y] = l.take (j + 1) by rw [List.take_add_one, hj]; rfl] at this

set_option maxRecDepth 10000 in
set_option maxHeartbeats 2000000 in
theorem bytes_any (v : Value) (l : List Int) (w : World) (h : Vs w (fun _ => True) v l) (hs : Small l) : Calls Try.prog 19 #[v] w (GivesRE w (bts l)) := by
  obtain ⟨i0, hi0, hz0, hz1, hz2⟩ := info_parts infoI
  have HCK := Lib.hid (chk_any v l w h)
  have HB := Lib.hid h
  obtain ⟨A, c, rfl, hc1, hc2, _, hc⟩ := h
  unfold maxLen at hc2
  have HC := Lib.hid hc
  clear hc
  cases hk : okV l
  · have HE := Lib.hid (bts_no hk)
    rw [chk_no hk] at HCK
    clear hk HB
    generalize l.length = M at *
    go_enter Try.func19, Try.ntmps19
    go_wp2_with fail
    refine HCK.out.mono ?_
    rintro e w' ⟨rfl, rfl⟩
    go_wp2_with fail
    go_ret2
    exact ⟨_, by rw [HE.out]; rfl, by rw [HE.out]; exact World.ownsRow_nil _ _ _ _, Below.refl _ _⟩
  · have HPV := Lib.hid (put_vec hk hs)
    have HSM := Lib.hid hs
    rw [chk_ok hk] at HCK
    obtain ⟨o1, o2, _⟩ := okV_yes hk
    clear hk hs HB
    generalize hM : l.length = M at *
    have HM := Lib.hid hM
    clear hM
    go_enter Try.func19, Try.ntmps19
    go_wp2_with fail
    refine HCK.out.mono ?_
    rintro e w' ⟨rfl, rfl⟩
    go_wp2_with (at_make; refine wpList_make_full _ rfl _ _ _ rfl w.heap.size 2 i0 (.int .i64 0) 1 Try.underlying43 hi0 hz0 hz1 .i64 .i64 _ _ M rfl rfl rfl rfl (by rw [hz2]; omega) (by unfold maxLen; omega) (Nat.le_refl _) ?_; intro w0 hown0 hgrow0)
    have hblk : w0.heap[w.heap.size]? = some (.cells (nints (l.take 0 ++ izeros (M - 0))).toArray 2 (0, 0)) := by
      rcases hown0.2 with ⟨he, _⟩ | ⟨g, cap, cur, he, hg, hh, hc, hmx, hs, ht⟩
      · cases he
      · injection he with e1 e2 e3
        injection e1 with e1
        injection e1 with e1
        subst e1
        have hcur : cur.toList = nints (l.take 0 ++ izeros (M - 0)) := by
          have h1 := hown0.1
          rw [List.take_of_length_le (by rw [Array.length_toList, hs]; omega), show (Value.int IntKind.i64 0).cells = #[Value.int .i64 0] from rfl, toList_madeCells_one] at ht
          rw [ht]
          simp [izeros, nints]
        rw [hh, ← hcur]
    have HBLK := Lib.hid hblk
    have HB0 := Lib.hid (show Below w.heap.size w w0 from (Below.refl _ _).grown hgrow0 (Nat.le_refl _) (by simp))
    clear hown0 hgrow0 hblk
    go_wp2_with fail
    go_loopw [6, 7, 18] (fun _ _ i wr => ∃ j : Nat, j ≤ M ∧ i = .int .i64 (j : Int) ∧ Hid (wr.heap[w.heap.size]? = some (.cells (nints (l.take j ++ izeros (M - j))).toArray 2 (0, 0))) ∧ Hid (Below w.heap.size w wr)) (fun _ _ i _ => M - (intOf i).toNat)
    case atStart => exact ⟨0, by omega, rfl, HBLK, HB0⟩
    case round =>
      obtain ⟨j, hj, rfl, HBL, HBE⟩ := hrel
      by_cases hlt : j < M
      · obtain ⟨x, hx⟩ : ∃ x, l[j]? = some x := ⟨_, List.getElem?_eq_getElem (by rw [HM.out]; exact hlt)⟩
        obtain ⟨ad, rfl, k1⟩ := cell_at (HC.out.below HBE.out) (nshorts_at hx)
        have hcell : wr.cell? ⟨w.heap.size, j, none⟩ = some (.int .i64 0) := (cell_of_row wr _ j _ _ _ HBL.out).trans (by
          rw [List.getElem?_toArray, nints_append, List.getElem?_append_right (by rw [nints_length, List.length_take]; omega), nints_length, List.length_take, nints, izeros, List.getElem?_map, List.getElem?_replicate, if_pos (by rw [HM.out]; omega)]; rfl)
        have hfz : wr.frozen? ⟨w.heap.size, j, none⟩ = false := by simp [World.frozen?, HBL.out]
        have HST := Lib.hid (fill_stored HM.out hx HBL.out)
        have bx := HSM.out x (List.mem_of_getElem? hx)
        clear hx
        go_wp2_with fail
        go_roundw
        case rel => exact ⟨j + 1, by omega, by go_num, HST, Lib.hid (HBE.out.setCell (Nat.le_refl _) _)⟩
        case measure => simp [intOf]; omega
      · obtain rfl : j = M := by omega
        have HNS := Lib.hid (Ns.of_own (S := fun _ => True) (ns_new (w := wr) (base := w.heap.size) (l := l) (n := j) (Nat.le_refl _) HM.out (by unfold maxLen; omega) (by have h := HBL.out; rwa [Nat.sub_self, izeros, List.replicate_zero, List.append_nil, List.take_of_length_le (by rw [HM.out]; exact Nat.le_refl _)] at h)) fun _ _ => trivial)
        go_wp2_with fail
        refine (put_any _ _ [] 2 l _ (bs_none _) HNS.out (by simp) (by rw [HM.out]; omega)).mono ?_
        rw [HPV.out]
        rintro e w5 ⟨v5, rfl, ho5, hb5⟩
        have HO5 := Lib.hid (own_mono ho5 HBE.out.size)
        have HB5 := Lib.hid (HBE.out.trans (hb5.mono HBE.out.size))
        clear ho5 hb5
        go_wp2_with fail
        go_ret2
        exact ⟨_, rfl, HO5.out, HB5.out⟩

/-- The answer of a call that makes a vector of its own, and an error. -/
def GivesV (w : World) (r : List Int × Int) (e : Ending) (w' : World) : Prop :=
  ∃ v, e = .returned (.tuple #[v, .int .i64 r.2]) ∧ w'.ownsRow w.heap.size 36 1 v r.1.length (nshorts r.1) ∧ Below w.heap.size w w'

theorem frm_ok {b : List UInt8} (h1 : b.length % 2 = 0) (h2 : okV (sh b) = true) : frm b = (sh b, 0) := by rw [frm, if_pos ⟨h1, h2⟩]
theorem frm_no {b : List UInt8} (h : ¬ b.length % 2 = 0 ∨ okV (sh b) = false) : frm b = ([], 2) := by
  rw [frm, if_neg]
  rintro ⟨h1, h2⟩
  rcases h with h | h
  · exact h h1
  · rw [h2] at h; cases h
theorem sh_length (b : List UInt8) : (sh b).length = b.length / 2 := nums_length _ _ _
theorem sh_small (b : List UInt8) : Small (sh b) := small_nums (by omega)
theorem take_vec {b : List UInt8} (h : b.length ≤ 131073) : take b 2 ((b.length / 2 : Nat) : Int) = (sh b, b.drop (b.length / 2 * 2), 0) := take_ok (k := 2) (m := b.length / 2) (by omega) (by omega) (by omega) (by omega)

theorem vblk_stored {w : World} {g : Nat} {xs : List Int} {x : Int} {n j : Nat} {t : TypeId} (hx : xs.length = j) (hj : j < n) (h : w.heap[g]? = some (.cells (nshorts (xs ++ izeros (n - j))).toArray t (0, 0))) :
    (w.setCell ⟨g, j, none⟩ (.int .i16 x)).heap[g]? = some (.cells (nshorts ((xs ++ [x]) ++ izeros (n - (j + 1)))).toArray t (0, 0)) := by
  subst hx
  rw [blk_set h]
  congr 2
  have e : n - xs.length = (n - (xs.length + 1)) + 1 := by omega
  rw [e, izeros, List.replicate_succ, List.append_assoc]
  simp [nshorts, izeros]
theorem vfill_stored {w : World} {g : Nat} {l : List Int} {y : Int} {n j : Nat} {t : TypeId} (hn : l.length = n) (hj : l[j]? = some y) (h : w.heap[g]? = some (.cells (nshorts (l.take j ++ izeros (n - j))).toArray t (0, 0))) :
    (w.setCell ⟨g, j, none⟩ (.int .i16 y)).heap[g]? = some (.cells (nshorts (l.take (j + 1) ++ izeros (n - (j + 1)))).toArray t (0, 0)) := by
  have hlt := (List.getElem?_eq_some_iff.1 hj).1
  have := vblk_stored (x := y) (n := n) (by rw [List.length_take]; omega) (by omega) h
  rwa [show l.take j ++ [y] = l.take (j + 1) by rw [List.take_add_one, hj]; rfl] at this

set_option maxRecDepth 10000 in
set_option maxHeartbeats 2000000 in
theorem from_any (v : Value) (b : List UInt8) (w : World) (h : Bs w (fun _ => True) v b) (hbl : b.length ≤ 131073) : Calls Try.prog 21 #[v] w (GivesV w (frm b)) := by
  obtain ⟨i0, hi0, hz0, hz1, hz2⟩ := info_parts infoV
  have HTK := Lib.hid (take_any v b 2 ((b.length / 2 : Nat) : Int) w h (by omega))
  obtain ⟨A, c, rfl, hc1, hc2, _, _⟩ := h
  unfold maxLen at hc2
  have hm := Int.natCast_ediv b.length 2
  by_cases hev : b.length % 2 = 0
  · have hSL : b.length / 2 = (sh b).length := (sh_length b).symm
    rw [take_vec hbl, hSL] at HTK
    have HSM := Lib.hid (sh_small b)
    have t1 : (b.length : Int) % 2 = 0 := by omega
    have t2 : (b.length : Int) / 2 = ((sh b).length : Int) := by omega
    have hL : (sh b).length ≤ 65536 := by omega
    have HCKE := Lib.hid (fun (h : okV (sh b) = false) => frm_no (.inr h))
    have HCKO := Lib.hid (fun (h : okV (sh b) = true) => frm_ok hev h)
    clear hSL hm hev
    obtain ⟨D, hD⟩ : ∃ D, D = b.drop ((sh b).length * 2) := ⟨_, rfl⟩
    rw [← hD] at HTK
    clear hD
    generalize sh b = l at *
    generalize b.length = M at *
    generalize hLL : l.length = L at *
    have HL := Lib.hid hLL
    clear hLL
    go_enter Try.func21, Try.ntmps21
    go_wp2_with fail
    refine HTK.out.mono ?_
    clear t1 t2
    intro e w1 hg
    obtain ⟨A1, c1, A2, c2, rfl, -, -, hs1, -, hb1⟩ := gives_t hg
    rw [HL.out] at hs1 ⊢
    have HC1 := Lib.hid hs1.from_.2.2.2.2
    have HB1 := Lib.hid hb1
    clear hg hs1 hb1
    go_wp2_with (at_make; refine wpList_make_full _ rfl _ _ _ rfl w1.heap.size 36 i0 (.int .i16 0) 1 Try.underlying23 hi0 hz0 hz1 .i64 .i64 _ _ L rfl rfl rfl rfl (by rw [hz2]; omega) (by unfold maxLen; omega) (Nat.le_refl _) ?_; intro w0 hown0 hgrow0)
    have hblk : w0.heap[w1.heap.size]? = some (.cells (nshorts (l.take 0 ++ izeros (L - 0))).toArray 36 (0, 0)) := by
      rcases hown0.2 with ⟨he, _⟩ | ⟨g, cap, cur, he, hg, hh, hc, hmx, hs, ht⟩
      · cases he
      · injection he with e1 e2 e3
        injection e1 with e1
        injection e1 with e1
        subst e1
        have hcur : cur.toList = nshorts (l.take 0 ++ izeros (L - 0)) := by
          have h1 := hown0.1
          rw [List.take_of_length_le (by rw [Array.length_toList, hs]; omega), show (Value.int IntKind.i16 0).cells = #[Value.int .i16 0] from rfl, toList_madeCells_one] at ht
          rw [ht]
          simp [izeros, nshorts]
        rw [hh, ← hcur]
    have HBLK := Lib.hid hblk
    have HB0 := Lib.hid (show Below w1.heap.size w1 w0 from (Below.refl _ _).grown hgrow0 (Nat.le_refl _) (by simp))
    clear hown0 hgrow0 hblk
    go_wp2_with fail
    go_loopw [8, 9, 30] (fun _ _ i wr => ∃ j : Nat, j ≤ L ∧ i = .int .i64 (j : Int) ∧ Hid (wr.heap[w1.heap.size]? = some (.cells (nshorts (l.take j ++ izeros (L - j))).toArray 36 (0, 0))) ∧ Hid (Below w1.heap.size w1 wr)) (fun _ _ i _ => L - (intOf i).toNat)
    case atStart => exact ⟨0, by omega, rfl, HBLK, HB0⟩
    case round =>
      obtain ⟨j, hj, rfl, HBL, HBE⟩ := hrel
      by_cases hlt : j < L
      · obtain ⟨x, hx⟩ : ∃ x, l[j]? = some x := ⟨_, List.getElem?_eq_getElem (by rw [HL.out]; exact hlt)⟩
        obtain ⟨ad, rfl, k1⟩ := cell_at (HC1.out.below HBE.out) (nints_at hx)
        have hcell : wr.cell? ⟨w1.heap.size, j, none⟩ = some (.int .i16 0) := (cell_of_row wr _ j _ _ _ HBL.out).trans (by
          rw [List.getElem?_toArray, nshorts_append, List.getElem?_append_right (by rw [nshorts_length, List.length_take]; omega), nshorts_length, List.length_take, nshorts, izeros, List.getElem?_map, List.getElem?_replicate, if_pos (by rw [HL.out]; omega)]; rfl)
        have hfz : wr.frozen? ⟨w1.heap.size, j, none⟩ = false := by simp [World.frozen?, HBL.out]
        have HST := Lib.hid (vfill_stored HL.out hx HBL.out)
        have bx := HSM.out x (List.mem_of_getElem? hx)
        clear hx
        go_wp2_with fail
        go_roundw
        case rel => exact ⟨j + 1, by omega, by go_num, HST, Lib.hid (HBE.out.setCell (Nat.le_refl _) _)⟩
        case measure => simp [intOf]; omega
      · obtain rfl : j = L := by omega
        have hnew := vs_new (w := wr) (base := w1.heap.size) (l := l) (n := j) (Nat.le_refl _) HL.out (by unfold maxLen; omega) (by have h := HBL.out; rwa [Nat.sub_self, izeros, List.replicate_zero, List.append_nil, List.take_of_length_le (by rw [HL.out]; exact Nat.le_refl _)] at h)
        have HNEW := Lib.hid hnew
        have HCK := Lib.hid (chk_any _ l wr (Vs.of_own (S := fun _ => True) hnew fun _ _ => trivial))
        have HBZ := Lib.hid (HB1.out.trans (HBE.out.mono HB1.out.size))
        clear hnew
        cases hk : okV l
        · have HE := Lib.hid (HCKE.out hk)
          rw [chk_no hk] at HCK
          clear hk
          go_wp2_with fail
          refine HCK.out.mono ?_
          rintro e w' ⟨rfl, rfl⟩
          go_wp2_with fail
          go_ret2
          exact ⟨_, by rw [HE.out]; rfl, by rw [HE.out]; exact World.ownsRow_nil _ _ _ _, HBZ.out⟩
        · have HE := Lib.hid (HCKO.out hk)
          rw [chk_ok hk] at HCK
          clear hk
          go_wp2_with fail
          refine HCK.out.mono ?_
          rintro e w' ⟨rfl, rfl⟩
          go_wp2_with fail
          go_ret2
          exact ⟨_, by rw [HE.out]; rfl, by rw [HE.out]; exact own_mono HNEW.out HB1.out.size, HBZ.out⟩
  · have HE := Lib.hid (frm_no (b := b) (.inl hev))
    have t1 : (b.length : Int) % 2 = 1 := by omega
    clear hev HTK hm
    generalize b.length = M at *
    go_enter Try.func21, Try.ntmps21
    go_wp2_with fail
    go_ret2
    exact ⟨_, by rw [HE.out]; rfl, by rw [HE.out]; exact World.ownsRow_nil _ _ _ _, Below.refl _ _⟩

end Go.Proofs.Ytndccdoohmgmlaa
