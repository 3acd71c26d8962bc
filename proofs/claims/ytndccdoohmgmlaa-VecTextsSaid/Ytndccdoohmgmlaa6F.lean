/- Contracts of the reference's: Bytes, From. -/
import Derived.Test.Ytndccdoohmgmlaa6E
import Derived.Test.Ytndccdoohmgmlaa4X
namespace Go.Proofs.Ytndccdoohmgmlaa
open Go.RowKit Pk Vc

theorem put_more_one {l : List Int} {j : Nat} {x : Int} (hs : Small l) (hl : l.length ≤ 64) (hx : l[j]? = some x) : put (octs 2 (l.take j)) 2 [x] = (octs 2 (l.take (j + 1)), 0) := by
  have hlt := (List.getElem?_eq_some_iff.1 hx).1
  have h := put_list_ok (b := octs 2 (l.take j)) (k := 2) (l := [x]) (by omega) (by omega) (by simp [fits_two (hs x (List.mem_of_getElem? hx))]) (by
    rw [octs_length, List.length_take]
    simp
    omega)
  rw [octs_take_succ 2 hx]
  simpa [octs] using h

set_option maxRecDepth 10000 in
set_option maxHeartbeats 2000000 in
theorem refBytes_any (v : Value) (l : List Int) (w : World) (h : Vs w (fun _ => True) v l) (hs : Small l) : Calls Try.prog 20 #[v] w (GivesRE w (bts l)) := by
  have HCK := Lib.hid (refChk_any v l w h)
  obtain ⟨A, c, rfl, hc1, hc2, _, hc⟩ := h
  unfold maxLen at hc2
  have HC := Lib.hid hc
  clear hc
  cases hk : okV l
  · have HE := Lib.hid (bts_no hk)
    rw [chk_no hk] at HCK
    clear hk
    generalize l.length = M at *
    go_enter Try.func20, Try.ntmps20
    go_wp2_with fail
    refine HCK.out.mono ?_
    rintro e w' ⟨rfl, rfl⟩
    go_wp2_with fail
    go_ret2
    exact ⟨_, by rw [HE.out]; rfl, by rw [HE.out]; exact World.ownsRow_nil _ _ _ _, Below.refl _ _⟩
  · have HE := Lib.hid (bts_ok hk)
    have HSM := Lib.hid hs
    rw [chk_ok hk] at HCK
    obtain ⟨o1, o2, _⟩ := okV_yes hk
    have HO2 := Lib.hid o2
    clear hk hs
    generalize hM : l.length = M at *
    have HM := Lib.hid hM
    clear hM
    go_enter Try.func20, Try.ntmps20
    go_wp2_with fail
    refine HCK.out.mono ?_
    rintro e w' ⟨rfl, rfl⟩
    go_wp2_with fail
    go_loopw [4, 6, 12] (fun u _ i wr => ∃ j : Nat, j ≤ M ∧ i = .int .i64 (j : Int) ∧ Hid (wr.ownsRow w.heap.size 5 1 u (octs 2 (l.take j)).length (octets (octs 2 (l.take j)))) ∧ Hid (Below w.heap.size w wr)) (fun _ _ i _ => M - (intOf i).toNat)
    case atStart => exact ⟨0, by omega, rfl, Lib.hid (World.ownsRow_nil _ _ _ _), Lib.hid (Below.refl _ _)⟩
    case round =>
      obtain ⟨j, hj, rfl, HOWN, HBE⟩ := hrel
      by_cases hlt : j < M
      · obtain ⟨x, hx⟩ : ∃ x, l[j]? = some x := ⟨_, List.getElem?_eq_getElem (by rw [HM.out]; exact hlt)⟩
        obtain ⟨ad, rfl, k1⟩ := cell_at (HC.out.below HBE.out) (nshorts_at hx)
        have bx := HSM.out x (List.mem_of_getElem? hx)
        have HPM := Lib.hid (put_more_one HSM.out (by rw [HM.out]; exact o2) hx)
        have HLN := Lib.hid (show (octs 2 (l.take j)).length ≤ 128 by rw [octs_length, List.length_take]; omega)
        have HBS := Lib.hid ((Bs.of_own (S := fun _ => True) HOWN.out fun _ _ => trivial).below (below_new wr (.cells #[.int .i64 x] 2)))
        clear hx
        go_wp2_with fail
        refine (refPut_any _ _ (octs 2 (l.take j)) 2 [x] _ HBS.out (ns_one _ _) (by have := HLN.out; omega) (by simp) (by intro z hz; simp at hz; omega)).mono ?_
        rw [HPM.out]
        rintro e w5 ⟨v5, rfl, ho5, hb5⟩
        have HB5 := Lib.hid ((HBE.out.alloc HBE.out.size (.cells #[.int .i64 x] 2)).trans (hb5.mono (by have := HBE.out.size; simp; omega)))
        have HO5 := Lib.hid (own_mono ho5 (show w.heap.size ≤ (wr.alloc (.cells #[.int .i64 x] 2)).heap.size by have := HBE.out.size; simp; omega))
        clear ho5 hb5
        go_wp2_with fail
        go_roundw
        case rel => exact ⟨j + 1, by omega, by go_num, HO5, HB5⟩
        case measure => simp [intOf]; omega
      · obtain rfl : j = M := by omega
        have HT := Lib.hid (show l.take j = l by rw [← HM.out, List.take_length])
        go_wp2_with fail
        go_ret2
        refine ⟨_, by rw [HE.out]; rfl, ?_, HBE.out⟩
        rw [HE.out]
        have h := HOWN.out
        rw [HT.out] at h
        exact h

set_option maxRecDepth 10000 in
set_option maxHeartbeats 2000000 in
theorem refFrom_any (v : Value) (b : List UInt8) (w : World) (h : Bs w (fun _ => True) v b) (hbl : b.length ≤ 131073) : Calls Try.prog 22 #[v] w (GivesV w (frm b)) := by
  obtain ⟨i0, hi0, hz0, hz1, hz2⟩ := info_parts infoV
  have HTK := Lib.hid (refTake_any v b 2 ((b.length / 2 : Nat) : Int) w h (by omega))
  obtain ⟨A, c, rfl, hc1, hc2, _, _⟩ := h
  unfold maxLen at hc2
  have hm := Int.natCast_ediv b.length 2
  have hSL : b.length / 2 = (sh b).length := (sh_length b).symm
  have HDL := Lib.hid (show (b.drop ((sh b).length * 2)).length = b.length % 2 by rw [List.length_drop]; omega)
  rw [take_vec hbl, hSL] at HTK
  have HSM := Lib.hid (sh_small b)
  have t2 : (b.length : Int) / 2 = ((sh b).length : Int) := by omega
  have hL : (sh b).length ≤ 65536 := by omega
  have hL2 : ¬ (65536 : Int) < ((sh b).length : Int) := by omega
  have HCKE := Lib.hid (fun (h : okV (sh b) = false) => frm_no (.inr h))
  by_cases hev : b.length % 2 = 0
  · have HCKO := Lib.hid (fun (h : okV (sh b) = true) => frm_ok hev h)
    rw [hev] at HDL
    clear hSL hm hev
    obtain ⟨D, hD⟩ : ∃ D, D = b.drop ((sh b).length * 2) := ⟨_, rfl⟩
    rw [← hD] at HTK HDL
    clear hD
    generalize sh b = l at *
    generalize b.length = M at *
    generalize hLL : l.length = L at *
    have HL := Lib.hid hLL
    clear hLL
    go_enter Try.func22, Try.ntmps22
    go_wp2_with fail
    refine HTK.out.mono ?_
    clear t2
    intro e w1 hg
    obtain ⟨A1, c1, A2, c2, rfl, -, -, hs1, -, hb1⟩ := gives_t hg
    rw [HL.out] at hs1 ⊢
    rw [HDL.out]
    have HC1 := Lib.hid hs1.from_.2.2.2.2
    have HB1 := Lib.hid hb1
    clear hg hs1 hb1
    go_wp2_with fail
    go_loopw [7, 9, 29] (fun u _ i wr => ∃ j : Nat, j ≤ L ∧ i = .int .i64 (j : Int) ∧ Hid (wr.ownsRow w1.heap.size 36 1 u j (nshorts (l.take j))) ∧ Hid (Below w1.heap.size w1 wr)) (fun _ _ i _ => L - (intOf i).toNat)
    case atStart => exact ⟨0, by omega, rfl, Lib.hid (World.ownsRow_nil _ _ _ _), Lib.hid (Below.refl _ _)⟩
    case round =>
      obtain ⟨j, hj, rfl, HOWN, HBE⟩ := hrel
      by_cases hlt : j < L
      · obtain ⟨x, hx⟩ : ∃ x, l[j]? = some x := ⟨_, List.getElem?_eq_getElem (by rw [HL.out]; exact hlt)⟩
        obtain ⟨ad, rfl, k1⟩ := cell_at (HC1.out.below HBE.out) (nints_at hx)
        have bx := HSM.out x (List.mem_of_getElem? hx)
        have HTS := Lib.hid (show nshorts (l.take (j + 1)) = nshorts (l.take j) ++ [.int .i16 x] by rw [List.take_add_one, hx]; exact nshorts_snoc _ _)
        clear hx
        go_wp2_with (at_builtin; refine wpList_append_cells _ rfl (.tmp 33) (.tmp 36) _ rfl w1.heap.size 36 i0 (.int .i16 0) 1 2 Try.underlying23 hi0 hz0 hz1 hz2 rfl (by decide) _ j _ rfl (HOWN.out.alloc _) (fun _ => True) _ 1 1 [.int .i16 x] rfl rfl (cells_new (cs := #[.int .i16 x]) (heap_alloc_new _ _) trivial) (by simp [Value.oneCell']) (by unfold maxLen; omega) (by omega) (by have := HBE.out.size; simp; omega) ?_)
        rintro v4 w4 hown4 hgr4 -
        have hb4 : Below w1.heap.size w1 w4 := (HBE.out.alloc HBE.out.size _).grown hgr4 (by have := HBE.out.size; simp; omega) (fun j hj => (HOWN.out.lt j hj).1)
        have HO4 := Lib.hid (show w4.ownsRow w1.heap.size 36 1 v4 (j + 1) (nshorts (l.take (j + 1))) by rw [HTS.out]; exact hown4)
        have HB4 := Lib.hid hb4
        clear hown4 hgr4 hb4
        go_wp2_with fail
        go_roundw
        case rel => exact ⟨j + 1, by omega, by go_num, HO4, HB4⟩
        case measure => simp [intOf]; omega
      · obtain rfl : j = L := by omega
        have HO := Lib.hid (show wr.ownsRow w1.heap.size 36 1 _ j (nshorts l) by have h := HOWN.out; rwa [List.take_of_length_le (by rw [HL.out]; exact Nat.le_refl _)] at h)
        have HCK := Lib.hid (refChk_any _ l wr (Vs.of_own (S := fun _ => True) HO.out fun _ _ => trivial))
        have HBZ := Lib.hid (HB1.out.trans (HBE.out.mono HB1.out.size))
        cases hk : okV l
        · have HE := Lib.hid (HCKE.out hk)
          rw [chk_no hk] at HCK
          clear hk
          go_wp2_with fail
          refine HCK.out.mono ?_
          rintro e w' ⟨rfl, rfl⟩
          go_wp2_with fail
          go_ret2
          exact ⟨_, by rw [HE.out]; rfl, by rw [HE.out]; exact World.ownsRow_nil _ _ _ _, HBZ.out⟩
        · have HE := Lib.hid (HCKO.out hk)
          rw [chk_ok hk] at HCK
          clear hk
          go_wp2_with fail
          refine HCK.out.mono ?_
          rintro e w' ⟨rfl, rfl⟩
          go_wp2_with fail
          go_ret2
          refine ⟨_, by rw [HE.out]; rfl, ?_, HBZ.out⟩
          rw [HE.out]
          dsimp only
          rw [HL.out]
          exact own_mono HO.out HB1.out.size
  · have HE := Lib.hid (frm_no (b := b) (.inl hev))
    have h1 : b.length % 2 = 1 := by omega
    rw [h1] at HDL
    clear hSL hm hev h1 HCKE HSM
    obtain ⟨D, hD⟩ : ∃ D, D = b.drop ((sh b).length * 2) := ⟨_, rfl⟩
    rw [← hD] at HTK HDL
    clear hD
    generalize sh b = l at *
    generalize b.length = M at *
    generalize hLL : l.length = L at *
    have HL := Lib.hid hLL
    clear hLL
    go_enter Try.func22, Try.ntmps22
    go_wp2_with fail
    refine HTK.out.mono ?_
    clear t2
    intro e w1 hg
    obtain ⟨A1, c1, A2, c2, rfl, -, -, hs1, -, hb1⟩ := gives_t hg
    rw [HL.out, HDL.out]
    have HB1 := Lib.hid hb1
    clear hg hs1 hb1
    go_wp2_with fail
    go_ret2
    exact ⟨_, by rw [HE.out]; rfl, by rw [HE.out]; exact World.ownsRow_nil _ _ _ _, HB1.out⟩

end Go.Proofs.Ytndccdoohmgmlaa
