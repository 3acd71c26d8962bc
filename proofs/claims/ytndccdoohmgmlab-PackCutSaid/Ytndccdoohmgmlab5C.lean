/- Contract of the reference's: Cut. -/
import Derived.Test.Ytndccdoohmgmlab5B
import Derived.Test.Ytndccdoohmgmlab4Z
namespace Go.Proofs.Ytndccdoohmgmlab
open Go.RowKit Pk

/-- v is a row of the call's own, whose cells are these texts'. -/
def TsRow (w : World) (base : Nat) (v : Value) (xs : List Value) (l : List (List UInt8)) : Prop :=
  w.ownsRow base 22 1 v l.length xs ∧ TsCells w (fun b => base ≤ b ∧ some b ≠ v.ownBlock) xs l

section
variable {w w2 : World} {base : Nat} {v v' vt : Value} {xs : List Value} {l : List (List UInt8)} {t : List UInt8}
theorem TsRow.own (h : TsRow w base v xs l) : TsOwn w base v l := ⟨xs, h.1, h.2⟩
theorem TsRow.below (h : TsRow w base v xs l) (hb : Below w.heap.size w w2) : TsRow w2 base v xs l := ⟨own_below h.1 hb fun b hh => (h.1.lt b hh).2, h.2.below hb⟩
theorem tsRow_nil (w : World) (base : Nat) : TsRow w base (.slice none 0 0) [] [] := ⟨World.ownsRow_nil _ _ _ _, rfl, fun j x hx => by simp at hx⟩
theorem TsRow.push (h : TsRow w base v xs l) (ht : Bs w (fun b => base ≤ b ∧ some b ≠ v.ownBlock) vt t) {o : Obj} (hg : (w.alloc o).grownBy w2 v.ownBlock) (hat : v'.ownBlock = v.ownBlock ∨ v'.ownBlock = some (w.heap.size + 1))
    (ho : w2.ownsRow base 22 1 v' (l.length + 1) (xs ++ [vt])) : TsRow w2 base v' (xs ++ [vt]) (l ++ [t]) := by
  refine ⟨by rw [List.length_append]; exact ho, ?_⟩
  have h1 := (h.2.snoc ht).more (S' := fun b => base ≤ b ∧ some b ≠ v.ownBlock ∧ some b ≠ v'.ownBlock) fun b hb hS => ⟨hS.1, hS.2, fun e => by
    rcases hat with hh | hh
    · exact hS.2 (e.trans hh)
    · rw [hh] at e
      injection e with e
      omega⟩
  have h2 := (h1.below (below_new w o)).keep (w' := w2) fun p hp ⟨u, hu⟩ => (hg.cell hu hp.2.1).trans hu.symm
  exact h2.more fun b _ hS => ⟨hS.1, hS.2.2⟩
/-- A text that a call made, and the row of texts. -/
theorem own_in_row {n : Nat} (h : w.ownsRow base 22 1 v n xs) (ht : w.ownsRow base 5 1 vt t.length (octets t)) : Bs w (fun b => base ≤ b ∧ some b ≠ v.ownBlock) vt t := by
  refine Bs.of_own ht fun b hb => ⟨(ht.lt b hb.symm).1, fun e => ?_⟩
  rcases ht.2 with ⟨rfl, _⟩ | ⟨g, cap, cur, rfl, _, hh, _⟩
  · simp [Value.ownBlock] at hb
  · obtain rfl : b = g := by simpa [Value.ownBlock] using hb
    exact own_blk_ne h hh (by decide) b e.symm rfl
end

/-- How far a list is cut. -/
def CutTo (b acc_b : List UInt8) (acc : List (List UInt8)) : Prop := cutA b = (cutA acc_b).map (acc ++ ·)
theorem CutTo.start (b : List UInt8) : CutTo b b [] := by unfold CutTo; cases cutA b <;> rfl
theorem CutTo.step {b rb t r : List UInt8} {acc : List (List UInt8)} (h : CutTo b rb acc) (hf : first rb = some (t, r)) : CutTo b r (acc ++ [t]) := by
  unfold CutTo at h ⊢
  rw [h, cutA_some hf]
  cases cutA r <;> simp
theorem CutTo.done {b : List UInt8} {acc : List (List UInt8)} (h : CutTo b [] acc) (hb : b.length ≤ 65536) : cutp b = (acc, 0) := by
  unfold CutTo at h
  rw [cutA_nil] at h
  simp at h
  rw [cutp, if_neg (by omega), h]
theorem CutTo.bad {b rb : List UInt8} {acc : List (List UInt8)} (h : CutTo b rb acc) (hb : b.length ≤ 65536) (hn : rb ≠ []) (hf : first rb = none) : cutp b = ([], 2) := by
  unfold CutTo at h
  rw [cutA_none hn hf] at h
  rw [cutp, if_neg (by omega), h]
  rfl

theorem take_four {rb : List UInt8} (h : 4 ≤ rb.length) : take rb 4 1 = ([num (rb.take 4)], rb.drop 4, 0) := take_ok (k := 4) (m := 1) (by omega) (by omega) (by omega) (by omega)
theorem take_less {rb : List UInt8} (h : rb.length < 4) : take rb 4 1 = ([], [], 2) := by
  rw [take, if_neg (by rw [takeOk, decide_eq_true (by omega)]; exact Bool.noConfusion), if_pos (by simpa using h)]

set_option maxRecDepth 10000 in
set_option maxHeartbeats 4000000 in
theorem refCut_any (v : Value) (b : List UInt8) (w : World) (hb : Bs w (fun _ => True) v b) (hbl : b.length ≤ 1000000) :
    Calls Try.prog 20 #[v] w (GivesTs w (cutp b)) := by
  obtain ⟨i0, hi0, hz0, hz1, hz2⟩ := info_parts info8
  obtain ⟨j0, hj0, hy0, hy1, hy2⟩ := info_parts infoT
  have HB := Lib.hid hb
  obtain ⟨A, c, rfl, hc1, hc2, _⟩ := hb
  unfold maxLen at hc2
  by_cases hlong : 65536 < b.length
  · have HE := Lib.hid (show cutp b = ([], 3) by rw [cutp, if_pos hlong])
    generalize b.length = M at *
    go_enter Try.func20, Try.ntmps20
    go_wp2_with fail
    go_ret2
    exact ⟨_, by rw [HE.out]; rfl, by rw [HE.out]; exact tsOwn_nil _ _, Below.refl _ _⟩
  · have HBL := Lib.hid (show b.length ≤ 65536 by omega)
    generalize hM : b.length = M at *
    have HM := Lib.hid hM
    clear hM
    go_enter Try.func20, Try.ntmps20
    go_wp2_with fail
    go_loopw [0, 4, 5, 6, 7, 8] (fun s u _ _ _ _ wr => ∃ (A : Option Addr) (c : Nat) (rb : List UInt8) (xs : List Value) (acc : List (List UInt8)), rb.length ≤ 65536 ∧ acc.length + rb.length ≤ 65536 ∧ s = .slice A rb.length c ∧ Hid (Bs wr (fun _ => True) (.slice A rb.length c) rb) ∧ Hid (TsRow wr w.heap.size u xs acc) ∧ Hid (CutTo b rb acc) ∧ Hid (Below w.heap.size w wr)) (fun s _ _ _ _ _ _ => match s with | .slice _ n _ => n | _ => 0)
    case atStart => exact ⟨A, c, b, [], [], by rw [HM.out]; exact HBL.out, by rw [HM.out]; simpa using HBL.out, by rw [HM.out], Lib.hid (by rw [HM.out]; exact HB.out), Lib.hid (tsRow_nil _ _), Lib.hid (CutTo.start b), Lib.hid (Below.refl _ _)⟩
    case round =>
      obtain ⟨A1, c1, rb, xs, acc, hrl, hral, rfl, HRB, HROW, HCUT, HBE⟩ := hrel
      have hcc := HRB.out.caps.2
      by_cases h0 : rb = []
      · have HE := Lib.hid (show cutp b = (acc, 0) from CutTo.done (by rw [← h0]; exact HCUT.out) (by rw [HM.out]; exact HBL.out))
        have hr0 : rb.length = 0 := by rw [h0]; rfl
        generalize rb.length = R at *
        subst hr0
        clear h0
        go_wp2_with fail
        go_ret2
        exact ⟨_, by rw [HE.out]; rfl, by rw [HE.out]; exact HROW.out.own, HBE.out⟩
      · have hr1 : 0 < rb.length := Nat.pos_of_ne_zero fun h => h0 (List.eq_nil_of_length_eq_zero h)
        have HN0 := Lib.hid h0
        have HTK := Lib.hid (refTake_any _ rb 4 1 wr HRB.out (by omega))
        clear h0
        by_cases h4 : rb.length < 4
        · have HE := Lib.hid (show cutp b = ([], 2) from HCUT.out.bad (by rw [HM.out]; exact HBL.out) HN0.out (by unfold first; rw [if_pos h4]))
          rw [take_less h4] at HTK
          generalize rb.length = R at *
          go_wp2_with fail
          refine HTK.out.mono ?_
          intro e w2 hg
          obtain ⟨A2, c2, A3, c3, rfl, -, -, -, -, hb2⟩ := gives_t hg
          have HB2 := Lib.hid (HBE.out.trans (hb2.mono HBE.out.size))
          clear hg hb2
          go_wp2_with fail
          go_ret2
          exact ⟨_, by rw [HE.out]; rfl, by rw [HE.out]; exact tsOwn_nil _ _, HB2.out⟩
        · rw [take_four (by omega)] at HTK
          have HDL := Lib.hid (show (rb.drop 4).length = rb.length - 4 from List.length_drop)
          cases hf : first rb with
          | none =>
            have HE := Lib.hid (show cutp b = ([], 2) from HCUT.out.bad (by rw [HM.out]; exact HBL.out) HN0.out hf)
            have hbad : num (rb.take 4) < 0 ∨ (¬ num (rb.take 4) < 0 ∧ ((rb.length - 4 : Nat) : Int) < num (rb.take 4)) := by
              rcases first_none hf with h | ⟨_, h⟩ | ⟨_, h1, h2⟩
              · omega
              · exact .inl h
              · exact .inr ⟨h1, by omega⟩
            clear hf
            generalize num (rb.take 4) = X at *
            generalize rb.length = R at *
            rcases hbad with hx | ⟨hx, hx2⟩
            all_goals
              go_wp2_with fail
              refine HTK.out.mono ?_
              intro e w2 hg
              obtain ⟨A2, c2, A3, c3, rfl, -, -, hs2, -, hb2⟩ := gives_t hg
              rw [HDL.out]
              obtain ⟨ad2, rfl, k2⟩ := cell_at hs2.from_.2.2.2.2 (nints_at (j := 0) (x := X) rfl)
              have k2' : w2.cell? ad2 = some (.int .i64 X) := by simpa [Addr.add] using k2
              have HB2 := Lib.hid (HBE.out.trans (hb2.mono HBE.out.size))
              clear hg hb2 hs2 k2
              go_wp2_with fail
              go_ret2
              exact ⟨_, by rw [HE.out]; rfl, by rw [HE.out]; exact tsOwn_nil _ _, HB2.out⟩
          | some p =>
            obtain ⟨t, r⟩ := p
            obtain ⟨q1, q2, q3, q4, q5, q6⟩ := first_some hf
            have HST := Lib.hid (HCUT.out.step hf)
            rw [q3] at HTK
            have HQ4 := Lib.hid q4
            have HQ5 := Lib.hid q5
            have hq1 : t.length ≤ rb.length - 4 := by omega
            have hq2 : r.length = rb.length - 4 - t.length := by omega
            have HQ2 := Lib.hid hq2
            clear hf q2 q3 q4 q5 hq2
            generalize hTT : t.length = T at *
            generalize rb.length = R at *
            have HTT := Lib.hid hTT
            clear hTT
            go_wp2_with fail
            refine HTK.out.mono ?_
            intro e w2 hg
            obtain ⟨A2, c2, A3, c3, rfl, -, ho3, hs2, -, hb2⟩ := gives_t hg
            have hs3 : Bs w2 (fun b => some b ≠ u4.ownBlock) _ _ := Bs.of_own ho3 fun b hb e => by
              have h1 := (ho3.lt b hb.symm).1
              have h2 := (HROW.out.1.lt b e.symm).2
              omega
            rw [HDL.out] at hs3 ⊢
            obtain ⟨ad2, rfl, k2⟩ := cell_at hs2.from_.2.2.2.2 (nints_at (j := 0) (x := (T : Int)) rfl)
            have k2' : w2.cell? ad2 = some (.int .i64 (T : Int)) := by simpa [Addr.add] using k2
            have HB2 := Lib.hid (HBE.out.trans (hb2.mono HBE.out.size))
            have HROW2 := Lib.hid (HROW.out.below hb2)
            have hc3 := hs3.caps.2
            have htx := hs3.upto_ (j := T) hq1
            rw [← HQ4.out] at htx
            have HTX := Lib.hid (htx.more (S' := fun _ => True) fun _ _ _ => trivial)
            have hbh := hs3.behind_ (i := T) hq1
            rw [← HQ5.out] at hbh
            have HR0 := Lib.hid (show r = [] → r.length = 0 from fun h => by rw [h]; rfl)
            clear hg hb2 hs2 hs3 ho3 k2 htx q1 q6
            rcases hbh with ⟨rfl, e1, e2, e3, hnil⟩ | ⟨ad, rfl, e1, e2, hnil⟩ | ⟨ad, rfl, hne, hlt, htail⟩
            all_goals
              first
                | (have HNIL := Lib.hid hnil; clear hnil)
                | (have HTAIL := Lib.hid htail; clear htail)
              try clear e2
              try (subst e1)
              try (have e3' := Lib.hid e3; clear e3)
              go_wp2_with (first
                | (at_builtin; refine wpList_append_cells _ rfl (.const (.slice none 0 0)) (.tmp 43) _ rfl w2.heap.size 5 i0 (.int .u8 0) 1 1 Try.underlying22 hi0 hz0 hz1 hz2 rfl (by decide) (.slice none 0 0) 0 [] rfl (World.ownsRow_nil _ _ _ _) (fun _ => True) _ _ _ (octets t) rfl (by rw [octets_length, HTT.out, Nat.mul_one]) HTX.out.cells octets_one (by unfold maxLen; omega) (by omega) (Nat.le_refl _) ?_; intro v3 w3 hown3 hgr3 hgn3; rw [Nat.zero_add, List.nil_append] at hown3; obtain ⟨A4, c4, rfl⟩ := own_slice hown3; have hb3 := (Below.refl w2.heap.size w2).grown hgr3 (Nat.le_refl _) (by simp [Value.ownBlock]); have hrow3 := HROW2.out.below hb3)
                | (at_builtin; refine wpList_append_cells _ rfl (.tmp 40) (.tmp 45) _ rfl w.heap.size 22 j0 (.slice none 0 0) 1 24 Try.underlying33 hj0 hy0 hy1 hy2 rfl (by decide) _ acc.length _ rfl (hrow3.1.alloc _) (fun _ => True) _ 1 1 [_] rfl rfl (cells_new (cs := #[_]) (heap_alloc_new _ _) trivial) (by simp [Value.oneCell']) (by unfold maxLen; omega) (by omega) (by have h1 := HB2.out.size; have h2 := hb3.size; simp; omega) ?_))
              intro v5 w5 hown5 hgr5 hat5
              have HROW5 := Lib.hid (hrow3.push (own_in_row hrow3.1 (own_full hown3 HB2.out.size)) hgr5 hat5 hown5)
              have hb03 := HB2.out.trans (hb3.mono HB2.out.size)
              have HB5 := Lib.hid ((hb03.alloc hb03.size _).grown hgr5 (by have := hb03.size; simp; omega) (fun j hj => (hrow3.1.lt j hj).1))
              first
                | (have HBR := Lib.hid (show Bs w5 (fun _ => True) (.slice (some (ad.add T)) (R - 4 - T) (c3 - T)) r from (((HTAIL.out.below hb3).below (below_new w3 _)).keep (w' := w5) fun p hp ⟨u, hu⟩ => (hgr5.cell hu hp).trans hu.symm).more fun _ _ _ => trivial))
                | skip
              clear hown3 hgr3 hgn3 hb3 hrow3 hown5 hgr5 hat5 hb03
              go_wp2_with fail
              have hrl2 := HQ2.out
              have hacc : (acc ++ [t]).length + r.length ≤ 65536 := by rw [List.length_append]; simp; omega
              first
                | exact ⟨⟨some (ad.add T), c3 - T, r, _, _, by omega, hacc, by rw [hrl2], Lib.hid (by rw [hrl2]; exact HBR.out), HROW5, HST, HB5⟩, by dsimp only; omega⟩
                | exact ⟨⟨some ad, 0, r, _, _, by omega, hacc, by rw [HR0.out HNIL.out], Lib.hid (by rw [HNIL.out]; exact Bs.nothing (some ad) 0 (by simp [maxLen]) (fun h => by cases h)), HROW5, HST, HB5⟩, by dsimp only; omega⟩
                | exact ⟨⟨none, 0, r, _, _, by omega, hacc, by rw [hrl2], Lib.hid (by rw [HNIL.out]; exact Bs.nothing none 0 (by simp [maxLen]) (fun _ => rfl)), HROW5, HST, HB5⟩, by dsimp only; omega⟩

end Go.Proofs.Ytndccdoohmgmlab
