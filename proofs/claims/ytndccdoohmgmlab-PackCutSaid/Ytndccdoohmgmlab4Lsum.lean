/- The law PackSum, walked. -/
import Derived.Test.Ytndccdoohmgmlab4V
import Derived.StillTailTactics
import Derived.Laws.OwnMore
namespace Go.Proofs.Ytndccdoohmgmlab
open Go.RowKit Pk

theorem xor_u8 (x y : UInt8) : bits .xor .u8 (x.toNat : Int) (y.toNat : Int) = ((x ^^^ y).toNat : Int) := by
  rw [u8_xor_nat _ _ (by have := x.toNat_lt; omega) (by have := y.toNat_lt; omega), UInt8.toNat_xor]

/-- What is mixed so far. -/
def mixed (a b c : List UInt8) (j : Nat) : List UInt8 := (mixS a b c).take j ++ a.drop j

theorem mixed_length {a b c : List UInt8} (h1 : b.length = a.length) (h2 : c.length = a.length) {j : Nat} (hj : j ≤ a.length) : (mixed a b c j).length = a.length := by
  rw [mixed, List.length_append, List.length_take, List.length_drop, mixS_length a b c h1 h2]
  omega
theorem mixed_at {a b c : List UInt8} (h1 : b.length = a.length) (h2 : c.length = a.length) {j : Nat} {x : UInt8} (hx : a[j]? = some x) : (mixed a b c j)[j]? = some x := by
  have hj := (List.getElem?_eq_some_iff.1 hx).1
  have hl : ((mixS a b c).take j).length = j := by rw [List.length_take, mixS_length a b c h1 h2]; omega
  rw [mixed, List.getElem?_append_right (by omega), hl, Nat.sub_self, List.getElem?_drop, Nat.add_zero, hx]
theorem mixed_succ {a b c : List UInt8} (h1 : b.length = a.length) (h2 : c.length = a.length) {j : Nat} {x y z : UInt8} (hx : a[j]? = some x) (hy : b[j]? = some y) (hz : c[j]? = some z) :
    (octets (mixed a b c j)).set j (.int .u8 ((x ^^^ y ^^^ z).toNat : Int)) = octets (mixed a b c (j + 1)) := by
  have hj := (List.getElem?_eq_some_iff.1 hx).1
  have hl : ((mixS a b c).take j).length = j := by rw [List.length_take, mixS_length a b c h1 h2]; omega
  have e : (octets (mixed a b c j)).set j (.int .u8 ((x ^^^ y ^^^ z).toNat : Int)) = octets ((mixed a b c j).set j (x ^^^ y ^^^ z)) := by rw [octets, octets, List.map_set]
  rw [e]
  congr 1
  have hd : a.drop j = x :: a.drop (j + 1) := by
    rw [List.drop_eq_getElem_cons hj]
    congr 1
    exact (List.getElem?_eq_some_iff.1 hx).2
  rw [mixed, mixed, List.take_add_one, mixS_at a b c j x y z hx hy hz, hd, List.set_append_right _ _ (by omega), hl, Nat.sub_self]
  simp

set_option maxRecDepth 10000 in
set_option maxHeartbeats 4000000 in
theorem packSum_any (va vb vc : Value) (a b c : List UInt8) (w : World) (ha : Bs w (fun _ => True) va a) (hb : Bs w (fun _ => True) vb b) (hc : Bs w (fun _ => True) vc c) :
    Calls Try.prog 7 #[va, vb, vc] w (True_ w) := by
  obtain ⟨i0, hi0, hz0, hz1, hz2⟩ := info_parts info8
  have HLIVE := Lib.hid (live3_any w)
  have HA := Lib.hid ha
  have HB := Lib.hid hb
  have HC := Lib.hid hc
  obtain ⟨A, n, rfl, hn1, hn2, _⟩ := ha
  obtain ⟨A', n', rfl, hn1', hn2', _⟩ := hb
  obtain ⟨A'', n'', rfl, hn1'', hn2'', _⟩ := hc
  unfold maxLen at hn2 hn2' hn2''
  by_cases hlen : (300 : Int) < (a.length : Int) ∨ (¬ (300 : Int) < (a.length : Int) ∧ b.length < a.length) ∨ (¬ (300 : Int) < (a.length : Int) ∧ ¬ b.length < a.length ∧ c.length < a.length)
  · generalize a.length = L at *
    generalize b.length = M at *
    generalize c.length = N at *
    rcases hlen with h1 | ⟨h1, h2⟩ | ⟨h1, h2, h3⟩
    all_goals
      go_enter Try.func7, Try.ntmps7
      go_wp2_with fail
      refine HLIVE.out.mono ?_
      rintro e w1 ⟨rfl, hb1⟩
      have HB1 := Lib.hid hb1
      clear hb1
      go_wp2_with fail
      go_ret
      exact ⟨rfl, HB1.out⟩
  · have g1 : a.length ≤ 300 := by omega
    have g2 : a.length ≤ b.length := by omega
    have g3 : a.length ≤ c.length := by omega
    clear hlen
    have HBT := Lib.hid (HB.out.upto_ (j := a.length) g2)
    have HCT := Lib.hid (HC.out.upto_ (j := a.length) g3)
    have hbl : (b.take a.length).length = a.length := by rw [List.length_take]; omega
    have hcl : (c.take a.length).length = a.length := by rw [List.length_take]; omega
    have HSUM := Lib.hid (sumS_x3 hbl hcl)
    have HBL := Lib.hid hbl
    have HCL := Lib.hid hcl
    have g2' : ¬ b.length < a.length := by omega
    have g3' : ¬ c.length < a.length := by omega
    obtain ⟨B, hB⟩ : ∃ B, B = b.take a.length := ⟨_, rfl⟩
    obtain ⟨C, hC⟩ : ∃ C, C = c.take a.length := ⟨_, rfl⟩
    rw [← hB] at HBT HSUM HBL
    rw [← hC] at HCT HSUM HCL
    clear hbl hcl hB hC
    have HM0 := Lib.hid (show octets a = octets (mixed a B C 0) by rw [mixed, List.take_zero, List.nil_append, List.drop_zero])
    have HML := Lib.hid (show mixed a B C a.length = mixS a B C by
      have h := mixS_length a B C HBL.out HCL.out
      rw [mixed, ← h, List.take_length, h, List.drop_length, List.append_nil])
    generalize hL : a.length = L at *
    generalize b.length = M at *
    generalize c.length = N at *
    have HL := Lib.hid hL
    clear hL
    go_enter Try.func7, Try.ntmps7
    go_wp2_with fail
    refine HLIVE.out.mono ?_
    rintro e w1 ⟨rfl, hb1⟩
    have HB1 := Lib.hid hb1
    clear hb1
    go_wp2_with (at_builtin; refine wpList_append_cells _ rfl (.const (.slice none 0 0)) (.tmp 31) _ rfl w.heap.size 5 i0 (.int .u8 0) 1 1 Try.underlying22 hi0 hz0 hz1 hz2 rfl (by decide) (.slice none 0 0) 0 [] rfl (World.ownsRow_nil _ _ _ _) (fun _ => True) _ _ _ (octets a) rfl (by rw [octets_length, Nat.mul_one]; exact HL.out) (HA.out.below HB1.out).cells octets_one (by unfold maxLen; omega) (by omega) HB1.out.size ?_)
    intro v2 w2 hown2 hgr2 hgn2
    have hb2 := HB1.out.grown hgr2 HB1.out.size (by simp [Value.ownBlock])
    obtain ⟨A2, c2, rfl⟩ := own_slice hown2
    have hc2 : L ≤ c2 ∧ c2 ≤ 9223372036854775807 := by
      have h := Bs.of_own (S := fun _ => True) (l := a) (by simpa using hown2) (fun _ _ => trivial)
      exact h.caps.2
    obtain ⟨hc2a, hc2b⟩ := hc2
    have HOWN := Lib.hid (show w2.ownsRow w.heap.size 5 1 (.slice A2 L c2) L (octets (mixed a B C 0)) by rw [← HM0.out]; simpa using hown2)
    have HB2 := Lib.hid hb2
    clear hown2 hgr2 hgn2 hb2
    go_wp2_with fail
    go_loopw [9, 35] (fun _ i wr => ∃ j : Nat, j ≤ L ∧ i = .int .i64 (j : Int) ∧ Hid (wr.ownsRow w.heap.size 5 1 (.slice A2 L c2) L (octets (mixed a B C j))) ∧ Hid (Below w.heap.size w wr)) (fun _ i _ => L - (intOf i).toNat)
    case atStart => exact ⟨0, by omega, rfl, HOWN, HB2⟩
    case round =>
      obtain ⟨j, hj, rfl, HO, HBE⟩ := hrel
      by_cases hlt : j < L
      · obtain ⟨x, hx⟩ : ∃ x, a[j]? = some x := ⟨_, List.getElem?_eq_getElem (by rw [HL.out]; exact hlt)⟩
        obtain ⟨y, hy⟩ : ∃ y, B[j]? = some y := ⟨_, List.getElem?_eq_getElem (by rw [HBL.out]; exact hlt)⟩
        obtain ⟨z, hz⟩ : ∃ z, C[j]? = some z := ⟨_, List.getElem?_eq_getElem (by rw [HCL.out]; exact hlt)⟩
        obtain ⟨ad', rfl, k2⟩ := cell_at (HBT.out.below HBE.out).cells (octets_at hy)
        obtain ⟨ad'', rfl, k3⟩ := cell_at (HCT.out.below HBE.out).cells (octets_at hz)
        obtain ⟨g, cap, he, hg1, hg2⟩ := HO.out.form (by omega)
        injection he with he1 _ he3
        subst he1 he3
        have k1 : wr.cell? ⟨g, j, none⟩ = some (.int .u8 (x.toNat : Int)) := (HO.out.cellAt j (by omega)).trans (octets_at (mixed_at (HBL.out.trans HL.out.symm) (HCL.out.trans HL.out.symm) hx))
        have kf : wr.frozen? ⟨g, j, none⟩ = false := HO.out.frozenAt j
        have HST := Lib.hid ((HO.out.stored j (.int .u8 ((x ^^^ y ^^^ z).toNat : Int))).1)
        rw [mixed_succ (HBL.out.trans HL.out.symm) (HCL.out.trans HL.out.symm) hx hy hz] at HST
        have e1 := xor_u8 x y
        have e2 := xor_u8 (x ^^^ y) z
        have hM : j < M := by omega
        have hN : j < N := by omega
        clear hx hy hz
        go_wp2_with fail
        go_still_tail 17, (by kernel_rfl)
        go_wp2_with fail
        have e3 : bits .xor .u8 ((x.toNat ^^^ y.toNat : Nat) : Int) (z.toNat : Int) = ((x ^^^ y ^^^ z).toNat : Int) := by rw [← UInt8.toNat_xor]; exact e2
        refine ⟨⟨j + 1, by omega, by go_num, Lib.hid ?_, Lib.hid ?_⟩, by simp [intOf]; omega⟩
        · rw [e3]
          exact HST.out.drew
        · exact (HBE.out.setCell hg1 _).drew
      · obtain rfl : j = L := by omega
        have HS1 := Lib.hid (show Bs wr (fun _ => True) (.slice A2 j c2) (mixS a B C) by
          have h := HO.out
          rw [HML.out] at h
          exact Bs.of_own h (fun _ _ => trivial))
        have HS2 := Lib.hid (HA.out.below HBE.out)
        have HS3 := Lib.hid (HBT.out.below HBE.out)
        have HS4 := Lib.hid (HCT.out.below HBE.out)
        have hx1 := u32_xor_nat (sumS a) (sumS B) (sumS_lt _) (sumS_lt _)
        have hx2 := u32_xor_nat (sumS a ^^^ sumS B) (sumS C) (lt32 (sumS_lt _) (sumS_lt _)) (sumS_lt _)
        rw [← HSUM.out] at hx2
        go_wp2_with fail
        go_quiet ((go_at_call 21; exact Calls.quiet_of_same ((sum_any _ _ _ (by first | exact HS1.out | exact HS2.out | exact HS3.out | exact HS4.out)).mono fun _ _ h => ⟨h.1, h.2.symm⟩)))
        have HFIN := Lib.hid (below_drewN HBE.out nq)
        generalize wr.drewN nq = wx at *
        clear hx1 hx2
        go_wp2_with fail
        go_ret
        exact ⟨ret_bool (by simp), HFIN.out⟩

end Go.Proofs.Ytndccdoohmgmlab
