/- Contract: Put. -/
import Derived.Test.Ytndccdoohmgmlaa4A
import Derived.Test.Ytndccdoohmgmlaa4N
namespace Go.Proofs.Ytndccdoohmgmlaa
open Go.RowKit Pk

theorem all_take_succ {α : Type} {p : α → Bool} {l : List α} {j : Nat} {x : α} (h : l[j]? = some x) : (l.take (j + 1)).all p = ((l.take j).all p && p x) := by
  rw [List.take_add_one, h]
  simp

theorem octs_take_succ (k : Nat) {l : List Int} {j : Nat} {x : Int} (h : l[j]? = some x) : octs k (l.take (j + 1)) = octs k (l.take j) ++ oct k x := by
  rw [List.take_add_one, h, octs_append]
  simp [octs]

theorem all_false_at {α : Type} {p : α → Bool} {l : List α} (h : l.all p = false) {j : Nat} (hj : l.length ≤ j) : (l.take j).all p = false := by rw [List.take_of_length_le hj]; exact h

theorem put_long {b : List UInt8} {k : Nat} {l : List Int} (k1 : 1 ≤ k) (k8 : k ≤ 8) (ha : l.all (fitsB k) = true) (h : 65536 < b.length + k * l.length) : put b (k : Int) l = ([], 3) := by
  rcases put_cases b (k : Int) l with ⟨h1, _⟩ | ⟨k', e, _, _, h1, _⟩ | ⟨k', e, _, _, _, _, h2⟩ | ⟨k', e, _, _, _, h1, _⟩
  · have := of_decide_eq_false h1
    omega
  · obtain rfl : k = k' := by omega
    rw [ha] at h1
    cases h1
  · exact h2
  · obtain rfl : k = k' := by omega
    omega
theorem put_ok {b : List UInt8} {k : Nat} {l : List Int} (k1 : 1 ≤ k) (k8 : k ≤ 8) (ha : l.all (fitsB k) = true) (h : b.length + k * l.length ≤ 65536) : put b (k : Int) l = (b ++ octs k l, 0) := by
  rcases put_cases b (k : Int) l with ⟨h1, _⟩ | ⟨k', e, _, _, h1, _⟩ | ⟨k', e, _, _, _, h1, _⟩ | ⟨k', e, _, _, _, _, h2⟩
  · have := of_decide_eq_false h1
    omega
  · obtain rfl : k = k' := by omega
    rw [ha] at h1
    cases h1
  · obtain rfl : k = k' := by omega
    omega
  · obtain rfl : k = k' := by omega
    exact h2

set_option maxRecDepth 10000 in
set_option maxHeartbeats 2000000 in
theorem put_any (v vl : Value) (b : List UInt8) (width : Int) (l : List Int) (w : World) (hb : Bs w (fun _ => True) v b) (hl : Ns w (fun _ => True) vl l) (hbl : b.length ≤ 1000000) (hll : l.length ≤ 1000000) :
    Calls Try.prog 31 #[v, .int .i64 width, vl] w (GivesRE w (put b width l)) := by
  obtain ⟨i0, hi0, hz0, hz1, hz2⟩ := info_parts info8
  have HB := Lib.hid hb
  have HL := Lib.hid hl
  obtain ⟨A, c, rfl, hc1, hc2, hc3, hc⟩ := hb
  obtain ⟨A', c', rfl, hc1', hc2', hc3', hc'⟩ := hl
  unfold maxLen at hc2 hc2'
  have HC := Lib.hid hc
  have HC' := Lib.hid hc'
  clear hc hc' hc3 hc3'
  have HIW := Lib.hid (fun W => isWidth_any width W)
  cases hW : isW width
  · have HE := Lib.hid (show put b width l = ([], 1) by simp [put, hW])
    rw [hW] at HIW
    clear hW
    generalize b.length = M at *
    generalize l.length = N at *
    go_enter Try.func31, Try.ntmps31
    go_wp2_with fail
    refine (HIW.out _).mono ?_
    rintro e w' ⟨rfl, rfl⟩
    go_wp2_with fail
    go_ret2
    exact ⟨_, by rw [HE.out]; rfl, by rw [HE.out]; exact World.ownsRow_nil _ _ _ _, Below.refl _ _⟩
  · obtain ⟨k, rfl, k1, k8⟩ := isW_yes hW
    rw [hW] at HIW
    have hmulN : k * l.length ≤ 8 * l.length := Nat.mul_le_mul_right _ k8
    have hmul : (k : Int) * (l.length : Int) ≤ 8 * (l.length : Int) := by exact_mod_cast hmulN
    have hmul0 : (0 : Int) ≤ (k : Int) * (l.length : Int) := Int.mul_nonneg (by omega) (by omega)
    clear hW
    generalize hM : b.length = M at *
    generalize hN : l.length = N at *
    have HM := Lib.hid hM
    have HN := Lib.hid hN
    clear hM hN
    go_enter Try.func31, Try.ntmps31
    go_wp2_with fail
    refine (HIW.out _).mono ?_
    rintro e w' ⟨rfl, rfl⟩
    go_wp2_with fail
    go_loop [9, 19] (fun _ i => ∃ j : Nat, j ≤ N ∧ i = .int .i64 (j : Int) ∧ Hid ((l.take j).all (fitsB k) = true)) (fun _ i => N - (intOf i).toNat)
    case atStart => exact ⟨0, by omega, rfl, Lib.hid rfl⟩
    case round =>
      obtain ⟨j, hj, rfl, HF⟩ := hrel
      by_cases hlt : j < N
      · obtain ⟨x, hx⟩ : ∃ x, l[j]? = some x := ⟨_, List.getElem?_eq_getElem (by rw [HN.out]; exact hlt)⟩
        obtain ⟨ad, rfl, hcj⟩ := cell_at HC'.out (nints_at hx)
        have HX := Lib.hid hx
        clear hx
        have HFA := Lib.hid (fun W => fits_any x k W k1 k8)
        cases hfx : fitsB k x
        · have HE := Lib.hid (show put b (k : Int) l = ([], 4) by
            have h : l.all (fitsB k) = false := by
              rw [List.all_eq_false]
              exact ⟨x, List.mem_of_getElem? HX.out, by simp [hfx]⟩
            rw [put, if_neg (by simp [isW]; omega), Int.toNat_natCast, if_pos h])
          rw [hfx] at HFA
          clear hfx
          go_wp2_with fail
          refine (HFA.out _).mono ?_
          rintro e w' ⟨rfl, rfl⟩
          go_wp2_with fail
          go_ret2
          exact ⟨_, by rw [HE.out]; rfl, by rw [HE.out]; exact World.ownsRow_nil _ _ _ _, Below.refl _ _⟩
        · have HF' := Lib.hid (show (l.take (j + 1)).all (fitsB k) = true by rw [all_take_succ HX.out, HF.out, hfx]; rfl)
          rw [hfx] at HFA
          clear hfx
          go_wp2_with fail
          refine (HFA.out _).mono ?_
          rintro e w' ⟨rfl, rfl⟩
          go_wp2_with fail
          go_round
          case rel => exact ⟨j + 1, by omega, by go_num, HF'⟩
          case measure => simp [intOf]; omega
      · obtain rfl : j = N := by omega
        have HALL := Lib.hid (show l.all (fitsB k) = true by have := HF.out; rwa [← HN.out, List.take_length] at this)
        by_cases hsz : 65536 < (M : Int) + (k : Int) * (j : Int)
        · have HE := Lib.hid (put_long (b := b) k1 k8 HALL.out (by rw [HM.out, HN.out]; have e := Int.natCast_mul k j; omega))
          go_wp2_with fail
          go_ret2
          exact ⟨_, by rw [HE.out]; rfl, by rw [HE.out]; exact World.ownsRow_nil _ _ _ _, Below.refl _ _⟩
        · have hs' : M + k * j ≤ 65536 := by
            have e := Int.natCast_mul k j
            omega
          have HE := Lib.hid (put_ok (b := b) k1 k8 HALL.out (by rw [HM.out, HN.out]; exact hs'))
          go_wp2_with (first
            | (at_make; refine wpList_make_own _ rfl _ _ _ rfl w.heap.size 5 i0 (.int .u8 0) 1 Try.underlying30 hi0 hz0 hz1 .i64 .i64 _ (M + k * j) rfl rfl (by simp) (by rw [hz2]; omega) (by unfold maxLen; omega) (Nat.le_refl _) ?_; intro w0 hown0 hgrow0)
            | (at_builtin; refine wpList_append_cells _ rfl (.tmp 38) (.tmp 39) _ rfl w.heap.size 5 i0 (.int .u8 0) 1 1 Try.underlying30 hi0 hz0 hz1 hz2 rfl (by decide) _ 0 [] rfl hown0 (fun _ => True) _ M c (octets b) rfl (by rw [octets_length, HM.out, Nat.mul_one]) ?c1 octets_one ?c2 ?c3 ?c4 ?_))
          case c1 => exact HC.out.below ((Below.refl _ _).grown hgrow0 (Nat.le_refl _) (by simp))
          case c2 => unfold maxLen; omega
          case c3 => omega
          case c4 => have := hgrow0.size; omega
          rintro v1 w1 hown1 hgrow1 -
          have hb0 : Below w.heap.size w w0 := (Below.refl _ _).grown hgrow0 (Nat.le_refl _) (by simp)
          have hb1 : Below w.heap.size w w1 := hb0.grown hgrow1 hb0.size (fun i hi => (hown0.lt i hi).1)
          have HO1 := Lib.hid (show w1.ownsRow w.heap.size 5 1 v1 M (octets b) by simpa using hown1)
          have HB1 := Lib.hid hb1
          clear hown0 hgrow0 hown1 hgrow1 hb0 hb1
          go_wp2_with fail
          go_loopw [11, 13, 43] (fun u _ i wr => ∃ m : Nat, m ≤ j ∧ i = .int .i64 (m : Int) ∧ Hid (wr.ownsRow w.heap.size 5 1 u (M + k * m) (octets (b ++ octs k (l.take m)))) ∧ Hid (Below w.heap.size w wr)) (fun _ _ i _ => j - (intOf i).toNat)
          case atStart => exact ⟨0, by omega, rfl, Lib.hid (by simpa [octs] using HO1.out), HB1⟩
          case round =>
            obtain ⟨m, hm, rfl, HOWN, HBE⟩ := hrel
            by_cases hlt2 : m < j
            · obtain ⟨x, hx⟩ : ∃ x, l[m]? = some x := ⟨_, List.getElem?_eq_getElem (by rw [HN.out]; exact hlt2)⟩
              obtain ⟨ad, rfl, hcj⟩ := cell_at (HC'.out.below HBE.out) (nints_at hx)
              have hmk : k * m ≤ k * j := Nat.mul_le_mul_left _ (by omega)
              have HLEN := Lib.hid (show (b ++ octs k (l.take m)).length = M + k * m by rw [List.length_append, HM.out, octs_length, List.length_take, HN.out, Nat.min_eq_left (by omega)])
              have HADD := Lib.hid (add_any w.heap.size u11 (b ++ octs k (l.take m)) k x wr k8 (by rw [HLEN.out]; omega) HBE.out.size (by rw [HLEN.out]; exact HOWN.out))
              have HX := Lib.hid (octs_take_succ k hx)
              clear hx
              go_wp2_with fail
              refine HADD.out.mono ?_
              rintro e w2 ⟨v2, rfl, hown2, hb2, hz2'⟩
              have HO2 := Lib.hid hown2
              have HB2 := Lib.hid (HBE.out.trans hb2)
              clear hown2 hb2 hz2'
              go_wp2_with fail
              go_roundw
              case rel =>
                refine ⟨m + 1, by omega, by go_num, Lib.hid ?_, HB2⟩
                have h := HO2.out
                rw [List.length_append, HLEN.out, oct_length, List.append_assoc, ← HX.out] at h
                rw [Nat.mul_succ, ← Nat.add_assoc]
                exact h
              case measure => simp [intOf]; omega
            · obtain rfl : m = j := by omega
              have HT := Lib.hid (show l.take m = l by rw [← HN.out, List.take_length])
              go_wp2_with fail
              go_ret2
              refine ⟨_, by rw [HE.out]; rfl, ?_, HBE.out⟩
              rw [HE.out]
              have h := HOWN.out
              rw [HT.out] at h
              dsimp only
              rw [List.length_append, octs_length, HM.out, HN.out]
              exact h

end Go.Proofs.Ytndccdoohmgmlaa
