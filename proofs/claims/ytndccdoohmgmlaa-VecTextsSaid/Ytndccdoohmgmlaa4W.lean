/- Contracts of the reference's: fits, Put. -/
import Derived.Test.Ytndccdoohmgmlaa4S
import Derived.Laws.Bits64
namespace Go.Proofs.Ytndccdoohmgmlaa
open Go.RowKit Pk

theorem fits_half {k : Nat} (h1 : 1 ≤ k) (n : Int) {H : Nat} (hH : H = 2 ^ (8 * k - 1)) : fitsB k n = (decide (-(H : Int) ≤ n) && decide (n < (H : Int))) := by
  have e : (256 : Int) ^ k = 2 * (H : Int) := by
    have : (256 : Nat) ^ k = 2 * H := by
      rw [hH, ← Nat.pow_succ', show (256 : Nat) = 2 ^ 8 from rfl, ← Nat.pow_mul]
      congr 1
      omega
    rw [← cast_pow, this]
    simp
  rw [Bool.eq_iff_iff, fitsB, e, decide_eq_true_eq, Bool.and_eq_true, decide_eq_true_eq, decide_eq_true_eq]
  omega

theorem fits_eight {n : Int} (h1 : -9223372036854775808 ≤ n) (h2 : n ≤ 9223372036854775807) : fitsB 8 n = true :=
  decide_eq_true (by simp only [Int.reducePow]; omega)

set_option maxHeartbeats 800000 in
theorem refFits_any (n : Int) (k : Nat) (w : World) (h1 : 1 ≤ k) (h8 : k ≤ 8) (hn : -9223372036854775808 ≤ n ∧ n ≤ 9223372036854775807) :
    Calls Try.prog 38 #[.int .i64 n, .int .i64 (k : Int)] w fun e w' => e = .returned (.bool (fitsB k n)) ∧ w = w' := by
  obtain ⟨hn1, hn2⟩ := hn
  by_cases hk : k = 8
  · subst hk
    have HF := Lib.hid (fits_eight hn1 hn2)
    go_enter Try.func38, Try.ntmps38
    go_wp2_with fail
    go_ret
    exact ⟨ret_bool (by rw [HF.out]), rfl⟩
  · have hk7 : k ≤ 7 := by omega
    have hk' : ((k : Int) == 8) = false := by simp; omega
    clear hk
    have HF := Lib.hid (fits_half h1 n (rfl : 2 ^ (8 * k - 1) = _))
    go_enter Try.func38, Try.ntmps38
    go_wp2_with fail
    go_loop [5, 11] (fun r i => ∃ j : Nat, j ≤ 8 * k - 1 ∧ i = .int .i64 (j : Int) ∧ r = .int .i64 ((2 ^ j : Nat) : Int)) (fun _ i => 8 * k - 1 - (intOf i).toNat)
    case atStart => exact ⟨0, by omega, rfl, rfl⟩
    case round =>
      obtain ⟨j, hj, rfl, rfl⟩ := hrel
      have hp : 2 ^ j ≤ 2 ^ 55 := Nat.pow_le_pow_right (by omega) (by omega)
      have hp' : 2 ^ j ≤ 36028797018963968 := hp
      have h0 : 0 < 2 ^ j := Nat.pow_pos (by omega)
      clear hp
      by_cases hlt : (j : Int) < 8 * (k : Int) - 1
      · have HS := Lib.hid (show 2 ^ (j + 1) = 2 * 2 ^ j from Nat.pow_succ')
        generalize 2 ^ j = H at *
        go_wp2_with fail
        go_round
        case rel => exact ⟨j + 1, by omega, by go_num, by rw [HS.out]; go_num⟩
        case measure => simp [intOf]; omega
      · obtain rfl : j = 8 * k - 1 := by omega
        generalize 2 ^ (8 * k - 1) = H at *
        go_wp2_with fail
        all_goals
          go_ret
          exact ⟨ret_bool (by rw [HF.out, Bool.eq_iff_iff]; simp; try omega), rfl⟩

/-- The octets of a number, out of the same number without a sign. -/
theorem u64_oct {n : Int} {U : Nat} (hU : (U : Int) = n % 18446744073709551616) (i : Nat) (hi : i < 8) : (((U / 256 ^ i : Nat) : Int) % 256) = (((UInt8.ofNat (n / 256 ^ i % 256).toNat).toNat : Nat) : Int) := by
  rw [UInt8.toNat_ofNat']
  have hk : i = 0 ∨ i = 1 ∨ i = 2 ∨ i = 3 ∨ i = 4 ∨ i = 5 ∨ i = 6 ∨ i = 7 := by omega
  rcases hk with rfl | rfl | rfl | rfl | rfl | rfl | rfl | rfl <;> simp only [Nat.reducePow, Int.reducePow, Int.natCast_ediv] <;> omega

set_option maxRecDepth 10000 in
set_option maxHeartbeats 4000000 in
theorem refPut_any (v vl : Value) (b : List UInt8) (width : Int) (l : List Int) (w : World) (hb : Bs w (fun _ => True) v b) (hl : Ns w (fun _ => True) vl l) (hbl : b.length ≤ 1000000) (hll : l.length ≤ 1000000)
    (hwf : ∀ n ∈ l, -9223372036854775808 ≤ n ∧ n ≤ 9223372036854775807) :
    Calls Try.prog 32 #[v, .int .i64 width, vl] w (GivesRE w (put b width l)) := by
  obtain ⟨i0, hi0, hz0, hz1, hz2⟩ := info_parts info8
  have HB := Lib.hid hb
  have HL := Lib.hid hl
  have HWF := Lib.hid hwf
  clear hwf
  obtain ⟨A, c, rfl, hc1, hc2, hc3, hc⟩ := hb
  obtain ⟨A', c', rfl, hc1', hc2', hc3', hc'⟩ := hl
  unfold maxLen at hc2 hc2'
  have HC := Lib.hid hc
  have HC' := Lib.hid hc'
  clear hc hc' hc3 hc3'
  cases hW : isW width
  · have HE := Lib.hid (show put b width l = ([], 1) by simp [put, hW])
    have hno : width < 1 ∨ (¬ width < 1 ∧ 8 < width) := by have := of_decide_eq_false hW; omega
    clear hW
    generalize b.length = M at *
    generalize l.length = N at *
    rcases hno with h1 | ⟨h1, h2⟩
    all_goals
      go_enter Try.func32, Try.ntmps32
      go_wp2_with fail
      go_ret2
      exact ⟨_, by rw [HE.out]; rfl, by rw [HE.out]; exact World.ownsRow_nil _ _ _ _, Below.refl _ _⟩
  · obtain ⟨k, rfl, k1, k8⟩ := isW_yes hW
    have hmulN : k * l.length ≤ 8 * l.length := Nat.mul_le_mul_right _ k8
    have hcast := Int.natCast_mul k l.length
    have hmul : (k : Int) * (l.length : Int) ≤ 8 * (l.length : Int) := by omega
    have hmul0 : (0 : Int) ≤ (k : Int) * (l.length : Int) := by omega
    clear hW hcast
    generalize hM : b.length = M at *
    generalize hN : l.length = N at *
    have HM := Lib.hid hM
    have HN := Lib.hid hN
    clear hM hN
    go_enter Try.func32, Try.ntmps32
    go_wp2_with fail
    go_loop [9, 22] (fun _ i => ∃ j : Nat, j ≤ N ∧ i = .int .i64 (j : Int) ∧ Hid ((l.take j).all (fitsB k) = true)) (fun _ i => N - (intOf i).toNat)
    case atStart => exact ⟨0, by omega, rfl, Lib.hid rfl⟩
    case round =>
      obtain ⟨j, hj, rfl, HF⟩ := hrel
      by_cases hlt : j < N
      · obtain ⟨x, hx⟩ : ∃ x, l[j]? = some x := ⟨_, List.getElem?_eq_getElem (by rw [HN.out]; exact hlt)⟩
        obtain ⟨ad, rfl, hcj⟩ := cell_at HC'.out (nints_at hx)
        have HX := Lib.hid hx
        have HFA := Lib.hid (fun W => refFits_any x k W k1 k8 (HWF.out x (List.mem_of_getElem? hx)))
        clear hx
        cases hfx : fitsB k x
        · have HE := Lib.hid (show put b (k : Int) l = ([], 4) by
            have h : l.all (fitsB k) = false := by
              rw [List.all_eq_false]
              exact ⟨x, List.mem_of_getElem? HX.out, by simp [hfx]⟩
            rw [put, if_neg (by simp [isW]; omega), Int.toNat_natCast, if_pos h])
          rw [hfx] at HFA
          clear hfx
          go_wp2_with fail
          refine (HFA.out _).mono ?_
          rintro e w' ⟨rfl, rfl⟩
          go_wp2_with fail
          go_ret2
          exact ⟨_, by rw [HE.out]; rfl, by rw [HE.out]; exact World.ownsRow_nil _ _ _ _, Below.refl _ _⟩
        · have HF' := Lib.hid (show (l.take (j + 1)).all (fitsB k) = true by rw [all_take_succ HX.out, HF.out, hfx]; rfl)
          rw [hfx] at HFA
          clear hfx
          go_wp2_with fail
          refine (HFA.out _).mono ?_
          rintro e w' ⟨rfl, rfl⟩
          go_wp2_with fail
          go_round
          case rel => exact ⟨j + 1, by omega, by go_num, HF'⟩
          case measure => simp [intOf]; omega
      · obtain rfl : j = N := by omega
        have HALL := Lib.hid (show l.all (fitsB k) = true by have := HF.out; rwa [← HN.out, List.take_length] at this)
        by_cases hsz : 65536 < (M : Int) + (k : Int) * (j : Int)
        · have HE := Lib.hid (put_long (b := b) k1 k8 HALL.out (by rw [HM.out, HN.out]; have e := Int.natCast_mul k j; omega))
          go_wp2_with fail
          go_ret2
          exact ⟨_, by rw [HE.out]; rfl, by rw [HE.out]; exact World.ownsRow_nil _ _ _ _, Below.refl _ _⟩
        · have hs' : M + k * j ≤ 65536 := by
            have e := Int.natCast_mul k j
            omega
          have HE := Lib.hid (put_ok (b := b) k1 k8 HALL.out (by rw [HM.out, HN.out]; exact hs'))
          go_wp2_with (at_builtin; refine wpList_append_cells _ rfl (.const (.slice none 0 0)) (.tmp 39) _ rfl w.heap.size 5 i0 (.int .u8 0) 1 1 Try.underlying30 hi0 hz0 hz1 hz2 rfl (by decide) (.slice none 0 0) 0 [] rfl (World.ownsRow_nil _ _ _ _) (fun _ => True) _ M c (octets b) rfl (by rw [octets_length, HM.out, Nat.mul_one]) HC.out octets_one (by unfold maxLen; omega) (by omega) (Nat.le_refl _) ?_)
          rintro v1 w1 hown1 hgrow1 -
          have HO1 := Lib.hid (show w1.ownsRow w.heap.size 5 1 v1 M (octets b) by simpa using hown1)
          have HB1 := Lib.hid (show Below w.heap.size w w1 from (Below.refl _ _).grown hgrow1 (Nat.le_refl _) (by simp [Value.ownBlock]))
          clear hown1 hgrow1
          go_wp2_with fail
          go_loopw [10, 12, 13, 43, 50] (fun u _ _ i _ wr => ∃ m : Nat, m ≤ j ∧ i = .int .i64 (m : Int) ∧ Hid (wr.ownsRow w.heap.size 5 1 u (M + k * m) (octets (b ++ octs k (l.take m)))) ∧ Hid (Below w.heap.size w wr)) (fun _ _ _ i _ _ => j - (intOf i).toNat)
          case atStart => exact ⟨0, by omega, rfl, Lib.hid (by simpa [octs] using HO1.out), HB1⟩
          case round =>
            obtain ⟨m, hm, rfl, HOWN, HBE⟩ := hrel
            by_cases hlt2 : m < j
            · obtain ⟨x, hx⟩ : ∃ x, l[m]? = some x := ⟨_, List.getElem?_eq_getElem (by rw [HN.out]; exact hlt2)⟩
              obtain ⟨ad, rfl, hcj⟩ := cell_at (HC'.out.below HBE.out) (nints_at hx)
              have hmk : k * m + k ≤ k * j := by
                have : k * (m + 1) ≤ k * j := Nat.mul_le_mul_left _ (by omega)
                rwa [Nat.mul_succ] at this
              have HX := Lib.hid (octs_take_succ k hx)
              obtain ⟨U, hU⟩ : ∃ U : Nat, (U : Int) = x % 18446744073709551616 := ⟨(x % 18446744073709551616).toNat, by omega⟩
              have hU2 : U < 18446744073709551616 := by omega
              have HU := Lib.hid hU
              have hw64 : IntKind.u64.wrap x = (U : Int) := by rw [IntKind.wrap_u64, hU]
              obtain ⟨w2, hw2⟩ : ∃ w2, w2 = wr := ⟨_, rfl⟩
              subst hw2
              clear hx hU
              go_wp2_with fail
              clear hw64 hcj
              obtain ⟨L0, hL0⟩ : ∃ L0, L0 = b ++ octs k (l.take m) := ⟨_, rfl⟩
              have HL0 := Lib.hid hL0
              have HLEN := Lib.hid (show M + k * m + k = M + k * (m + 1) by rw [Nat.mul_succ]; omega)
              rw [← hL0] at HOWN
              clear hL0
              go_loopw [10, 13, 50] (fun u t i wq => ∃ q : Nat, q ≤ k ∧ i = .int .i64 (q : Int) ∧ t = .int .u64 ((U / 256 ^ q : Nat) : Int) ∧ Hid (wq.ownsRow w.heap.size 5 1 u (M + k * m + q) (octets (L0 ++ oct q x))) ∧ Hid (Below w.heap.size w wq)) (fun _ _ i _ => k - (intOf i).toNat)
              case atStart => exact ⟨0, by omega, rfl, by simp, Lib.hid (by simpa [oct] using HOWN.out), HBE⟩
              case round =>
                obtain ⟨q, hq, rfl, rfl, HOQ, HBQ⟩ := hrel
                by_cases hlt3 : q < k
                · have HOS := Lib.hid (oct_succ q x)
                  have HUO := Lib.hid (u64_oct HU.out q (by omega))
                  have HDD := Lib.hid (show U / 256 ^ (q + 1) = U / 256 ^ q / 256 by rw [Nat.pow_succ, Nat.div_div_eq_div_mul])
                  have hVU : U / 256 ^ q ≤ U := Nat.div_le_self _ _
                  obtain ⟨V, hV⟩ : ∃ V, V = U / 256 ^ q := ⟨_, rfl⟩
                  rw [← hV] at HUO HDD hVU ⊢
                  clear hV
                  go_wp2_with (at_builtin; refine wpList_append_cells _ rfl (.tmp 52) (.tmp 56) _ rfl w.heap.size 5 i0 (.int .u8 0) 1 1 Try.underlying30 hi0 hz0 hz1 hz2 rfl (by decide) _ (M + k * m + q) _ rfl (HOQ.out.alloc _) (fun _ => True) _ 1 1 [.int .u8 ((V : Int) % 256)] rfl rfl (cells_new (cs := #[.int .u8 ((V : Int) % 256)]) (heap_alloc_new _ _) trivial) (by simp [Value.oneCell']) (by unfold maxLen; omega) (by omega) (by have := HBQ.out.size; simp; omega) ?_)
                  rintro v' w4 hown4 hgr4 -
                  have hb4 : Below w.heap.size w w4 := (HBQ.out.alloc HBQ.out.size _).grown hgr4 (by have := HBQ.out.size; simp; omega) (fun j hj => (HOQ.out.lt j hj).1)
                  have HO4 := Lib.hid hown4
                  have HB4 := Lib.hid hb4
                  clear hown4 hgr4 hb4
                  go_wp2_with fail
                  go_roundw
                  case rel =>
                    refine ⟨q + 1, by omega, by go_num, by rw [HDD.out]; simp, Lib.hid ?_, HB4⟩
                    have e : octets (L0 ++ oct (q + 1) x) = octets (L0 ++ oct q x) ++ [Value.int IntKind.u8 ((V : Int) % 256)] := by
                      rw [HOS.out, ← List.append_assoc, octets_snoc, HUO.out]
                    rw [e]
                    exact HO4.out
                  case measure => simp [intOf]; omega
                · obtain rfl : q = k := by omega
                  go_wp2_with fail
                  go_roundw
                  case rel =>
                    refine ⟨m + 1, by omega, by go_num, Lib.hid ?_, HBQ⟩
                    have h := HOQ.out
                    rw [HL0.out, List.append_assoc, ← HX.out, HLEN.out] at h
                    exact h
                  case measure => simp [intOf]; omega
            · obtain rfl : m = j := by omega
              have HT := Lib.hid (show l.take m = l by rw [← HN.out, List.take_length])
              go_wp2_with fail
              go_ret2
              refine ⟨_, by rw [HE.out]; rfl, ?_, HBE.out⟩
              rw [HE.out]
              have h := HOWN.out
              rw [HT.out] at h
              dsimp only
              rw [List.length_append, octs_length, HM.out, HN.out]
              exact h

end Go.Proofs.Ytndccdoohmgmlaa
