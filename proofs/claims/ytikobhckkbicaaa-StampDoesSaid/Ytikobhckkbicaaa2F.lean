/- Contracts of the reference's: Pair, Part, low. -/
import Derived.Test.Ytikobhckkbicaaa2L
import Derived.Test.YtikobhckkbicaaaYN
namespace Go.Proofs.Ytikobhckkbicaaa
open Go.RowKit Sk

set_option maxHeartbeats 400000 in
theorem refPair_any (g a : Int) (w : World) :
    Calls Try.prog 45 #[.int .i64 g, .int .i64 a] w fun e w' => e = .returned (.tuple #[.int .i64 (pair g a).1, .int .i64 (pair g a).2]) ∧ w = w' := by
  rcases pair_cases g a with q | ⟨q, _, g1, g2, a1, a2⟩
  · have hn : g < 1 ∨ (1 ≤ g ∧ 1099511627776 < g) ∨ (1 ≤ g ∧ g ≤ 1099511627776 ∧ a < 0) ∨ (1 ≤ g ∧ g ≤ 1099511627776 ∧ 0 ≤ a ∧ 1048576 ≤ a) := by
      have h : isPr g a = false := by
        cases h : isPr g a
        · rfl
        · rw [pair, h] at q
          simp at q
      have := of_decide_eq_false h
      omega
    have Q := Lib.hid q
    clear q
    rcases hn with h | ⟨h1, h2⟩ | ⟨h1, h2, h3⟩ | ⟨h1, h2, h3, h4⟩
    all_goals
      go_enter Try.func45, Try.ntmps45
      go_wp2_with fail
      go_ret2
      exact ⟨by rw [Q.out]; rfl, rfl⟩
  · have Q := Lib.hid q
    clear q
    go_enter Try.func45, Try.ntmps45
    go_wp2_with fail
    go_ret2
    exact ⟨by rw [Q.out]; rfl, rfl⟩

set_option maxHeartbeats 400000 in
theorem refPart_any (n : Int) (w : World) (hl : -9223372036854775808 ≤ n) (hu : n ≤ 9223372036854775807) :
    Calls Try.prog 47 #[.int .i64 n] w fun e w' => e = .returned (.tuple #[.int .i64 (unpair n).1, .int .i64 (unpair n).2.1, .int .i64 (unpair n).2.2]) ∧ w = w' := by
  by_cases h0 : n < 1
  · have Q := Lib.hid (show unpair n = (0, 0, 1) by
      rcases unpair_cases n with h | ⟨g, a, _, _, e, g1, _, a1, _⟩
      · exact h
      · omega)
    go_enter Try.func47, Try.ntmps47
    go_wp2_with fail
    go_ret3
    exact ⟨by rw [Q.out]; rfl, rfl⟩
  · have e1 : n.tdiv 1048576 = n / 1048576 := Int.tdiv_eq_ediv_of_nonneg (by omega)
    have e2 : n.tmod 1048576 = n % 1048576 := Int.tmod_eq_emod_of_nonneg (by omega)
    have hu1 : unpair n = if isPr (n / 1048576) (n % 1048576) then (n / 1048576, n % 1048576, 0) else (0, 0, 1) := by rw [unpair, e1, e2]
    have hb : 0 ≤ n := by omega
    by_cases h1 : n / 1048576 < 1
    · have Q := Lib.hid (show unpair n = (0, 0, 1) by rw [hu1, isPr, decide_eq_false (by omega)]; rfl)
      clear e1 e2 hu1
      go_enter Try.func47, Try.ntmps47
      go_wp2_with fail
      go_ret3
      exact ⟨by rw [Q.out]; rfl, rfl⟩
    · by_cases h2 : 1099511627776 < n / 1048576
      · have Q := Lib.hid (show unpair n = (0, 0, 1) by rw [hu1, isPr, decide_eq_false (by omega)]; rfl)
        clear e1 e2 hu1
        go_enter Try.func47, Try.ntmps47
        go_wp2_with fail
        go_ret3
        exact ⟨by rw [Q.out]; rfl, rfl⟩
      · have Q := Lib.hid (show unpair n = (n / 1048576, n % 1048576, 0) by rw [hu1, isPr, decide_eq_true (by omega)]; rfl)
        clear e1 e2 hu1
        go_enter Try.func47, Try.ntmps47
        go_wp2_with fail
        go_ret3
        exact ⟨by rw [Q.out]; rfl, rfl⟩

theorem octets_snoc (l : List UInt8) (x : UInt8) : octets (l ++ [x]) = octets l ++ [.int .u8 (x.toNat : Int)] := by simp [octets]

theorem low_succ : ∀ (k n : Nat), low (k + 1) n = low k n ++ [UInt8.ofNat (n / 256 ^ k % 256)]
  | 0, n => by simp [low]
  | k + 1, n => by
    rw [low, low_succ k (n / 256), low, List.cons_append, Nat.div_div_eq_div_mul, Nat.pow_succ, Nat.mul_comm 256]

set_option maxHeartbeats 800000 in
theorem low_any (n : Nat) (w : World) (hn : (n : Int) ≤ 9223372036854775807) :
    Calls Try.prog 66 #[.int .i64 (n : Int)] w (GivesBs (low 8 n) w) := by
  obtain ⟨i0, hi0, hz0, hz1, hz2⟩ := info_parts info8
  go_enter Try.func66, Try.ntmps66
  go_wp2_with fail
  go_loopw [0, 3, 4] (fun t u i wr => ∃ k : Nat, k ≤ 8 ∧ i = .int .i64 (k : Int) ∧ t = .int .i64 ((n / 256 ^ k : Nat) : Int) ∧ wr.ownsRow w.heap.size 5 1 u k (octets (low k n)) ∧ Below w.heap.size w wr) (fun _ _ i _ => 8 - (intOf i).toNat)
  case atStart => exact ⟨0, by omega, rfl, by simp, World.ownsRow_nil _ _ _ _, Below.refl _ _⟩
  case round =>
    obtain ⟨k, hk, rfl, rfl, hown, hbe⟩ := hrel
    have HOWN := Lib.hid hown
    have HBE := Lib.hid hbe
    clear hown hbe
    by_cases hlt : k < 8
    · have hq : ((n / 256 ^ k : Nat) : Int) ≤ 9223372036854775807 := by
        have := Nat.div_le_self n (256 ^ k)
        omega
      have HLS := Lib.hid (low_succ k n)
      have HDD := Lib.hid (show n / 256 ^ (k + 1) = n / 256 ^ k / 256 by rw [Nat.pow_succ, Nat.div_div_eq_div_mul])
      obtain ⟨m, hm⟩ : ∃ m, m = n / 256 ^ k := ⟨_, rfl⟩
      rw [← hm] at hq HLS HDD ⊢
      have HM := Lib.hid hm
      clear hm
      go_wp2_with (at_builtin; refine wpList_append_cells _ rfl (.tmp 6) (.tmp 10) _ rfl w.heap.size 5 i0 (.int .u8 0) 1 1 Try.underlying22 hi0 hz0 hz1 hz2 rfl (by decide) _ k _ rfl (HOWN.out.alloc _) (fun _ => True) _ 1 1 [.int .u8 ((m : Int) % 256)] rfl rfl (cells_new (cs := #[.int .u8 ((m : Int) % 256)]) (heap_alloc_new wr _) trivial) (by simp [Value.oneCell']) (by unfold maxLen; omega) (by omega) (by have := HBE.out.size; simp; omega) ?_)
      rintro v' w4 hown4 hgr4 -
      have hb4 : Below w.heap.size w w4 := (HBE.out.alloc HBE.out.size _).grown hgr4 (by have := HBE.out.size; simp; omega) (fun j hj => (HOWN.out.lt j hj).1)
      have HO4 := Lib.hid hown4
      have HB4 := Lib.hid hb4
      clear hown4 hgr4 hb4
      go_wp2_with fail
      refine ⟨⟨k + 1, by omega, by go_num, by rw [HDD.out]; simp, ?_, HB4.out⟩, by simp [intOf]; omega⟩
      have e : octets (low (k + 1) n) = octets (low k n) ++ [Value.int IntKind.u8 ((m : Int) % 256)] := by
        rw [HLS.out, octets_snoc]
        simp
      rw [e]
      exact HO4.out
    · obtain rfl : k = 8 := by omega
      go_wp2_with fail
      go_ret
      exact ⟨_, rfl, by rw [low_length]; exact HOWN.out, HBE.out⟩


theorem octets_append (l m : List UInt8) : octets (l ++ m) = octets l ++ octets m := by simp [octets]

set_option maxHeartbeats 1000000 in
theorem refSeal_any (n : Int) (v : Value) (p : List UInt8) (w : World) (h : Bs w (fun _ => True) v p) :
    Calls Try.prog 39 #[.int .i64 n, v] w (GivesRE w (seal_ n p)) := by
  have HP := Lib.hid h
  obtain ⟨A, c, rfl, hc1, hc2, hc3, hc⟩ := h
  unfold maxLen at hc2
  by_cases h1 : n < 1
  · have HE := Lib.hid (show seal_ n p = ([], 1) from seal_arg (decide_eq_false (by omega)))
    clear hc hc3
    generalize p.length = M at *
    go_enter Try.func39, Try.ntmps39
    go_wp2_with fail
    go_ret2
    exact ⟨_, by rw [HE.out]; rfl, by rw [HE.out]; exact World.ownsRow_nil _ _ _ _, Below.refl _ _⟩
  · by_cases h2 : 4611686018427387904 < n
    · have HE := Lib.hid (show seal_ n p = ([], 1) from seal_arg (decide_eq_false (by unfold maxStamp; omega)))
      clear hc hc3
      generalize p.length = M at *
      go_enter Try.func39, Try.ntmps39
      go_wp2_with fail
      go_ret2
      exact ⟨_, by rw [HE.out]; rfl, by rw [HE.out]; exact World.ownsRow_nil _ _ _ _, Below.refl _ _⟩
    · have hs : isSt n = true := decide_eq_true (by unfold maxStamp; omega)
      by_cases h3 : (16 : Int) < p.length
      · have HE := Lib.hid (show seal_ n p = ([], 3) from seal_long hs (by omega))
        clear hc hc3
        generalize p.length = M at *
        go_enter Try.func39, Try.ntmps39
        go_wp2_with fail
        go_ret2
        exact ⟨_, by rw [HE.out]; rfl, by rw [HE.out]; exact World.ownsRow_nil _ _ _ _, Below.refl _ _⟩
      · have h3' : p.length ≤ 16 := by omega
        have HE := Lib.hid (seal_ok hs h3')
        obtain ⟨k, rfl⟩ : ∃ k : Nat, n = (k : Int) := ⟨n.toNat, by omega⟩
        have hlow := fun W => low_any k W (by omega)
        obtain ⟨L, hL⟩ : ∃ L, L = low 8 k := ⟨_, rfl⟩
        have hmk : mk (k : Int) = L := by rw [hL, mk, Int.toNat_natCast]
        rw [← hL] at hlow
        rw [hmk] at HE
        have hll : L.length = 8 := by rw [hL, low_length]
        have HLOW := Lib.hid hlow
        have HLL := Lib.hid hll
        have HC := Lib.hid hc
        clear hlow hL hmk hll hs hc h3
        obtain ⟨i0, hi0, hz0, hz1, hz2⟩ := info_parts info8
        generalize hM : p.length = M at *
        have HM := Lib.hid hM
        clear hM
        go_enter Try.func39, Try.ntmps39
        go_wp2_with fail
        refine (HLOW.out _).mono ?_
        rintro e w1 ⟨v1, rfl, hown1, hb1⟩
        rw [HLL.out] at hown1
        have HO1 := Lib.hid hown1
        have HB1 := Lib.hid hb1
        clear hown1 hb1
        go_wp2_with (at_builtin; refine wpList_append_cells _ rfl (.tmp 17) (.tmp 18) _ rfl w.heap.size 5 i0 (.int .u8 0) 1 1 Try.underlying22 hi0 hz0 hz1 hz2 rfl (by decide) _ 8 _ rfl HO1.out (fun _ => True) _ M c (octets p) rfl (by rw [octets_length, HM.out, Nat.mul_one]) (HC.out.below HB1.out) octets_one (by unfold maxLen; omega) (by omega) HB1.out.size ?_)
        rintro v2 w2 hown2 hgr2 -
        have hb2 : Below w.heap.size w w2 := HB1.out.grown hgr2 HB1.out.size (fun j hj => (HO1.out.lt j hj).1)
        have HO2 := Lib.hid hown2
        have HB2 := Lib.hid hb2
        clear hown2 hgr2 hb2
        obtain ⟨A2, c2, hv2⟩ := own_slice HO2.out
        subst hv2
        go_wp2_with fail
        go_loopw [6] (fun u wr => ∃ (j : Nat) (A6 : Option Addr) (c6 : Nat), 8 + M ≤ j ∧ j ≤ 24 ∧ u = .slice A6 j c6 ∧ Hid (wr.ownsRow w.heap.size 5 1 (.slice A6 j c6) j (octets (L ++ p ++ zeros (j - (8 + M))))) ∧ Below w.heap.size w wr) (fun u _ => match u with | .slice _ n _ => 24 - n | _ => 0)
        case atStart => exact ⟨8 + M, A2, c2, by omega, by omega, rfl, Lib.hid (by rw [Nat.sub_self]; simpa [octets_append, zeros] using HO2.out), HB2.out⟩
        case round =>
          obtain ⟨j, A6, c6, hj1, hj2, rfl, HOWN, hbe⟩ := hrel
          have HBE := Lib.hid hbe
          clear hbe
          by_cases hlt : j < 24
          · go_wp2_with (at_builtin; refine wpList_append_cells _ rfl (.tmp 23) (.tmp 24) _ rfl w.heap.size 5 i0 (.int .u8 0) 1 1 Try.underlying22 hi0 hz0 hz1 hz2 rfl (by decide) _ j _ rfl (HOWN.out.alloc _) (fun _ => True) _ 1 1 [.int .u8 0] rfl rfl (cells_new (cs := #[.int .u8 0]) (heap_alloc_new wr _) trivial) (by simp [Value.oneCell']) (by unfold maxLen; omega) (by omega) (by have := HBE.out.size; simp; omega) ?_)
            rintro v' w4 hown4 hgr4 -
            have hb4 : Below w.heap.size w w4 := (HBE.out.alloc HBE.out.size _).grown hgr4 (by have := HBE.out.size; simp; omega) (fun j hj => (HOWN.out.lt j hj).1)
            have HO4 := Lib.hid hown4
            have HB4 := Lib.hid hb4
            clear hown4 hgr4 hb4
            obtain ⟨A4, c4, hv4⟩ := own_slice HO4.out
            subst hv4
            go_wp2_with fail
            refine ⟨⟨j + 1, A4, c4, by omega, by omega, rfl, Lib.hid ?_, HB4.out⟩, by simp; omega⟩
            have e : octets (L ++ p ++ zeros (j + 1 - (8 + M))) = octets (L ++ p ++ zeros (j - (8 + M))) ++ [Value.int IntKind.u8 0] := by
              rw [show j + 1 - (8 + M) = (j - (8 + M)) + 1 from by omega, zeros, List.replicate_succ', ← List.append_assoc, octets_snoc]
              rfl
            rw [e, List.append_assoc L p]
            exact HO4.out
          · obtain rfl : j = 24 := by omega
            go_wp2_with fail
            refine (HLOW.out _).mono ?_
            rintro e w5 ⟨v5, rfl, hown5, hb5⟩
            rw [HLL.out] at hown5
            have HO6 := Lib.hid (own_below HOWN.out hb5 fun b hb => (HOWN.out.lt b hb).2)
            have HB5 := Lib.hid (HBE.out.trans (hb5.mono HBE.out.size))
            obtain ⟨A5, c5, hv5⟩ := own_slice hown5
            subst hv5
            have HC5 := Lib.hid (own_cells (S := fun _ => True) hown5 fun _ _ => trivial)
            clear hown5 hb5
            go_wp2_with (at_builtin; refine wpList_append_cells _ rfl (.tmp 26) (.tmp 28) _ rfl w.heap.size 5 i0 (.int .u8 0) 1 1 Try.underlying22 hi0 hz0 hz1 hz2 rfl (by decide) _ 24 _ rfl HO6.out (fun _ => True) _ 8 c5 (octets L) rfl (by rw [octets_length, HLL.out]) HC5.out octets_one (by unfold maxLen; omega) (by omega) HB5.out.size ?_)
            rintro v7 w7 hown7 hgr7 -
            have hb7 : Below w.heap.size w w7 := HB5.out.grown hgr7 HB5.out.size (fun j hj => (HO6.out.lt j hj).1)
            have HO7 := Lib.hid hown7
            have HB7 := Lib.hid hb7
            clear hown7 hgr7 hb7
            go_wp2_with fail
            go_ret2
            refine ⟨_, by rw [HE.out]; rfl, ?_, HB7.out⟩
            rw [HE.out]
            have hlen : (L ++ (p ++ zeros (16 - M)) ++ L).length = 32 := by simp [HLL.out, HM.out, zeros]; omega
            rw [hlen]
            have := HO7.out
            rw [← octets_append, show 24 - (8 + M) = 16 - M from by omega] at this
            exact this

end Go.Proofs.Ytikobhckkbicaaa
