/- Contracts of small functions of stamps. -/
import Derived.Test.YtikobhckkbicaaaYM
import Derived.Test.Ytikobhckkbicaaa2P
import Derived.IntWalk
import Derived.Outline
import Derived.Deep.MidRow
import Derived.Test.Ytikobhckkbicaaa2B
namespace Go.Proofs.Ytikobhckkbicaaa
open Go.RowKit Sk

theorem isStamp_any (n : Int) (w : World) :
    Calls Try.prog 64 #[.int .i64 n] w fun e w' => e = .returned (.bool (isSt n)) ∧ w = w' := by
  by_cases h1 : 1 ≤ n
  · by_cases h2 : n ≤ 4611686018427387904
    · go_enter Try.func64, Try.ntmps64
      go_wp2
      go_ret
      exact ⟨ret_bool (by simp [isSt, maxStamp, h1, h2]), rfl⟩
    · go_enter Try.func64, Try.ntmps64
      go_wp2
      go_ret
      exact ⟨ret_bool (by simp [isSt, maxStamp, h1, h2]), rfl⟩
  · go_enter Try.func64, Try.ntmps64
    go_wp2
    go_ret
    exact ⟨ret_bool (decide_eq_false (by unfold maxStamp; omega)).symm, rfl⟩

theorem isPair_any (g a : Int) (w : World) :
    Calls Try.prog 68 #[.int .i64 g, .int .i64 a] w fun e w' => e = .returned (.bool (isPr g a)) ∧ w = w' := by
  by_cases h1 : 1 ≤ g
  · by_cases h2 : g ≤ 1099511627776
    · by_cases h3 : 0 ≤ a
      · by_cases h4 : a < 1048576
        · go_enter Try.func68, Try.ntmps68
          go_wp2
          go_ret
          exact ⟨ret_bool (by simp [isPr, h1, h2, h3, h4]), rfl⟩
        · go_enter Try.func68, Try.ntmps68
          go_wp2
          go_ret
          exact ⟨ret_bool (by simp [isPr, h1, h2, h3, h4]), rfl⟩
      · go_enter Try.func68, Try.ntmps68
        go_wp2
        go_ret
        exact ⟨ret_bool (by simp [isPr]; omega), rfl⟩
    · go_enter Try.func68, Try.ntmps68
      go_wp2
      go_ret
      exact ⟨ret_bool (by simp [isPr]; omega), rfl⟩
  · go_enter Try.func68, Try.ntmps68
    go_wp2
    go_ret
    exact ⟨ret_bool (by simp [isPr]; omega), rfl⟩

theorem pair_any (g a : Int) (w : World) :
    Calls Try.prog 44 #[.int .i64 g, .int .i64 a] w fun e w' => e = .returned (.tuple #[.int .i64 (pair g a).1, .int .i64 (pair g a).2]) ∧ w = w' := by
  cases h : isPr g a
  · have H := Lib.hid h
    have E := Lib.hid (show pair g a = (0, 1) by simp [pair, h])
    clear h
    go_enter Try.func44, Try.ntmps44
    go_wp2_with (go_at_call 68; refine (isPair_any _ _ _).mono ?_; rw [H.out]; rintro e w' ⟨rfl, rfl⟩)
    go_ret2
    exact ⟨by rw [E.out]; rfl, rfl⟩
  · have H := Lib.hid h
    have E := Lib.hid (show pair g a = (g * 1048576 + a, 0) by simp [pair, h])
    have hb : 1 ≤ g ∧ g ≤ 1099511627776 ∧ 0 ≤ a ∧ a < 1048576 := of_decide_eq_true h
    clear h
    obtain ⟨h1, h2, h3, h4⟩ := hb
    go_enter Try.func44, Try.ntmps44
    go_wp2_with (go_at_call 68; refine (isPair_any _ _ _).mono ?_; rw [H.out]; rintro e w' ⟨rfl, rfl⟩)
    go_ret2
    exact ⟨by rw [E.out]; rfl, rfl⟩

theorem tdiv_in {n : Int} (h : -9223372036854775808 ≤ n) (h' : n ≤ 9223372036854775807) : wrap64 (n.tdiv 1048576) = n.tdiv 1048576 := by
  refine IntWalk.wrap64_in _ ?_
  rcases Int.le_total 0 n with h0 | h0
  · rw [Int.tdiv_eq_ediv_of_nonneg h0]; omega
  · have e : n.tdiv 1048576 = -((-n) / 1048576) := by rw [← Int.tdiv_eq_ediv_of_nonneg (by omega), Int.neg_tdiv, Int.neg_neg]
    rw [e]; omega

theorem part_any (n : Int) (w : World) (hl : -9223372036854775808 ≤ n) (hu : n ≤ 9223372036854775807) :
    Calls Try.prog 46 #[.int .i64 n] w fun e w' => e = .returned (.tuple #[.int .i64 (unpair n).1, .int .i64 (unpair n).2.1, .int .i64 (unpair n).2.2]) ∧ w = w' := by
  have HW := Lib.hid (tdiv_in hl hu)
  clear hl hu
  cases h : isPr (n.tdiv 1048576) (n.tmod 1048576)
  · have H := Lib.hid h
    have E := Lib.hid (show unpair n = (0, 0, 1) by simp [unpair, h])
    clear h
    go_enter Try.func46, Try.ntmps46
    go_wp2_with fail
    rw [HW.out]
    refine (isPair_any _ _ _).mono ?_
    rw [H.out]
    rintro e w' ⟨rfl, rfl⟩
    go_wp2_with fail
    go_ret3
    exact ⟨by rw [E.out]; rfl, rfl⟩
  · have H := Lib.hid h
    have E := Lib.hid (show unpair n = (n.tdiv 1048576, n.tmod 1048576, 0) by simp [unpair, h])
    clear h
    go_enter Try.func46, Try.ntmps46
    go_wp2_with fail
    rw [HW.out]
    refine (isPair_any _ _ _).mono ?_
    rw [H.out]
    rintro e w' ⟨rfl, rfl⟩
    go_wp2_with fail
    go_ret3
    exact ⟨by rw [E.out]; rfl, rfl⟩

theorem info_mark : (Try.prog.info? 89).map (·.size) = some 8 := by kernel_rfl

theorem octets_lit {l : List UInt8} (h : l.length = 8) : ∃ y0 y1 y2 y3 y4 y5 y6 y7 : Int, (octets l).toArray = #[.int .u8 y0, .int .u8 y1, .int .u8 y2, .int .u8 y3, .int .u8 y4, .int .u8 y5, .int .u8 y6, .int .u8 y7] := by
  match l, h with
  | [a, b, c, d, e, f, g, i], _ => exact ⟨_, _, _, _, _, _, _, _, rfl⟩

theorem shr_at (n : Int) (h1 : 1 ≤ n) (j : Nat) : n / 2 ^ (8 * j) % 256 = ((n.toNat / 256 ^ j % 256 : Nat) : Int) := by
  have e : (2 : Int) ^ (8 * j) = ((256 ^ j : Nat) : Int) := by rw [Int.pow_mul]; simp
  rw [e]
  obtain ⟨m, rfl⟩ : ∃ m : Nat, n = m := ⟨n.toNat, by omega⟩
  simp

set_option maxHeartbeats 400000 in
theorem markOf_any (n : Int) (w : World) (h : isSt n = true) :
    Calls Try.prog 65 #[.int .i64 n] w fun e w' => e = .returned (.agg (octets (mk n)).toArray) ∧ Below w.heap.size w w' := by
  have hb : 1 ≤ n ∧ n ≤ 4611686018427387904 := of_decide_eq_true h
  clear h
  obtain ⟨h1, h2⟩ := hb
  go_enter Try.func65, Try.ntmps65
  go_wp2_with fail
  go_loopw [5] (fun i wr => ∃ (k : Nat) (R : Array Value), k ≤ 8 ∧ i = .int .i64 (k : Int) ∧ Below w.heap.size w wr ∧ wr.heap[w.heap.size + 1]? = some (.cells R 89 (0, 0)) ∧ w.heap.size + 1 < wr.heap.size ∧ R.size = 8 ∧ (∀ j, j < k → R[j]? = (octets (mk n))[j]?) ∧
    wr.heap[w.heap.size]? = some (.cells #[.int .u8 0, .int .u8 0, .int .u8 0, .int .u8 0, .int .u8 0, .int .u8 0, .int .u8 0, .int .u8 0] 89 (0, 0))) (fun i _ => 8 - (intOf i).toNat)
  case atStart => exact ⟨0, #[.int .u8 0, .int .u8 0, .int .u8 0, .int .u8 0, .int .u8 0, .int .u8 0, .int .u8 0, .int .u8 0], by omega, rfl, ((Below.refl _ _).alloc (Nat.le_refl _) _).alloc (by simp) _, heap_second _ _ _, by simp, by rfl, fun j hj => absurd hj (by omega), (below_new (w.alloc _) _).block w.heap.size (by simp) |>.trans (heap_alloc_new _ _)⟩
  case round =>
    obtain ⟨k, R, hk, rfl, hb, hh, hz, hs, hj, hr⟩ := hrel
    have hcc : ∀ i, wr.cell? ⟨w.heap.size + 1, i, none⟩ = R[i]? := fun i => cell_of_row wr _ i _ _ _ hh
    have hff : ∀ i, wr.frozen? ⟨w.heap.size + 1, i, none⟩ = false := fun i => by simp [World.frozen?, hh]
    have HH := Lib.hid hh
    have HJ := Lib.hid hj
    have HS := Lib.hid hs
    have HB := Lib.hid hb
    have HR := Lib.hid hr
    clear hr
    by_cases hlt : k < 8
    · obtain ⟨u, hu⟩ : ∃ u, R[k]? = some u := ⟨_, Array.getElem?_eq_getElem (by omega)⟩
      have hcell : wr.cell? ⟨w.heap.size + 1, k, none⟩ = some u := (hcc k).trans hu
      have hfz := hff k
      clear hh hj hs hb hcc hff hu
      go_wp2_with fail
      refine ⟨⟨k + 1, _, by omega, by go_num, HB.out.setCell (by simp) _, blk_set HH.out k _, by simpa using hz, by simp [HS.out], fun j hj => ?_, (blk_far (by simp) _).trans HR.out⟩, by simp [intOf]; omega⟩
      by_cases hjk : j < k
      · rw [Array.getElem?_setIfInBounds_ne (by omega)]; exact HJ.out j hjk
      · obtain rfl : j = k := by omega
        rw [Array.getElem?_setIfInBounds_self_of_lt (by rw [HS.out]; exact hlt), mk, octets_at (low_at 8 _ j hlt), shr_at n h1]
        simp
    · obtain rfl : k = 8 := by omega
      clear hh hj hs hb
      have hR : R = (octets (mk n)).toArray := by
        apply Array.ext_getElem?
        intro j
        by_cases h8 : j < 8
        · rw [HJ.out j h8, List.getElem?_toArray]
        · rw [Array.getElem?_eq_none (by rw [HS.out]; omega), List.getElem?_toArray, List.getElem?_eq_none (by rw [octets_length, mk_length]; omega)]
      obtain ⟨x0, x1, x2, x3, x4, x5, x6, x7, hx⟩ := octets_lit (mk_length n)
      have HX := Lib.hid hx
      rw [hx] at hR
      subst hR
      have e0 : wr.cell? ⟨w.heap.size, 0, none⟩ = some (.int .u8 0) := cell_of_row wr _ 0 _ _ _ HR.out
      have f0 : wr.frozen? ⟨w.heap.size, 0, none⟩ = false := by simp [World.frozen?, HR.out]
      have e1 : wr.cell? ⟨w.heap.size, 1, none⟩ = some (.int .u8 0) := cell_of_row wr _ 1 _ _ _ HR.out
      have f1 : wr.frozen? ⟨w.heap.size, 1, none⟩ = false := by simp [World.frozen?, HR.out]
      have e2 : wr.cell? ⟨w.heap.size, 2, none⟩ = some (.int .u8 0) := cell_of_row wr _ 2 _ _ _ HR.out
      have f2 : wr.frozen? ⟨w.heap.size, 2, none⟩ = false := by simp [World.frozen?, HR.out]
      have e3 : wr.cell? ⟨w.heap.size, 3, none⟩ = some (.int .u8 0) := cell_of_row wr _ 3 _ _ _ HR.out
      have f3 : wr.frozen? ⟨w.heap.size, 3, none⟩ = false := by simp [World.frozen?, HR.out]
      have e4 : wr.cell? ⟨w.heap.size, 4, none⟩ = some (.int .u8 0) := cell_of_row wr _ 4 _ _ _ HR.out
      have f4 : wr.frozen? ⟨w.heap.size, 4, none⟩ = false := by simp [World.frozen?, HR.out]
      have e5 : wr.cell? ⟨w.heap.size, 5, none⟩ = some (.int .u8 0) := cell_of_row wr _ 5 _ _ _ HR.out
      have f5 : wr.frozen? ⟨w.heap.size, 5, none⟩ = false := by simp [World.frozen?, HR.out]
      have e6 : wr.cell? ⟨w.heap.size, 6, none⟩ = some (.int .u8 0) := cell_of_row wr _ 6 _ _ _ HR.out
      have f6 : wr.frozen? ⟨w.heap.size, 6, none⟩ = false := by simp [World.frozen?, HR.out]
      have e7 : wr.cell? ⟨w.heap.size, 7, none⟩ = some (.int .u8 0) := cell_of_row wr _ 7 _ _ _ HR.out
      have f7 : wr.frozen? ⟨w.heap.size, 7, none⟩ = false := by simp [World.frozen?, HR.out]
      have c0 := hcc 0
      have c1 := hcc 1
      have c2 := hcc 2
      have c3 := hcc 3
      have c4 := hcc 4
      have c5 := hcc 5
      have c6 := hcc 6
      have c7 := hcc 7
      clear hx hcc hff HJ HS hz
      go_wp2_with fail
      refine bodyPost_ret (v := .agg #[.int .u8 x0, .int .u8 x1, .int .u8 x2, .int .u8 x3, .int .u8 x4, .int .u8 x5, .int .u8 x6, .int .u8 x7]) (by simp [results, Try.results65, go_sem, e0, e1, e2, e3, e4, e5, e6, e7]) rfl ⟨by rw [HX.out], ?_⟩
      exact (((((((HB.out.setCell (by simp) _).setCell (by simp) _).setCell (by simp) _).setCell (by simp) _).setCell (by simp) _).setCell (by simp) _).setCell (by simp) _).setCell (by simp) _

theorem stamp_any (a0 a1 a2 a3 a4 a5 a6 a7 : UInt8) (w : World) :
    Calls Try.prog 67 #[.agg #[.int .u8 (a0.toNat : Int), .int .u8 (a1.toNat : Int), .int .u8 (a2.toNat : Int), .int .u8 (a3.toNat : Int), .int .u8 (a4.toNat : Int), .int .u8 (a5.toNat : Int), .int .u8 (a6.toNat : Int), .int .u8 (a7.toNat : Int)]] w fun e w' => e = .returned (.int .i64 (val [a0, a1, a2, a3, a4, a5, a6, a7])) ∧ Below w.heap.size w w' := by
  have i0 : ∀ w, (Instr.index 89 (.agg #[.int .u8 (a0.toNat : Int), .int .u8 (a1.toNat : Int), .int .u8 (a2.toNat : Int), .int .u8 (a3.toNat : Int), .int .u8 (a4.toNat : Int), .int .u8 (a5.toNat : Int), .int .u8 (a6.toNat : Int), .int .u8 (a7.toNat : Int)]) (.int .i64 0)).run Try.prog w = .ok (.int .u8 (a0.toNat : Int)) w := fun _ => by kernel_rfl
  have b0 := a0.toNat_lt
  have i1 : ∀ w, (Instr.index 89 (.agg #[.int .u8 (a0.toNat : Int), .int .u8 (a1.toNat : Int), .int .u8 (a2.toNat : Int), .int .u8 (a3.toNat : Int), .int .u8 (a4.toNat : Int), .int .u8 (a5.toNat : Int), .int .u8 (a6.toNat : Int), .int .u8 (a7.toNat : Int)]) (.int .i64 1)).run Try.prog w = .ok (.int .u8 (a1.toNat : Int)) w := fun _ => by kernel_rfl
  have b1 := a1.toNat_lt
  have i2 : ∀ w, (Instr.index 89 (.agg #[.int .u8 (a0.toNat : Int), .int .u8 (a1.toNat : Int), .int .u8 (a2.toNat : Int), .int .u8 (a3.toNat : Int), .int .u8 (a4.toNat : Int), .int .u8 (a5.toNat : Int), .int .u8 (a6.toNat : Int), .int .u8 (a7.toNat : Int)]) (.int .i64 2)).run Try.prog w = .ok (.int .u8 (a2.toNat : Int)) w := fun _ => by kernel_rfl
  have b2 := a2.toNat_lt
  have i3 : ∀ w, (Instr.index 89 (.agg #[.int .u8 (a0.toNat : Int), .int .u8 (a1.toNat : Int), .int .u8 (a2.toNat : Int), .int .u8 (a3.toNat : Int), .int .u8 (a4.toNat : Int), .int .u8 (a5.toNat : Int), .int .u8 (a6.toNat : Int), .int .u8 (a7.toNat : Int)]) (.int .i64 3)).run Try.prog w = .ok (.int .u8 (a3.toNat : Int)) w := fun _ => by kernel_rfl
  have b3 := a3.toNat_lt
  have i4 : ∀ w, (Instr.index 89 (.agg #[.int .u8 (a0.toNat : Int), .int .u8 (a1.toNat : Int), .int .u8 (a2.toNat : Int), .int .u8 (a3.toNat : Int), .int .u8 (a4.toNat : Int), .int .u8 (a5.toNat : Int), .int .u8 (a6.toNat : Int), .int .u8 (a7.toNat : Int)]) (.int .i64 4)).run Try.prog w = .ok (.int .u8 (a4.toNat : Int)) w := fun _ => by kernel_rfl
  have b4 := a4.toNat_lt
  have i5 : ∀ w, (Instr.index 89 (.agg #[.int .u8 (a0.toNat : Int), .int .u8 (a1.toNat : Int), .int .u8 (a2.toNat : Int), .int .u8 (a3.toNat : Int), .int .u8 (a4.toNat : Int), .int .u8 (a5.toNat : Int), .int .u8 (a6.toNat : Int), .int .u8 (a7.toNat : Int)]) (.int .i64 5)).run Try.prog w = .ok (.int .u8 (a5.toNat : Int)) w := fun _ => by kernel_rfl
  have b5 := a5.toNat_lt
  have i6 : ∀ w, (Instr.index 89 (.agg #[.int .u8 (a0.toNat : Int), .int .u8 (a1.toNat : Int), .int .u8 (a2.toNat : Int), .int .u8 (a3.toNat : Int), .int .u8 (a4.toNat : Int), .int .u8 (a5.toNat : Int), .int .u8 (a6.toNat : Int), .int .u8 (a7.toNat : Int)]) (.int .i64 6)).run Try.prog w = .ok (.int .u8 (a6.toNat : Int)) w := fun _ => by kernel_rfl
  have b6 := a6.toNat_lt
  have i7 : ∀ w, (Instr.index 89 (.agg #[.int .u8 (a0.toNat : Int), .int .u8 (a1.toNat : Int), .int .u8 (a2.toNat : Int), .int .u8 (a3.toNat : Int), .int .u8 (a4.toNat : Int), .int .u8 (a5.toNat : Int), .int .u8 (a6.toNat : Int), .int .u8 (a7.toNat : Int)]) (.int .i64 7)).run Try.prog w = .ok (.int .u8 (a7.toNat : Int)) w := fun _ => by kernel_rfl
  have b7 := a7.toNat_lt
  go_enter Try.func67, Try.ntmps67
  go_wp2_with fail
  go_loop [3, 7] (fun t i => ∃ (k : Nat) (n : Int), k ≤ 8 ∧ i = .int .i64 (k : Int) ∧ t = .int .i64 n ∧ Hid (n = wrap64 (upto k [a0, a1, a2, a3, a4, a5, a6, a7]))) (fun _ i => 8 - (intOf i).toNat)
  case atStart => exact ⟨0, _, by omega, rfl, rfl, Lib.hid (by simp [upto, le, wrap64])⟩
  case round =>
    obtain ⟨k, n, hk, rfl, rfl, HN⟩ := hrel
    by_cases h0 : k = 0
    · subst h0
      go_wp2_with fail
      refine ⟨⟨1, _, by omega, rfl, rfl, Lib.hid (step_or _ 0 1 a0 (by omega) (by decide) (by decide) rfl _ _ HN.out ?_)⟩, by simp [intOf]⟩
      first | rfl | (unfold wrap64; omega)
    by_cases h1 : k = 1
    · subst h1
      go_wp2_with fail
      refine ⟨⟨2, _, by omega, rfl, rfl, Lib.hid (step_or _ 1 256 a1 (by omega) (by decide) (by decide) rfl _ _ HN.out ?_)⟩, by simp [intOf]⟩
      first | rfl | (unfold wrap64; omega)
    by_cases h2 : k = 2
    · subst h2
      go_wp2_with fail
      refine ⟨⟨3, _, by omega, rfl, rfl, Lib.hid (step_or _ 2 65536 a2 (by omega) (by decide) (by decide) rfl _ _ HN.out ?_)⟩, by simp [intOf]⟩
      first | rfl | (unfold wrap64; omega)
    by_cases h3 : k = 3
    · subst h3
      go_wp2_with fail
      refine ⟨⟨4, _, by omega, rfl, rfl, Lib.hid (step_or _ 3 16777216 a3 (by omega) (by decide) (by decide) rfl _ _ HN.out ?_)⟩, by simp [intOf]⟩
      first | rfl | (unfold wrap64; omega)
    by_cases h4 : k = 4
    · subst h4
      go_wp2_with fail
      refine ⟨⟨5, _, by omega, rfl, rfl, Lib.hid (step_or _ 4 4294967296 a4 (by omega) (by decide) (by decide) rfl _ _ HN.out ?_)⟩, by simp [intOf]⟩
      first | rfl | (unfold wrap64; omega)
    by_cases h5 : k = 5
    · subst h5
      go_wp2_with fail
      refine ⟨⟨6, _, by omega, rfl, rfl, Lib.hid (step_or _ 5 1099511627776 a5 (by omega) (by decide) (by decide) rfl _ _ HN.out ?_)⟩, by simp [intOf]⟩
      first | rfl | (unfold wrap64; omega)
    by_cases h6 : k = 6
    · subst h6
      go_wp2_with fail
      refine ⟨⟨7, _, by omega, rfl, rfl, Lib.hid (step_or _ 6 281474976710656 a6 (by omega) (by decide) (by decide) rfl _ _ HN.out ?_)⟩, by simp [intOf]⟩
      first | rfl | (unfold wrap64; omega)
    by_cases h7 : k = 7
    · subst h7
      go_wp2_with fail
      refine ⟨⟨8, _, by omega, rfl, rfl, Lib.hid (step_or _ 7 72057594037927936 a7 (by omega) (by decide) (by decide) rfl _ _ HN.out ?_)⟩, by simp [intOf]⟩
      first | rfl | (unfold wrap64; omega)
    · obtain rfl : k = 8 := by omega
      go_wp2_with fail
      go_ret
      exact ⟨ret_int (by rw [HN.out, upto, List.take_of_length_le (by simp)]; exact val_wrap _ rfl), below_new _ _⟩

end Go.Proofs.Ytikobhckkbicaaa
