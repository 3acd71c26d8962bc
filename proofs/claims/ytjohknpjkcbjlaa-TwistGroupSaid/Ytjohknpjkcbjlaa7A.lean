/- Contracts: isWay, digit, placed, power, turned; slices.Clone over numbers of sixteen bits. -/
import Derived.Test.Ytjohknpjkcbjlaa7G
import Derived.Test.Ytjohknpjkcbjlaa7U
import Derived.IntWalk
namespace Go.Proofs.Ytjohknpjkcbjlaa
open Go.RowKit Pk Vc Tw Fl

theorem isWay_any (x : Int) (w : World) : Calls Try.prog 24 #[.int .i64 x] w fun e w' => e = .returned (.bool (okW x)) ∧ w = w' := by
  by_cases h1 : 0 ≤ x
  · by_cases h2 : x ≤ 4611686018427387903
    all_goals
      go_enter Try.func24, Try.ntmps24
      go_wp2
      go_ret
      exact ⟨ret_bool (by simp [okW, h1, h2]), rfl⟩
  · go_enter Try.func24, Try.ntmps24
    go_wp2
    go_ret
    exact ⟨ret_bool (by simp [okW]; omega), rfl⟩

theorem four_pow (i : Nat) : ((4 ^ i : Nat) : Int) = 2 ^ (2 * i) := by
  have e : (4 : Nat) ^ i = 2 ^ (2 * i) := by rw [Nat.pow_mul]
  rw [e]
  simp

set_option maxHeartbeats 800000 in
theorem digit_any (n i : Nat) (w : World) (hn : n < 4611686018427387904) (hi : i < 31) :
    Calls Try.prog 27 #[.int .i64 (n : Int), .int .i64 (i : Int)] w fun e w' => e = .returned (.int .i64 ((n / 4 ^ i % 4 : Nat) : Int)) ∧ w = w' := by
  go_enter Try.func27, Try.ntmps27
  go_wp2_with fail
  go_ret
  refine ⟨ret_int ?_, rfl⟩
  have e : (n : Int) / 2 ^ (2 * i) = ((n / 4 ^ i : Nat) : Int) := by rw [← four_pow]; exact (Int.natCast_ediv n (4 ^ i)).symm
  show ((n : Int) / 2 ^ (2 * i)).tmod 4 = _
  rw [e]
  rfl

set_option maxHeartbeats 800000 in
theorem placed_any (m i : Nat) (w : World) (hm : m < 100) (hi : i < 31) :
    Calls Try.prog 31 #[.int .i64 (m : Int), .int .i64 (i : Int)] w fun e w' => e = .returned (.int .i64 ((m % 4 * 4 ^ i : Nat) : Int)) ∧ w = w' := by
  go_enter Try.func31, Try.ntmps31
  go_wp2_with fail
  go_ret
  refine ⟨ret_int ?_, rfl⟩
  have h4 : m % 4 * 4 ^ i < 4611686018427387904 := by
    have h1 : m % 4 * 4 ^ i ≤ 3 * 4 ^ i := Nat.mul_le_mul_right _ (by omega)
    have h2 : 4 ^ (i + 1) ≤ 4 ^ 31 := Nat.pow_le_pow_right (by omega) (by omega)
    rw [show (4 : Nat) ^ 31 = 4611686018427387904 by decide, Nat.pow_succ] at h2
    have h3 := Nat.two_pow_pos (2 * i)
    have h5 : 0 < 4 ^ i := by rw [Nat.pow_mul] at h3; exact h3
    omega
  have e : (m : Int) % 4 * 2 ^ (2 * i) = ((m % 4 * 4 ^ i : Nat) : Int) := by rw [← four_pow, Int.natCast_mul]; rfl
  show wrap64 ((m : Int) % 4 * 2 ^ (2 * i)) = _
  rw [e]
  exact IntWalk.wrap64_in _ (by generalize m % 4 * 4 ^ i = q at *; omega)

set_option maxHeartbeats 800000 in
theorem power_any (n : Nat) (w : World) (hn : n < 100) :
    Calls Try.prog 39 #[.int .i64 (n : Int)] w fun e w' => ∃ re im, e = .returned (.complex .f64 re im) ∧ IsZ re (rot n (1, 0)).1 ∧ IsZ im (rot n (1, 0)).2 ∧ w = w' := by
  go_enter Try.func39, Try.ntmps39
  go_wp2_with fail
  go_loop [3, 5] (fun z i => ∃ (j re im : Nat), j ≤ n ∧ i = .int .i64 (j : Int) ∧ z = .complex .f64 re im ∧ Hid (IsZ re (rot j (1, 0)).1 ∧ IsZ im (rot j (1, 0)).2)) (fun _ i => n - (intOf i).toNat)
  case atStart => exact ⟨0, _, _, by omega, rfl, rfl, Lib.hid ⟨isZ_one, isZ_zero⟩⟩
  case round =>
    obtain ⟨j, re, im, hj, rfl, rfl, HZ⟩ := hrel
    by_cases hlt : j < n
    · obtain ⟨r2, i2, hm, hz⟩ := rot_next HZ.out
      have hop := fun t w => run_complex_mul (P := Try.prog) w t re im 0 4607182418800017408 r2 i2 hm
      go_wp2_with (simp only [hop])
      go_round
      case rel => exact ⟨j + 1, r2, i2, by omega, by go_num, rfl, Lib.hid hz⟩
      case measure => simp [intOf]; omega
    · obtain rfl : j = n := by omega
      go_wp2_with fail
      go_ret
      exact ⟨re, im, rfl, HZ.out.1, HZ.out.2, rfl⟩

set_option maxHeartbeats 800000 in
theorem turned_any (x y : Int) (n : Nat) (w : World) (hx : -32767 ≤ x ∧ x ≤ 32767) (hy : -32767 ≤ y ∧ y ≤ 32767) (hn : n < 4) :
    Calls Try.prog 26 #[.int .i16 x, .int .i16 y, .int .i64 (n : Int)] w fun e w' => e = .returned (.tuple #[.int .i16 (rot n (x, y)).1, .int .i16 (rot n (x, y)).2]) ∧ w = w' := by
  have HP := Lib.hid (fun W => power_any n W (by omega))
  have HX := Lib.hid (isZ_of_int (z := x) (by omega))
  have HY := Lib.hid (isZ_of_int (z := y) (by omega))
  have hr := rot_low (m := n) (by omega) hx hy
  obtain ⟨p, hp⟩ : ∃ p, p = (rot n (x, y)).1 := ⟨_, rfl⟩
  obtain ⟨q, hq⟩ : ∃ q, q = (rot n (x, y)).2 := ⟨_, rfl⟩
  rw [← hp, ← hq] at hr
  have HPQ := Lib.hid (And.intro hp hq)
  clear hp hq
  go_enter Try.func26, Try.ntmps26
  go_wp2_with fail
  refine (HP.out _).mono ?_
  rintro e w' ⟨re, im, rfl, h1, h2, rfl⟩
  obtain ⟨r2, i2, hm, hz1, hz2⟩ := rot_by hx hy HX.out HY.out ⟨h1, h2⟩
  clear h1 h2
  rw [← HPQ.out.1] at hz1
  rw [← HPQ.out.2] at hz2
  have HZ := Lib.hid hz1
  have HI := Lib.hid hz2
  clear hz1 hz2
  have hop := fun t w => run_complex_mul (P := Try.prog) w t _ _ re im r2 i2 hm
  have hc1 : ∀ w, (convert 52 33 (.float .f64 r2)).run Try.prog w = .ok (.int .i16 p) w := fun w => run_convert_float_int w 52 33 .f64 .i16 r2 p (by rw [Try.underlying52]; rfl) Try.underlying33 (isZ_int .i16 HZ.out (by simp [IntKind.min, IntKind.max, IntKind.signed, IntKind.bits]; omega))
  have hc2 : ∀ w, (convert 52 33 (.float .f64 i2)).run Try.prog w = .ok (.int .i16 q) w := fun w => run_convert_float_int w 52 33 .f64 .i16 i2 q (by rw [Try.underlying52]; rfl) Try.underlying33 (isZ_int .i16 HI.out (by simp [IntKind.min, IntKind.max, IntKind.signed, IntKind.bits]; omega))
  go_wp2_with (simp only [hop, hc1, hc2])
  go_ret2
  exact ⟨by rw [← HPQ.out.1, ← HPQ.out.2]; rfl, rfl⟩

set_option maxHeartbeats 800000 in
theorem clone_any (v : Value) (l : List Int) (w : World) (h : Vs w (fun _ => True) v l) (h1 : 1 ≤ l.length) (hl : l.length ≤ 1000000) :
    Calls Try.prog 25 #[v] w fun e w' => ∃ u, e = .returned u ∧ w'.ownsRow w.heap.size 33 1 u l.length (nshorts l) ∧ Below w.heap.size w w' := by
  obtain ⟨i0, hi0, hz0, hz1, hz2⟩ := info_parts infoV
  obtain ⟨A, c, rfl, hc1, hc2, _, hc⟩ := h
  obtain ⟨ad, rfl, _⟩ := hc (by rw [nshorts_length]; omega)
  have HC := Lib.hid hc
  have HLN := Lib.hid (nshorts_length l)
  have H1 := Lib.hid (nshorts_one (l := l))
  clear hc
  generalize l.length = L at *
  have he : ∀ W : World, (binOp .eql 23 (.slice (some ad) L c) (.slice none 0 0)).run Try.prog W = .ok (.bool false) W := fun W => Lib.run_eql_slice_nil W 23 33 (some ad) L c 0 0 Try.underlying23
  go_enter Try.func25, Try.ntmps25
  go_wp2_with (at_builtin; refine wpList_append_cells _ rfl _ _ _ rfl w.heap.size 33 i0 (.int .i16 0) 1 2 Try.underlying23 hi0 hz0 hz1 hz2 rfl (by decide) _ 0 [] rfl ?c0 (fun _ => True) _ _ _ (nshorts l) rfl (by rw [HLN.out, Nat.mul_one]) ?c1 H1.out ?c2 ?c3 ?c4 ?_)
  case c0 => exact World.ownsRow_made w #[] 0 (Nat.le_refl _) (by simp [maxLen]) rfl
  case c1 => exact HC.out.below (below_new _ _)
  case c2 => unfold maxLen; omega
  case c3 => omega
  rintro v1 w1 hown1 hgr1 -
  have HB1 := Lib.hid (((Below.refl w.heap.size w).alloc (Nat.le_refl _) _).grown hgr1 (by simp) (by simp [Value.ownBlock]))
  have HO1 := Lib.hid (show w1.ownsRow w.heap.size 33 1 v1 L (nshorts l) by simpa using hown1)
  clear hown1 hgr1
  go_wp2_with fail
  go_ret
  exact ⟨_, rfl, HO1.out, HB1.out⟩

end Go.Proofs.Ytjohknpjkcbjlaa
