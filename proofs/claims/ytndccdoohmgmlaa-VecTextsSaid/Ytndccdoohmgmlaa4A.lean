/- Contracts of small functions of layer 3. -/
import Derived.Test.YtndccdoohmgmlaaYN
import Derived.Test.Ytndccdoohmgmlaa4P
import Derived.IntWalk
import Derived.Outline
import Derived.Laws.Bits64b
namespace Go.Proofs.Ytndccdoohmgmlaa
open Go.RowKit Pk

theorem isWidth_any (n : Int) (w : World) :
    Calls Try.prog 35 #[.int .i64 n] w fun e w' => e = .returned (.bool (isW n)) ∧ w = w' := by
  by_cases h1 : 1 ≤ n
  · by_cases h2 : n ≤ 8
    · go_enter Try.func35, Try.ntmps35
      go_wp2
      go_ret
      exact ⟨ret_bool (by simp [isW, h1, h2]), rfl⟩
    · go_enter Try.func35, Try.ntmps35
      go_wp2
      go_ret
      exact ⟨ret_bool (by simp [isW, h1, h2]), rfl⟩
  · go_enter Try.func35, Try.ntmps35
    go_wp2
    go_ret
    exact ⟨ret_bool (by simp [isW]; omega), rfl⟩

/-- What is above a number's highest bit. -/
theorem fits_above {k : Nat} (h1 : 1 ≤ k) (h8 : k ≤ 8) (n : Int) : fitsB k n = (decide (n / 2 ^ (8 * k - 1) = 0) || decide (n / 2 ^ (8 * k - 1) = -1)) := by
  rw [Bool.eq_iff_iff, fitsB, decide_eq_true_eq, Bool.or_eq_true, decide_eq_true_eq, decide_eq_true_eq]
  have hk : k = 1 ∨ k = 2 ∨ k = 3 ∨ k = 4 ∨ k = 5 ∨ k = 6 ∨ k = 7 ∨ k = 8 := by omega
  rcases hk with rfl | rfl | rfl | rfl | rfl | rfl | rfl | rfl <;> omega

theorem fits_any (n : Int) (k : Nat) (w : World) (h1 : 1 ≤ k) (h8 : k ≤ 8) :
    Calls Try.prog 36 #[.int .i64 n, .int .i64 (k : Int)] w fun e w' => e = .returned (.bool (fitsB k n)) ∧ w = w' := by
  have HF := Lib.hid (fits_above h1 h8 n)
  go_enter Try.func36, Try.ntmps36
  go_wp2
  all_goals
    go_ret
    exact ⟨ret_bool (by rw [HF.out, Bool.eq_iff_iff]; first | (simp; done) | (simp; omega)), rfl⟩

/-- A number's octet. -/
theorem oct_bit (n : Int) (i : Nat) : n / 2 ^ (8 * i) % 256 = (((UInt8.ofNat (n / 256 ^ i % 256).toNat).toNat : Nat) : Int) := by
  have e : (2 : Int) ^ (8 * i) = 256 ^ i := by rw [Int.pow_mul]; rfl
  rw [e, UInt8.toNat_ofNat']
  omega

/-- The answer of a call that goes on with octets of the call's own. -/
def GoesOn (base : Nat) (l : List UInt8) (w : World) (e : Ending) (w' : World) : Prop :=
  ∃ v, e = .returned v ∧ w'.ownsRow base 5 1 v l.length (octets l) ∧ Below base w w' ∧ w.heap.size ≤ w'.heap.size

theorem octets_snoc (l : List UInt8) (x : UInt8) : octets (l ++ [x]) = octets l ++ [.int .u8 (x.toNat : Int)] := by simp [octets]
theorem octets_append (l m : List UInt8) : octets (l ++ m) = octets l ++ octets m := by simp [octets]

set_option maxHeartbeats 800000 in
theorem add_any (base : Nat) (v : Value) (l : List UInt8) (k : Nat) (n : Int) (w : World) (hk8 : k ≤ 8) (hl : l.length ≤ 1000000) (hbase : base ≤ w.heap.size) (hown : w.ownsRow base 5 1 v l.length (octets l)) :
    Calls Try.prog 37 #[v, .int .i64 (k : Int), .int .i64 n] w (GoesOn base (l ++ oct k n) w) := by
  obtain ⟨i0, hi0, hz0, hz1, hz2⟩ := info_parts info8
  have HO := Lib.hid hown
  have HL := Lib.hid (oct_length k n)
  clear hown
  go_enter Try.func37, Try.ntmps37
  go_wp2_with fail
  go_loopw [0, 7, 9] (fun u _ i wr => ∃ j : Nat, j ≤ k ∧ i = .int .i64 (j : Int) ∧ Hid (wr.ownsRow base 5 1 u (l.length + j) (octets (l ++ oct j n))) ∧ Hid (Below base w wr ∧ w.heap.size ≤ wr.heap.size)) (fun _ _ i _ => k - (intOf i).toNat)
  case atStart => exact ⟨0, by omega, rfl, Lib.hid (by simpa [oct] using HO.out), Lib.hid ⟨Below.refl _ _, Nat.le_refl _⟩⟩
  case round =>
    obtain ⟨j, hj, rfl, HOWN, HBE⟩ := hrel
    by_cases hlt : j < k
    · have HLS := Lib.hid (oct_succ j n)
      have HB := Lib.hid (oct_bit n j)
      have hj8 : j < 8 := by omega
      go_wp2_with (at_builtin; refine wpList_append_cells _ rfl (.tmp 12) (.tmp 18) _ rfl base 5 i0 (.int .u8 0) 1 1 Try.underlying30 hi0 hz0 hz1 hz2 rfl (by decide) _ (l.length + j) _ rfl (HOWN.out.alloc _) (fun _ => True) _ 1 1 [.int .u8 (n / 2 ^ (8 * j) % 256)] rfl rfl (cells_new (cs := #[.int .u8 (n / 2 ^ (8 * j) % 256)]) (heap_alloc_new wr _) trivial) (by simp [Value.oneCell']) (by unfold maxLen; omega) (by omega) (by have := HBE.out.2; simp; omega) ?_)
      rintro v' w4 hown4 hgr4 -
      have hz := hgr4.size
      have hb4 : Below base w w4 := (HBE.out.1.alloc (by have := HBE.out.2; omega) _).grown hgr4 (by have := HBE.out.2; simp; omega) (fun j hj => (HOWN.out.lt j hj).1)
      have HO4 := Lib.hid hown4
      have HB4 := Lib.hid (show Below base w w4 ∧ w.heap.size ≤ w4.heap.size from ⟨hb4, by have := HBE.out.2; simp at hz; omega⟩)
      clear hown4 hgr4 hb4 hz
      go_wp2_with fail
      refine ⟨⟨j + 1, by omega, by go_num, Lib.hid ?_, HB4⟩, by simp [intOf]; omega⟩
      have e : octets (l ++ oct (j + 1) n) = octets (l ++ oct j n) ++ [Value.int IntKind.u8 (n / 2 ^ (8 * j) % 256)] := by
        rw [HLS.out, ← List.append_assoc, octets_snoc, HB.out]
      rw [e]
      exact HO4.out
    · obtain rfl : j = k := by omega
      go_wp2_with fail
      go_ret
      exact ⟨_, rfl, by rw [List.length_append, HL.out]; exact HOWN.out, HBE.out⟩

/-- An octet more of a number. -/
theorem or_oct (l : List UInt8) (k : Nat) (b : UInt8) (hk : k < 8) (h : l[k]? = some b) (y : Int) (hy : y = IntKind.u64.wrap ((b.toNat : Int) * 2 ^ (8 * k))) :
    bits .or .u64 ((ule (l.take k) : Nat) : Int) y = ((ule (l.take (k + 1)) : Nat) : Int) := by
  have hb := b.toNat_lt
  have hl : k < l.length := (List.getElem?_eq_some_iff.1 h).1
  have e3 : l.take (k + 1) = l.take k ++ [b] := by rw [List.take_add_one, h]; rfl
  have hlt := ule_lt (l.take k)
  rw [List.length_take, Nat.min_eq_left (by omega)] at hlt
  have ep : (256 : Nat) ^ k = 2 ^ (8 * k) := by rw [Nat.pow_mul]
  have hp : (256 : Nat) ^ k ≤ 72057594037927936 := by
    have : (256 : Nat) ^ k ≤ 256 ^ 7 := Nat.pow_le_pow_right (by omega) (by omega)
    simpa using this
  have hm : b.toNat * 256 ^ k < 18446744073709551616 := by
    have : b.toNat * 256 ^ k ≤ 255 * 256 ^ k := Nat.mul_le_mul_right _ (by omega)
    omega
  have ey : y = ((b.toNat * 256 ^ k : Nat) : Int) := by
    have e : (b.toNat : Int) * 2 ^ (8 * k) = ((b.toNat * 256 ^ k : Nat) : Int) := by rw [ep]; simp
    rw [hy, e, IntWalk.u64_in _ (by omega)]
  rw [ey, bits_or_u64_nat _ _ (by omega) hm, e3, ule_snoc, List.length_take, Nat.min_eq_left (by omega)]
  congr 1
  rw [ep] at hlt ⊢
  rw [Nat.or_comm, Nat.mul_comm b.toNat, ← Nat.two_pow_add_eq_or_of_lt hlt, Nat.add_comm]

/-- Up, and down again. -/
theorem up_down (l : List UInt8) (h1 : 1 ≤ l.length) (h8 : l.length ≤ 8) (f : Nat) (hf : f = 8 * (8 - l.length)) :
    wrap64 (IntKind.u64.wrap ((ule l : Int) * 2 ^ f)) / 2 ^ f = num l := by
  have hlt := ule_lt l
  rw [IntKind.wrap_u64]
  unfold num wrap64
  have hk : l.length = 1 ∨ l.length = 2 ∨ l.length = 3 ∨ l.length = 4 ∨ l.length = 5 ∨ l.length = 6 ∨ l.length = 7 ∨ l.length = 8 := by omega
  rcases hk with h | h | h | h | h | h | h | h <;> (rw [h] at hlt hf ⊢; subst hf; simp only [Nat.reducePow, Nat.reduceSub, Nat.reduceMul] at hlt ⊢; split <;> omega)

set_option maxHeartbeats 800000 in
theorem number_any (v : Value) (l : List UInt8) (w : World) (h : Bs w (fun _ => True) v l) (h1 : 1 ≤ l.length) (h8 : l.length ≤ 8) :
    Calls Try.prog 39 #[v] w fun e w' => e = .returned (.int .i64 (num l)) ∧ w = w' := by
  obtain ⟨A, c, rfl, hc1, hc2, hc3, hc⟩ := h
  unfold maxLen at hc2
  obtain ⟨ad, rfl, _, hcell⟩ := hc (by rw [octets_length]; omega)
  have HC := Lib.hid hcell
  have HUD := Lib.hid (up_down l h1 h8)
  have HT := Lib.hid (show l.take l.length = l from List.take_length)
  clear hc hcell
  generalize hL : l.length = L at *
  have HL := Lib.hid hL
  clear hL
  go_enter Try.func39, Try.ntmps39
  go_wp2_with fail
  go_loop [3, 4, 5, 9] (fun u _ _ i => ∃ j : Nat, j ≤ L ∧ i = .int .i64 (j : Int) ∧ u = .int .u64 (ule (l.take j) : Nat)) (fun _ _ _ i => L - (intOf i).toNat)
  case atStart => exact ⟨0, by omega, rfl, by simp [ule]⟩
  case round =>
    obtain ⟨j, hj, rfl, rfl⟩ := hrel
    by_cases hlt : j < L
    · obtain ⟨b, hb⟩ : ∃ b, l[j]? = some b := ⟨_, List.getElem?_eq_getElem (by rw [HL.out]; exact hlt)⟩
      have hcj := HC.out j _ (octets_at hb)
      have HOR := Lib.hid (or_oct l j b (by omega) hb)
      have hbb := b.toNat_lt
      clear hb
      go_wp2_with fail
      go_round
      case rel => exact ⟨j + 1, by omega, by go_num, by rw [HOR.out _ rfl]⟩
      case measure => simp [intOf]; omega
    · obtain rfl : j = L := by omega
      go_wp2_with fail
      go_ret
      exact ⟨ret_int (by rw [HT.out]; exact HUD.out _ rfl), rfl⟩

end Go.Proofs.Ytndccdoohmgmlaa
