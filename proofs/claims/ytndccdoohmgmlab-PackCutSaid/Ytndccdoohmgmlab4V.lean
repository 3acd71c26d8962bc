/- Contract: Sum. -/
import Derived.Test.Ytndccdoohmgmlab4L
import Derived.Test.Ytndccdoohmgmlab4U
import Derived.Laws.BitsAllLaws
namespace Go.Proofs.Ytndccdoohmgmlab
open Go.RowKit Pk

theorem and_one (x : Nat) (h : x < 4294967296) : bits .and .u32 (x : Int) 1 = ((x % 2 : Nat) : Int) := by
  have := u32_and_nat x 1 h (by omega)
  rw [Nat.and_one_is_mod] at this
  exact this
theorem half_poly (x : Nat) (h : x < 4294967296) (h1 : x % 2 = 1) : bits .xor .u32 ((x : Int) / 2) 3988292384 = ((stepS x : Nat) : Int) := by
  have e := u32_xor_nat (x / 2) poly (by omega) poly_lt
  rw [stepS, if_pos h1]
  simpa [poly] using e
theorem half_plain (x : Nat) (h1 : ¬ x % 2 = 1) : (x : Int) / 2 = ((stepS x : Nat) : Int) := by
  rw [stepS, if_neg h1]
  omega

set_option maxHeartbeats 1000000 in
theorem sum_any (v : Value) (l : List UInt8) (w : World) (h : Bs w (fun _ => True) v l) :
    Calls Try.prog 21 #[v] w fun e w' => e = .returned (.int .u32 (sumS l : Nat)) ∧ w = w' := by
  obtain ⟨A, c, rfl, hc1, hc2, _, hc⟩ := h
  unfold maxLen at hc2
  have HC := Lib.hid hc
  clear hc
  generalize hL : l.length = L at *
  have HL := Lib.hid hL
  clear hL
  go_enter Try.func21, Try.ntmps21
  go_wp2_with fail
  go_loop [3, 5, 6, 9, 17] (fun r _ _ i _ => ∃ j : Nat, j ≤ L ∧ i = .int .i64 (j : Int) ∧ r = .int .u32 ((regS ones (l.take j) : Nat) : Int)) (fun _ _ _ i _ => L - (intOf i).toNat)
  case atStart => exact ⟨0, by omega, rfl, rfl⟩
  case round =>
    obtain ⟨j, hj, rfl, rfl⟩ := hrel
    by_cases hlt : j < L
    · obtain ⟨b, hb⟩ : ∃ b, l[j]? = some b := ⟨_, List.getElem?_eq_getElem (by rw [HL.out]; exact hlt)⟩
      obtain ⟨ad, rfl, hcj⟩ := cell_at HC.out (octets_at hb)
      have HN := Lib.hid (show octS (regS ones (l.take j)) b = regS ones (l.take (j + 1)) by rw [List.take_add_one, hb, Option.toList_some, regS_snoc])
      have hr := regS_lt (l.take j) ones_lt
      generalize regS ones (l.take j) = R at *
      have hbb := b.toNat_lt
      have hx : bits .xor .u32 (R : Int) (b.toNat : Int) = ((R ^^^ b.toNat : Nat) : Int) := u32_xor_nat R b.toNat hr (by omega)
      have HM := Lib.hid (fun k => manyS_lt (lt32 hr (show b.toNat < 4294967296 by omega)) k)
      have HO := Lib.hid (show octS R b = manyS 8 (R ^^^ b.toNat) from rfl)
      clear hb
      go_wp2_with fail
      clear hx hcj
      generalize R ^^^ b.toNat = X at *
      go_loop [3, 6, 17] (fun r _ i => ∃ k : Nat, k ≤ 8 ∧ i = .int .i64 (k : Int) ∧ r = .int .u32 ((manyS k X : Nat) : Int)) (fun _ _ i => 8 - (intOf i).toNat)
      case atStart => exact ⟨0, by omega, rfl, rfl⟩
      case round =>
        obtain ⟨k, hk, rfl, rfl⟩ := hrel
        by_cases hk8 : k < 8
        · have hY := HM.out k
          have HS := Lib.hid (show stepS (manyS k X) = manyS (k + 1) X from rfl)
          generalize manyS k X = Y at *
          have h1 := and_one Y hY
          by_cases ho : Y % 2 = 1
          · have h2 := half_poly Y hY ho
            have HO2 := Lib.hid ho
            rw [ho] at h1
            clear ho
            go_wp2_with fail
            go_round
            case rel => exact ⟨k + 1, by omega, by go_num, by rw [← HS.out]⟩
            case measure => simp [intOf]; omega
          · have HH := Lib.hid (half_plain Y ho)
            have h0 : Y % 2 = 0 := by omega
            rw [h0] at h1
            clear ho h0
            go_wp2_with fail
            go_round
            case rel => exact ⟨k + 1, by omega, by go_num, by rw [← HS.out, HH.out]⟩
            case measure => simp [intOf]; omega
        · obtain rfl : k = 8 := by omega
          go_wp2_with fail
          go_round
          case rel => exact ⟨j + 1, by omega, by go_num, by rw [← HN.out, HO.out]⟩
          case measure => simp [intOf]; omega
    · obtain rfl : j = L := by omega
      have HT := Lib.hid (show l.take j = l by rw [← HL.out, List.take_length])
      have hr := regS_lt (l.take j) ones_lt
      have hx : bits .xor .u32 4294967295 ((regS ones (l.take j) : Nat) : Int) = ((ones ^^^ regS ones (l.take j) : Nat) : Int) := u32_xor_nat ones _ ones_lt hr
      go_wp2_with fail
      go_ret
      exact ⟨ret_int (by rw [show IntKind.u32.max = 4294967295 from rfl, hx, HT.out]; rfl), rfl⟩

end Go.Proofs.Ytndccdoohmgmlab
