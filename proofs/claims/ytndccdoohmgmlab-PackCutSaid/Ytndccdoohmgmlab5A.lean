/- Contracts of the reference's: Sum, List. -/
import Derived.Test.Ytndccdoohmgmlab4V
import Derived.Test.Ytndccdoohmgmlab4X
import Derived.Test.Ytndccdoohmgmlab4Y
namespace Go.Proofs.Ytndccdoohmgmlab
open Go.RowKit Pk

set_option maxHeartbeats 1000000 in
theorem refSum_any (v : Value) (l : List UInt8) (w : World) (h : Bs w (fun _ => True) v l) :
    Calls Try.prog 22 #[v] w fun e w' => e = .returned (.int .u32 (sumS l : Nat)) ∧ w = w' := by
  obtain ⟨A, c, rfl, hc1, hc2, _, hc⟩ := h
  unfold maxLen at hc2
  have HC := Lib.hid hc
  clear hc
  generalize hL : l.length = L at *
  have HL := Lib.hid hL
  clear hL
  go_enter Try.func22, Try.ntmps22
  go_wp2_with fail
  go_loop [3, 5, 6, 7, 10, 14] (fun r _ _ _ i _ => ∃ j : Nat, j ≤ L ∧ i = .int .i64 (j : Int) ∧ r = .int .u32 ((regS ones (l.take j) : Nat) : Int)) (fun _ _ _ _ i _ => L - (intOf i).toNat)
  case atStart => exact ⟨0, by omega, rfl, rfl⟩
  case round =>
    obtain ⟨j, hj, rfl, rfl⟩ := hrel
    by_cases hlt : j < L
    · obtain ⟨b, hb⟩ : ∃ b, l[j]? = some b := ⟨_, List.getElem?_eq_getElem (by rw [HL.out]; exact hlt)⟩
      obtain ⟨ad, rfl, hcj⟩ := cell_at HC.out (octets_at hb)
      have HN := Lib.hid (show octS (regS ones (l.take j)) b = regS ones (l.take (j + 1)) by rw [List.take_add_one, hb, Option.toList_some, regS_snoc])
      have hr := regS_lt (l.take j) ones_lt
      generalize regS ones (l.take j) = R at *
      have hbb := b.toNat_lt
      have HM := Lib.hid (fun k => bitS_lt b.toNat hr k)
      have HO := Lib.hid (octS_bitS R b)
      have HBB := Lib.hid hbb
      clear hb
      go_wp2_with fail
      clear hcj
      go_loop [3, 6, 7, 14] (fun r _ _ i => ∃ k : Nat, k ≤ 8 ∧ i = .int .i64 (k : Int) ∧ r = .int .u32 ((bitS b.toNat k R : Nat) : Int)) (fun _ _ _ i => 8 - (intOf i).toNat)
      case atStart => exact ⟨0, by omega, rfl, rfl⟩
      case round =>
        obtain ⟨k, hk, rfl, rfl⟩ := hrel
        by_cases hk8 : k < 8
        · have hY := HM.out k
          have HS := Lib.hid (show (if bitS b.toNat k R % 2 = b.toNat / 2 ^ k % 2 then bitS b.toNat k R / 2 else bitS b.toNat k R / 2 ^^^ poly) = bitS b.toNat (k + 1) R from rfl)
          generalize bitS b.toNat k R = Y at *
          have hZ : b.toNat / 2 ^ k ≤ b.toNat := Nat.div_le_self _ _
          have hz : ((b.toNat : Int) / 2 ^ k) = ((b.toNat / 2 ^ k : Nat) : Int) := by simp
          have HZ := Lib.hid hz
          by_cases ho : Y % 2 = b.toNat / 2 ^ k % 2
          · have t1 : (((Y : Int) % 2) != ((b.toNat : Int) / 2 ^ k) % 2) = false := by rw [hz]; simp; omega
            have HH := Lib.hid (show (Y : Int) / 2 = ((bitS b.toNat (k + 1) R : Nat) : Int) by rw [← HS.out, if_pos ho]; omega)
            clear ho hz hZ
            go_wp2_with fail
            go_round
            case rel => exact ⟨k + 1, by omega, by go_num, by rw [HH.out]⟩
            case measure => simp [intOf]; omega
          · have t1 : (((Y : Int) % 2) != ((b.toNat : Int) / 2 ^ k) % 2) = true := by rw [hz]; simp; omega
            have hx : bits .xor .u32 ((Y : Int) / 2) 3988292384 = ((bitS b.toNat (k + 1) R : Nat) : Int) := by
              have e := u32_xor_nat (Y / 2) poly (by omega) poly_lt
              rw [← HS.out, if_neg ho]
              simpa [poly] using e
            clear ho hz hZ
            go_wp2_with fail
            go_round
            case rel => exact ⟨k + 1, by omega, by go_num, rfl⟩
            case measure => simp [intOf]; omega
        · obtain rfl : k = 8 := by omega
          go_wp2_with fail
          go_round
          case rel => exact ⟨j + 1, by omega, by go_num, by rw [← HN.out, HO.out]⟩
          case measure => simp [intOf]; omega
    · obtain rfl : j = L := by omega
      have HT := Lib.hid (show l.take j = l by rw [← HL.out, List.take_length])
      have hr := regS_lt (l.take j) ones_lt
      have HX := Lib.hid (ones_sub hr)
      generalize hR : regS ones (l.take j) = R at *
      have HR := Lib.hid hR
      clear hR
      go_wp2_with fail
      go_ret
      exact ⟨ret_int (by
        have e : ((sumS l : Nat) : Int) = ((ones - R : Nat) : Int) := by rw [HX.out, ← HR.out, HT.out]; rfl
        rw [e]
        unfold ones
        omega), rfl⟩

end Go.Proofs.Ytndccdoohmgmlab
