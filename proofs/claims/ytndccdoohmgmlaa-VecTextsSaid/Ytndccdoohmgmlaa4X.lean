/- Contract of the reference's: Take. -/
import Derived.Test.Ytndccdoohmgmlaa4W
namespace Go.Proofs.Ytndccdoohmgmlaa
open Go.RowKit Pk

/-- The sign of octets, the highest one last. -/
def sgn (p : List UInt8) : Int := if 2 * ule p < 256 ^ p.length then 0 else -1
/-- What a number is from its t-th octet up. -/
def part (p : List UInt8) (t : Nat) : Int := sgn p * 256 ^ (p.length - t) + (ule (p.drop t) : Int)

theorem part_all (p : List UInt8) : part p 0 = num p := by
  unfold part sgn num
  rw [List.drop_zero, Nat.sub_zero]
  split <;> omega
theorem part_end (p : List UInt8) : part p p.length = sgn p := by
  unfold part
  rw [Nat.sub_self, List.drop_length]
  simp [ule]
theorem part_step {p : List UInt8} {t : Nat} {c : UInt8} (h : p[t]? = some c) : part p t = 256 * part p (t + 1) + (c.toNat : Int) := by
  obtain ⟨hl, hc⟩ := List.getElem?_eq_some_iff.1 h
  unfold part
  rw [List.drop_eq_getElem_cons hl, hc, ule, show p.length - t = (p.length - (t + 1)) + 1 by omega, Int.pow_succ]
  generalize (256 : Int) ^ (p.length - (t + 1)) = P
  have e : sgn p * (P * 256) = 256 * (sgn p * P) := by rw [← Int.mul_assoc, Int.mul_comm]
  rw [e]
  omega

/-- The highest octet tells the sign. -/
theorem sgn_top {p : List UInt8} {c : UInt8} (h : p[p.length - 1]? = some c) : sgn p = if 128 ≤ c.toNat then -1 else 0 := by
  obtain ⟨hl, hc⟩ := List.getElem?_eq_some_iff.1 h
  have e : p = p.take (p.length - 1) ++ [c] := by
    conv => lhs; rw [← List.take_append_drop (p.length - 1) p]
    rw [List.drop_eq_getElem_cons hl, hc, List.drop_of_length_le (by omega)]
  have hlt := ule_lt (p.take (p.length - 1))
  rw [List.length_take, Nat.min_eq_left (by omega)] at hlt
  have hu : ule p = ule (p.take (p.length - 1)) + 256 ^ (p.length - 1) * c.toNat := by
    conv => lhs; rw [e]
    rw [ule_snoc, List.length_take, Nat.min_eq_left (by omega)]
  have hp : (256 : Nat) ^ p.length = 256 * 256 ^ (p.length - 1) := by rw [← Nat.pow_succ']; congr 1; omega
  unfold sgn
  rw [hu, hp]
  generalize (256 : Nat) ^ (p.length - 1) = Q at *
  have hb := c.toNat_lt
  by_cases h128 : 128 ≤ c.toNat
  · have : Q * 128 ≤ Q * c.toNat := Nat.mul_le_mul_left _ h128
    rw [if_pos h128, if_neg (by omega)]
  · have : Q * c.toNat ≤ Q * 127 := Nat.mul_le_mul_left _ (by omega)
    rw [if_neg h128, if_pos (by omega)]

theorem num_i64 {p : List UInt8} (h1 : 1 ≤ p.length) (h8 : p.length ≤ 8) : wrap64 (part p 0 % 18446744073709551616) = num p := by
  rw [part_all]
  have h := num_bounds p
  have hp : (256 : Int) ^ p.length ≤ 18446744073709551616 := by
    have := pow_mono (k := p.length) (j := 8) h8
    simpa using this
  unfold wrap64
  omega

theorem mul_step {X c : Int} (hc : 0 ≤ c ∧ c ≤ 255) : IntKind.u64.wrap (IntKind.u64.wrap (256 * (X % 18446744073709551616)) + c) = (256 * X + c) % 18446744073709551616 := by
  rw [IntKind.wrap_u64, IntKind.wrap_u64]
  omega

theorem own_full {w : World} {B B' n : Nat} {v : Value} {l : List UInt8} (h : w.ownsRow B 5 1 v n (octets l)) (hb : B' ≤ B) : w.ownsRow B' 5 1 v l.length (octets l) := by
  have hn : l.length = n := by have := h.1; rw [octets_length] at this; omega
  rw [hn]
  exact own_mono h hb

/-- The same without a sign. -/
def um (p : List UInt8) (t : Nat) : Int := part p t % 18446744073709551616
theorem um_step {p : List UInt8} {t : Nat} {c : UInt8} (h : p[t]? = some c) : IntKind.u64.wrap (IntKind.u64.wrap (256 * um p (t + 1)) + (c.toNat : Int)) = um p t := by
  have := c.toNat_lt
  unfold um
  rw [part_step h, mul_step (by omega)]
theorem um_high {p : List UInt8} {k : Nat} (h : part p k = -1) : (18446744073709551615 : Int) = um p k := by unfold um; rw [h]; rfl
theorem um_low {p : List UInt8} {k : Nat} (h : part p k = 0) : (0 : Int) = um p k := by unfold um; rw [h]; rfl

set_option maxRecDepth 10000 in
set_option maxHeartbeats 4000000 in
theorem refTake_any (v : Value) (b : List UInt8) (width n : Int) (w : World) (hb : Bs w (fun _ => True) v b) (hbl : b.length ≤ 1000000) :
    Calls Try.prog 34 #[v, .int .i64 width, .int .i64 n] w (GivesT w (take b width n)) := by
  obtain ⟨i0, hi0, hz0, hz1, hz2⟩ := info_parts info8
  obtain ⟨j0, hj0, hy0, hy1, hy2⟩ := info_parts infoI
  have HB := Lib.hid hb
  obtain ⟨A, c, rfl, hc1, hc2, hc3, hc⟩ := hb
  unfold maxLen at hc2
  clear hc hc3
  by_cases hbad : width < 1 ∨ (¬ width < 1 ∧ 8 < width) ∨ (¬ width < 1 ∧ ¬ 8 < width ∧ n < 0) ∨ (¬ width < 1 ∧ ¬ 8 < width ∧ ¬ n < 0 ∧ 65536 < n)
  · have HE := Lib.hid (take_arg (b := b) (n := n) (width := width) (decide_eq_false (fun h => by omega)))
    generalize b.length = M at *
    rcases hbad with h1 | ⟨h1, h2⟩ | ⟨h1, h2, h3⟩ | ⟨h1, h2, h3, h4⟩
    all_goals
      go_enter Try.func34, Try.ntmps34
      go_wp2_with fail
      go_ret3
      exact ⟨_, _, by rw [HE.out]; rfl, by rw [HE.out]; exact World.ownsRow_nil _ _ _ _, by rw [HE.out]; exact World.ownsRow_nil _ _ _ _, Below.refl _ _⟩
  · obtain ⟨k, rfl⟩ : ∃ k : Nat, width = (k : Int) := ⟨width.toNat, by omega⟩
    obtain ⟨m, rfl⟩ : ∃ m : Nat, n = (m : Int) := ⟨n.toNat, by omega⟩
    have k1 : 1 ≤ k := by omega
    have k8 : k ≤ 8 := by omega
    have hm : m ≤ 65536 := by omega
    clear hbad
    have hmulN : m * k ≤ m * 8 := Nat.mul_le_mul_left _ k8
    have hcast := Int.natCast_mul m k
    have hmul : (m : Int) * (k : Int) ≤ (m : Int) * 8 := by omega
    have hmul0 : (0 : Int) ≤ (m : Int) * (k : Int) := by omega
    by_cases hlt : b.length < m * k
    · have HE := Lib.hid (show take b (k : Int) (m : Int) = ([], [], 2) by
        rw [take, if_neg (by rw [takeOk, decide_eq_true (by omega)]; exact Bool.noConfusion), Int.toNat_natCast, Int.toNat_natCast, if_pos hlt])
      have hlt' : (b.length : Int) < (m : Int) * (k : Int) := by omega
      clear hcast hlt hmulN
      generalize b.length = M at *
      go_enter Try.func34, Try.ntmps34
      go_wp2_with fail
      go_ret3
      exact ⟨_, _, by rw [HE.out]; rfl, by rw [HE.out]; exact World.ownsRow_nil _ _ _ _, by rw [HE.out]; exact World.ownsRow_nil _ _ _ _, Below.refl _ _⟩
    · have HE := Lib.hid (take_ok (b := b) k1 k8 hm (by omega))
      have hge : (m : Int) * (k : Int) ≤ (b.length : Int) := by omega
      have hgeN : m * k ≤ b.length := by omega
      clear hcast hlt hmulN
      generalize hM : b.length = M at *
      have HM := Lib.hid hM
      clear hM
      go_enter Try.func34, Try.ntmps34
      go_wp2_with fail
      go_loopw [9, 10, 11, 12, 34] (fun u _ _ _ i wr => ∃ j : Nat, j ≤ m ∧ i = .int .i64 (j : Int) ∧ Hid (wr.ownsRow w.heap.size 2 1 u j (nints (nums k j b))) ∧ Hid (Below w.heap.size w wr)) (fun _ _ _ _ i _ => m - (intOf i).toNat)
      case atStart => exact ⟨0, by omega, rfl, Lib.hid (World.ownsRow_nil _ _ _ _), Lib.hid (Below.refl _ _)⟩
      case round =>
        obtain ⟨j, hj, rfl, HOWN, HBE⟩ := hrel
        by_cases hlt : j < m
        · have hA : ∃ ad, A = some ad := HB.out.some_ (by
            have : 1 * 1 ≤ m * k := Nat.mul_le_mul (by omega) k1
            omega)
          obtain ⟨ad, rfl⟩ := hA
          have q1 : (j + 1) * k ≤ m * k := Nat.mul_le_mul_right _ (by omega)
          have q2 : (j + 1) * k = j * k + k := Nat.succ_mul j k
          have c1 := Int.natCast_mul j k
          have r1 : (0 : Int) ≤ (j : Int) * (k : Int) := by omega
          have r2 : (j : Int) * (k : Int) + (k : Int) ≤ (M : Int) := by omega
          have hplen : ((b.drop (j * k)).take k).length = k := by rw [List.length_take, List.length_drop, HM.out]; omega
          have hpat : ∀ t, t < k → ((b.drop (j * k)).take k)[t]? = b[j * k + t]? := fun t ht => by rw [List.getElem?_take_of_lt ht, List.getElem?_drop]
          have HNS := Lib.hid (nums_succ k j b)
          obtain ⟨p, hp⟩ : ∃ p, p = (b.drop (j * k)).take k := ⟨_, rfl⟩
          rw [← hp] at hplen hpat HNS
          have HPL := Lib.hid hplen
          have HPA := Lib.hid hpat
          have HCE := Lib.hid (HB.out.below HBE.out).cells
          have HN64 := Lib.hid (num_i64 (p := p) (by omega) (by omega))
          obtain ⟨top, htop⟩ : ∃ top, p[k - 1]? = some top := ⟨_, List.getElem?_eq_getElem (by omega)⟩
          have hst := sgn_top (p := p) (c := top) (by rw [hplen]; exact htop)
          have hpe := part_end p
          rw [hplen, hst] at hpe
          have ktop : wr.cell? (ad.add (j * k + (k - 1))) = some (.int .u8 (top.toNat : Int)) := by
            obtain ⟨ad2, he2, hk2⟩ := cell_at HCE.out (octets_at (j := j * k + (k - 1)) (by rw [← HPA.out (k - 1) (by omega)]; exact htop))
            injection he2 with he2
            rw [he2]; exact hk2
          have htl := top.toNat_lt
          have HPE := Lib.hid hpe
          have CC := Lib.hid c1
          clear hp hplen hpat htop hst hpe q2
          have r3 : (j : Int) * (k : Int) + (k : Int) - 1 = ((j * k + (k - 1) : Nat) : Int) := by omega
          clear c1
          have HN64' := Lib.hid (show wrap64 (um p 0) = num p from HN64.out)
          by_cases h128 : 128 ≤ top.toNat
          all_goals
            first
              | (have HST := Lib.hid (um_high (p := p) (k := k) (by rw [HPE.out, if_pos h128])))
              | (have HST := Lib.hid (um_low (p := p) (k := k) (by rw [HPE.out, if_neg h128])))
            go_wp2_with fail
            go_loop [11, 12] (fun u i => ∃ t : Nat, t ≤ k ∧ i = .int .i64 ((t : Int) - 1) ∧ u = .int .u64 (um p t)) (fun _ i => (intOf i + 1).toNat)
            case atStart => exact ⟨k, by omega, by go_num, by rw [← HST.out]⟩
            case round =>
              obtain ⟨t, ht, rfl, rfl⟩ := hrel
              by_cases h0 : t = 0
              · subst h0
                go_wp2_with (at_builtin; refine wpList_append_cells _ rfl (.tmp 65) (.tmp 68) _ rfl w.heap.size 2 j0 (.int .i64 0) 1 8 Try.underlying43 hj0 hy0 hy1 hy2 rfl (by decide) _ j _ rfl (HOWN.out.alloc _) (fun _ => True) _ 1 1 [.int .i64 (wrap64 (um p 0))] rfl rfl (cells_new (cs := #[.int .i64 (wrap64 (um p 0))]) (heap_alloc_new _ _) trivial) (by simp [Value.oneCell']) (by unfold maxLen; omega) (by omega) (by have := HBE.out.size; simp; omega) ?_)
                rintro v4 w4 hown4 hgr4 -
                have hb4 : Below w.heap.size w w4 := (HBE.out.alloc HBE.out.size _).grown hgr4 (by have := HBE.out.size; simp; omega) (fun j hj => (HOWN.out.lt j hj).1)
                have HO4 := Lib.hid (show w4.ownsRow w.heap.size 2 1 v4 (j + 1) (nints (nums k (j + 1) b)) by
                  rw [HNS.out, nints_snoc, ← HN64'.out]
                  exact hown4)
                have HB4 := Lib.hid hb4
                clear hown4 hgr4 hb4
                go_wp2_with fail
                go_roundw
                case rel => exact ⟨j + 1, by omega, by go_num, HO4, HB4⟩
                case measure => simp [intOf]; omega
              · obtain ⟨s, rfl⟩ : ∃ s, t = s + 1 := ⟨t - 1, by omega⟩
                obtain ⟨x, hx⟩ : ∃ x, p[s]? = some x := ⟨_, List.getElem?_eq_getElem (by rw [HPL.out]; omega)⟩
                have hcj : wr.cell? (ad.add (j * k + s)) = some (.int .u8 (x.toNat : Int)) := by
                  obtain ⟨ad2, he2, hk2⟩ := cell_at HCE.out (octets_at (j := j * k + s) (by rw [← HPA.out s (by omega)]; exact hx))
                  injection he2 with he2
                  rw [he2]; exact hk2
                have HS := Lib.hid (um_step hx)
                have hxx := x.toNat_lt
                generalize um p (s + 1) = X at *
                have e : ((s + 1 : Nat) : Int) - 1 = (s : Int) := by omega
                rw [e]
                clear e h0 hx
                have r4 : (j : Int) * (k : Int) + (s : Int) < (M : Int) := by omega
                go_wp2_with fail
                go_round
                case rel => exact ⟨s, by omega, by go_num, by rw [← HS.out]⟩
                case measure => simp [intOf]
        · obtain rfl : j = m := by omega
          have HNL := Lib.hid (nums_length k j b)
          have hbh := (HB.out.below HBE.out).behind_ hgeN
          have HOF := Lib.hid (fun (v : Value) (W : World) (ho : wr.ownsRow w.heap.size 2 1 v j (nints (nums k j b))) (hb : Below wr.heap.size wr W) => own_numbers ho hb)
          have HDL := Lib.hid (show (b.drop (j * k)).length = M - j * k by rw [List.length_drop, HM.out])
          obtain ⟨D, hD⟩ : ∃ D, D = b.drop (j * k) := ⟨_, rfl⟩
          rw [← hD] at hbh HDL HE
          clear hD
          have HC0 := Lib.hid (show ∀ (A : Option Addr) (c : Nat), D = [] → Cells wr (fun _ => True) A (octets D) from fun A c h hn => by rw [h] at hn; simp [octets] at hn)
          rcases hbh with ⟨rfl, e1, e2, e3, hnil⟩ | ⟨ad, rfl, e1, e2, hnil⟩ | ⟨ad, rfl, hne, hlt2, htail⟩
          · have HNIL := Lib.hid hnil
            subst e1 e2
            have hjk : (j : Int) * (k : Int) = 0 := by have := Int.natCast_mul j k; omega
            clear hnil e3
            go_wp2_with (at_builtin; refine wpList_append_cells _ rfl (.const (.slice none 0 0)) (.tmp 76) _ rfl wr.heap.size 5 i0 (.int .u8 0) 1 1 Try.underlying30 hi0 hz0 hz1 hz2 rfl (by decide) (.slice none 0 0) 0 [] rfl (World.ownsRow_nil _ _ _ _) (fun _ => True) _ _ _ (octets D) rfl (by rw [octets_length, Nat.mul_one]; rw [HNIL.out]; rfl) (HC0.out _ 0 HNIL.out) octets_one (by unfold maxLen; omega) (by omega) (Nat.le_refl _) ?_)
            rintro v6 w6 hown6 hgr6 -
            have hb6 : Below wr.heap.size wr w6 := (Below.refl _ _).grown hgr6 (Nat.le_refl _) (by simp [Value.ownBlock])
            have HO6 := Lib.hid hown6
            have HB6 := Lib.hid hb6
            clear hown6 hgr6 hb6
            go_wp2_with fail
            go_ret3
            refine ⟨_, _, by rw [HE.out]; rfl, ?_, ?_, HBE.out.trans (HB6.out.mono HBE.out.size)⟩
            · rw [HE.out]
              dsimp only
              rw [HNL.out]
              exact own_numbers HOWN.out HB6.out
            · rw [HE.out]
              have h := HO6.out
              exact own_full h HBE.out.size
          · have HNIL := Lib.hid hnil
            obtain rfl : M = c := by omega
            subst e1
            clear hnil
            go_wp2_with (at_builtin; refine wpList_append_cells _ rfl (.const (.slice none 0 0)) (.tmp 76) _ rfl wr.heap.size 5 i0 (.int .u8 0) 1 1 Try.underlying30 hi0 hz0 hz1 hz2 rfl (by decide) (.slice none 0 0) 0 [] rfl (World.ownsRow_nil _ _ _ _) (fun _ => True) _ _ _ (octets D) rfl (by rw [octets_length, Nat.mul_one]; rw [HNIL.out]; rfl) (HC0.out _ 0 HNIL.out) octets_one (by unfold maxLen; omega) (by omega) (Nat.le_refl _) ?_)
            rintro v6 w6 hown6 hgr6 -
            have hb6 : Below wr.heap.size wr w6 := (Below.refl _ _).grown hgr6 (Nat.le_refl _) (by simp [Value.ownBlock])
            have HO6 := Lib.hid hown6
            have HB6 := Lib.hid hb6
            clear hown6 hgr6 hb6
            go_wp2_with fail
            go_ret3
            refine ⟨_, _, by rw [HE.out]; rfl, ?_, ?_, HBE.out.trans (HB6.out.mono HBE.out.size)⟩
            · rw [HE.out]
              dsimp only
              rw [HNL.out]
              exact own_numbers HOWN.out HB6.out
            · rw [HE.out]
              have h := HO6.out
              exact own_full h HBE.out.size
          · have HTAIL := Lib.hid htail
            have hlt3 : (j : Int) * (k : Int) < (c : Int) := by have := Int.natCast_mul j k; omega
            clear htail
            go_wp2_with (at_builtin; refine wpList_append_cells _ rfl (.const (.slice none 0 0)) (.tmp 76) _ rfl wr.heap.size 5 i0 (.int .u8 0) 1 1 Try.underlying30 hi0 hz0 hz1 hz2 rfl (by decide) (.slice none 0 0) 0 [] rfl (World.ownsRow_nil _ _ _ _) (fun _ => True) _ _ _ (octets D) rfl (by rw [octets_length, Nat.mul_one]; exact HDL.out) (HTAIL.out.cells) octets_one (by unfold maxLen; omega) (by omega) (Nat.le_refl _) ?_)
            rintro v6 w6 hown6 hgr6 -
            have hb6 : Below wr.heap.size wr w6 := (Below.refl _ _).grown hgr6 (Nat.le_refl _) (by simp [Value.ownBlock])
            have HO6 := Lib.hid hown6
            have HB6 := Lib.hid hb6
            clear hown6 hgr6 hb6
            go_wp2_with fail
            go_ret3
            refine ⟨_, _, by rw [HE.out]; rfl, ?_, ?_, HBE.out.trans (HB6.out.mono HBE.out.size)⟩
            · rw [HE.out]
              dsimp only
              rw [HNL.out]
              exact own_numbers HOWN.out HB6.out
            · rw [HE.out]
              have h := HO6.out
              exact own_full h HBE.out.size

end Go.Proofs.Ytndccdoohmgmlaa
