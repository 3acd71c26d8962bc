/- Contracts of the program's own: Both, Not, Turn, Back. -/
import Derived.Test.Ytjohknpjkcbjlaa7A
import Derived.Deep.RegionHeld3
namespace Go.Proofs.Ytjohknpjkcbjlaa
open Go.RowKit Pk Vc Tw Fl

theorem bot_snoc : ∀ (k a b : Nat), bot (k + 1) a b = bot k a b + (a / 4 ^ k % 4 + b / 4 ^ k % 4) % 4 * 4 ^ k
  | 0, a, b => by simp [bot]
  | k + 1, a, b => by
    have h := bot_snoc k (a / 4) (b / 4)
    have h1 : bot (k + 1 + 1) a b = (a % 4 + b % 4) % 4 + 4 * bot (k + 1) (a / 4) (b / 4) := rfl
    have h2 : bot (k + 1) a b = (a % 4 + b % 4) % 4 + 4 * bot k (a / 4) (b / 4) := rfl
    have e1 : a / 4 ^ (k + 1) = a / 4 / 4 ^ k := by rw [Nat.pow_succ, Nat.mul_comm (4 ^ k), Nat.div_div_eq_div_mul]
    have e2 : b / 4 ^ (k + 1) = b / 4 / 4 ^ k := by rw [Nat.pow_succ, Nat.mul_comm (4 ^ k), Nat.div_div_eq_div_mul]
    rw [h1, h, h2, e1, e2]
    generalize (a / 4 / 4 ^ k % 4 + b / 4 / 4 ^ k % 4) % 4 = d
    rw [Nat.mul_add, Nat.pow_succ, Nat.mul_left_comm, Nat.mul_comm 4 (4 ^ k), Nat.add_assoc]
theorem nt_snoc : ∀ (k a : Nat), nt (k + 1) a = nt k a + (4 - a / 4 ^ k % 4) % 4 * 4 ^ k
  | 0, a => by simp [nt]
  | k + 1, a => by
    have h := nt_snoc k (a / 4)
    have h1 : nt (k + 1 + 1) a = (4 - a % 4) % 4 + 4 * nt (k + 1) (a / 4) := rfl
    have h2 : nt (k + 1) a = (4 - a % 4) % 4 + 4 * nt k (a / 4) := rfl
    have e1 : a / 4 ^ (k + 1) = a / 4 / 4 ^ k := by rw [Nat.pow_succ, Nat.mul_comm (4 ^ k), Nat.div_div_eq_div_mul]
    rw [h1, h, h2, e1]
    generalize (4 - a / 4 / 4 ^ k % 4) % 4 = d
    rw [Nat.mul_add, Nat.pow_succ, Nat.mul_left_comm, Nat.mul_comm 4 (4 ^ k), Nat.add_assoc]
/-- An or of a number, and of a multiple of a power of four that it is below. -/
theorem or_four {x d k : Nat} (hx : x < 4 ^ k) (h : x + d * 4 ^ k < 9223372036854775808) : bits .or .i64 (x : Int) ((d * 4 ^ k : Nat) : Int) = ((x + d * 4 ^ k : Nat) : Int) := by
  have e4 : (4 : Nat) ^ k = 2 ^ (2 * k) := by rw [Nat.pow_mul]
  rw [e4] at hx h ⊢
  have e : (BitVec.ofInt 64 (x : Int) ||| BitVec.ofInt 64 ((d * 2 ^ (2 * k) : Nat) : Int)).toNat = x + d * 2 ^ (2 * k) := by
    rw [BitVec.toNat_or, BitVec.ofInt_natCast, BitVec.ofInt_natCast, BitVec.toNat_ofNat, BitVec.toNat_ofNat, Nat.mod_eq_of_lt (by omega), Nat.mod_eq_of_lt (by omega), Nat.or_comm, Nat.mul_comm d, ← Nat.two_pow_add_eq_or_of_lt hx, Nat.add_comm]
  have e0 : bits .or .i64 (x : Int) ((d * 2 ^ (2 * k) : Nat) : Int) = IntKind.i64.wrap ((BitVec.ofInt 64 (x : Int) ||| BitVec.ofInt 64 ((d * 2 ^ (2 * k) : Nat) : Int)).toNat : Int) := rfl
  rw [e0, e, IntKind.wrap_i64]
  generalize x + d * 2 ^ (2 * k) = m at *
  omega
theorem pow_low {k : Nat} (h : k ≤ 31) : 4 ^ k ≤ 4611686018427387904 := by
  have h2 : 4 ^ k ≤ 4 ^ 31 := Nat.pow_le_pow_right (by omega) h
  rwa [show (4 : Nat) ^ 31 = 4611686018427387904 by decide] at h2

set_option maxHeartbeats 2000000 in
theorem both_any (a b : Int) (w : World) : Calls Try.prog 15 #[.int .i64 a, .int .i64 b] w (GivesI w (both a b)) := by
  have HMA := Lib.hid (fun W => isWay_any a W)
  have HMB := Lib.hid (fun W => isWay_any b W)
  cases ea : okW a
  · have HE := Lib.hid (both_no (b := b) (.inl ea))
    rw [ea] at HMA
    clear ea
    go_enter Try.func15, Try.ntmps15
    go_wp2_with fail
    refine (HMA.out _).mono ?_
    rintro e w' ⟨rfl, rfl⟩
    go_wp2_with fail
    go_ret2
    exact ⟨by rw [HE.out]; rfl, Below.refl _ _⟩
  · cases eb : okW b
    · have HE := Lib.hid (both_no (a := a) (.inr eb))
      rw [ea] at HMA
      rw [eb] at HMB
      clear ea eb
      go_enter Try.func15, Try.ntmps15
      go_wp2_with fail
      refine (HMA.out _).mono ?_
      rintro e w' ⟨rfl, rfl⟩
      go_wp2_with fail
      refine (HMB.out _).mono ?_
      rintro e w' ⟨rfl, rfl⟩
      go_wp2_with fail
      go_ret2
      exact ⟨by rw [HE.out]; rfl, Below.refl _ _⟩
    · rw [ea] at HMA
      rw [eb] at HMB
      obtain ⟨n, rfl, hn⟩ := okW_yes ea
      obtain ⟨m, rfl, hm⟩ := okW_yes eb
      have HE := Lib.hid (both_ok hn hm)
      rw [show (4 : Nat) ^ 31 = 4611686018427387904 by decide] at hn hm
      have HDA := Lib.hid (fun i (hi : i < 31) W => digit_any n i W hn hi)
      have HDB := Lib.hid (fun i (hi : i < 31) W => digit_any m i W hm hi)
      clear ea eb hn hm
      go_enter Try.func15, Try.ntmps15
      go_wp2_with fail
      refine (HMA.out _).mono ?_
      rintro e w' ⟨rfl, rfl⟩
      go_wp2_with fail
      refine (HMB.out _).mono ?_
      rintro e w' ⟨rfl, rfl⟩
      go_wp2_with fail
      go_loop [6, 7, 16] (fun y _ i => ∃ j : Nat, j ≤ 31 ∧ i = .int .i64 (j : Int) ∧ y = .int .i64 ((bot j n m : Nat) : Int)) (fun _ _ i => 31 - (intOf i).toNat)
      case atStart => exact ⟨0, by omega, rfl, rfl⟩
      case round =>
        obtain ⟨j, hj, rfl, rfl⟩ := hrel
        by_cases hlt : j < 31
        · have hb := bot_lt j n m
          have hsn := bot_snoc j n m
          have hl := bot_lt (j + 1) n m
          have hpw := pow_low (k := j + 1) (by omega)
          have HP := Lib.hid (fun W => placed_any (n / 4 ^ j % 4 + m / 4 ^ j % 4) j W (by omega) hlt)
          have HOR := Lib.hid (or_four (x := bot j n m) (d := (n / 4 ^ j % 4 + m / 4 ^ j % 4) % 4) hb (by omega))
          have HSN := Lib.hid hsn
          have HD1 := Lib.hid (HDA.out j hlt)
          have HD2 := Lib.hid (HDB.out j hlt)
          have b1 : n / 4 ^ j % 4 < 4 := Nat.mod_lt _ (by omega)
          have b2 : m / 4 ^ j % 4 < 4 := Nat.mod_lt _ (by omega)
          clear hb hsn hl hpw
          rw [← HSN.out] at HOR
          generalize n / 4 ^ j % 4 = p at *
          generalize m / 4 ^ j % 4 = q at *
          generalize (p + q) % 4 * 4 ^ j = z at *
          generalize bot j n m = x at *
          go_wp2_with fail
          refine (HD1.out _).mono ?_
          rintro e w' ⟨rfl, rfl⟩
          go_wp2_with fail
          refine (HD2.out _).mono ?_
          rintro e w' ⟨rfl, rfl⟩
          go_wp2_with fail
          refine (HP.out _).mono ?_
          rintro e w' ⟨rfl, rfl⟩
          go_wp2_with fail
          go_round
          case rel => exact ⟨j + 1, by omega, by go_num, by rw [HOR.out]⟩
          case measure => simp [intOf]; omega
        · obtain rfl : j = 31 := by omega
          go_wp2_with fail
          go_ret2
          exact ⟨by rw [HE.out]; rfl, Below.refl _ _⟩

set_option maxHeartbeats 2000000 in
theorem not_any (a : Int) (w : World) : Calls Try.prog 17 #[.int .i64 a] w (GivesI w (nott a)) := by
  have HMA := Lib.hid (fun W => isWay_any a W)
  cases ea : okW a
  · have HE := Lib.hid (nott_no ea)
    rw [ea] at HMA
    clear ea
    go_enter Try.func17, Try.ntmps17
    go_wp2_with fail
    refine (HMA.out _).mono ?_
    rintro e w' ⟨rfl, rfl⟩
    go_wp2_with fail
    go_ret2
    exact ⟨by rw [HE.out]; rfl, Below.refl _ _⟩
  · rw [ea] at HMA
    obtain ⟨n, rfl, hn⟩ := okW_yes ea
    have HE := Lib.hid (nott_ok hn)
    rw [show (4 : Nat) ^ 31 = 4611686018427387904 by decide] at hn
    have HDA := Lib.hid (fun i (hi : i < 31) W => digit_any n i W hn hi)
    clear ea hn
    go_enter Try.func17, Try.ntmps17
    go_wp2_with fail
    refine (HMA.out _).mono ?_
    rintro e w' ⟨rfl, rfl⟩
    go_wp2_with fail
    go_loop [4, 5, 9] (fun y _ i => ∃ j : Nat, j ≤ 31 ∧ i = .int .i64 (j : Int) ∧ y = .int .i64 ((nt j n : Nat) : Int)) (fun _ _ i => 31 - (intOf i).toNat)
    case atStart => exact ⟨0, by omega, rfl, rfl⟩
    case round =>
      obtain ⟨j, hj, rfl, rfl⟩ := hrel
      by_cases hlt : j < 31
      · have hb := nt_lt j n
        have hsn := nt_snoc j n
        have hl := nt_lt (j + 1) n
        have hpw := pow_low (k := j + 1) (by omega)
        have hp := fun W => placed_any (4 - n / 4 ^ j % 4) j W (by omega) hlt
        have HOR := Lib.hid (or_four (x := nt j n) (d := (4 - n / 4 ^ j % 4) % 4) hb (by omega))
        have HSN := Lib.hid hsn
        have HD1 := Lib.hid (HDA.out j hlt)
        have b1 : n / 4 ^ j % 4 < 4 := Nat.mod_lt _ (by omega)
        have e1 : ((4 - n / 4 ^ j % 4 : Nat) : Int) = 4 - ((n / 4 ^ j % 4 : Nat) : Int) := by omega
        rw [e1] at hp
        have HP := Lib.hid hp
        clear hb hsn hl hpw hp e1
        rw [← HSN.out] at HOR
        generalize n / 4 ^ j % 4 = p at *
        generalize (4 - p) % 4 * 4 ^ j = z at *
        generalize nt j n = x at *
        go_wp2_with fail
        refine (HD1.out _).mono ?_
        rintro e w' ⟨rfl, rfl⟩
        go_wp2_with fail
        refine (HP.out _).mono ?_
        rintro e w' ⟨rfl, rfl⟩
        go_wp2_with fail
        go_round
        case rel => exact ⟨j + 1, by omega, by go_num, by rw [HOR.out]⟩
        case measure => simp [intOf]; omega
      · obtain rfl : j = 31 := by omega
        go_wp2_with fail
        go_ret2
        exact ⟨by rw [HE.out]; rfl, Below.refl _ _⟩

set_option maxRecDepth 10000 in
set_option maxHeartbeats 4000000 in
theorem turn_any (v : Value) (l : List Int) (a : Int) (w : World) (h : Vs w (fun _ => True) v l) (hs : Small l) : Calls Try.prog 11 #[v, .int .i64 a] w (GivesV w (turn l a)) := by
  have HCK := Lib.hid (chk_any v l w h)
  have HMA := Lib.hid (fun W => isWay_any a W)
  have HV := Lib.hid h
  obtain ⟨A, c, rfl, hc1, hc2, _⟩ := h
  unfold maxLen at hc2
  cases hk : okV l
  · have HE := Lib.hid (turn_no (w := a) (.inl hk))
    rw [chk_no hk] at HCK
    clear hk HV
    generalize l.length = L at *
    go_enter Try.func11, Try.ntmps11
    go_wp2_with fail
    refine HCK.out.mono ?_
    rintro e w' ⟨rfl, rfl⟩
    go_wp2_with fail
    go_ret2
    exact ⟨_, by rw [HE.out]; rfl, by rw [HE.out]; exact World.ownsRow_nil _ _ _ _, Below.refl _ _⟩
  · cases ea : okW a
    · have HE := Lib.hid (turn_no (v := l) (.inr ea))
      rw [chk_ok hk] at HCK
      rw [ea] at HMA
      clear hk ea HV
      generalize l.length = L at *
      go_enter Try.func11, Try.ntmps11
      go_wp2_with fail
      refine HCK.out.mono ?_
      rintro e w' ⟨rfl, rfl⟩
      go_wp2_with fail
      refine (HMA.out _).mono ?_
      rintro e w' ⟨rfl, rfl⟩
      go_wp2_with fail
      go_ret2
      exact ⟨_, by rw [HE.out]; rfl, by rw [HE.out]; exact World.ownsRow_nil _ _ _ _, Below.refl _ _⟩
    · rw [ea] at HMA
      obtain ⟨n, rfl, hn⟩ := okW_yes ea
      have HE := Lib.hid (turn_ok hk hn)
      rw [show (4 : Nat) ^ 31 = 4611686018427387904 by decide] at hn
      have HDA := Lib.hid (fun i (hi : i < 31) W => digit_any n i W hn hi)
      rw [chk_ok hk] at HCK
      obtain ⟨o1, o2, o3⟩ := okV_yes hk
      have HCP := Lib.hid (clone_any _ l w HV.out o1 (by omega))
      have HIN := Lib.hid (show In l from fun x hx => ⟨o3 x hx, (hs x hx).2⟩)
      have HTL := Lib.hid (fun k => trn_length k n l)
      clear hk ea hn hs o3
      generalize hL : l.length = L at *
      have HL := Lib.hid hL
      clear hL
      obtain ⟨ad, rfl⟩ := HV.out.some_ (by omega)
      have hbd : ad.block < w.heap.size := by
        obtain ⟨ad', e1, _, hcv⟩ := HV.out.cells (by rw [nshorts_length, HL.out]; omega)
        injection e1 with e1
        subst e1
        have := World.block_lt_of_cell? w _ (hcv 0 _ (List.getElem?_eq_getElem (by rw [nshorts_length, HL.out]; omega)))
        rwa [add_block] at this
      go_enter Try.func11, Try.ntmps11
      go_wp2_with fail
      refine HCK.out.mono ?_
      rintro e w' ⟨rfl, rfl⟩
      go_wp2_with fail
      refine (HMA.out _).mono ?_
      rintro e w' ⟨rfl, rfl⟩
      go_wp2_with fail
      refine HCP.out.mono ?_
      rintro e w1 ⟨u1, rfl, ho1, hb1⟩
      obtain ⟨A1, c1, rfl⟩ := own_slice ho1
      obtain ⟨g, rfl, hg, hgc, -⟩ := own_at ho1 (by omega)
      have HO1 := Lib.hid ho1
      have HB1 := Lib.hid hb1
      clear ho1 hb1
      go_wp2_with fail
      all_goals
        go_loopw [7, 22] (fun _ i wr => ∃ j : Nat, j ≤ 31 ∧ 2 * j ≤ L ∧ i = .int .i64 (j : Int) ∧ Hid (wr.ownsRow w.heap.size 33 1 (.slice (some ⟨g, 0, none⟩) L c1) L (nshorts (trn j n l))) ∧ Hid (Below w.heap.size w wr)) (fun _ i _ => 31 - (intOf i).toNat)
        case atStart => exact ⟨0, by omega, by omega, rfl, Lib.hid (by rw [trn_zero]; exact HO1.out), HB1⟩
        case round =>
          obtain ⟨j, hj, hjl, rfl, HX, HBE⟩ := hrel
          by_cases hlt : j < 31 ∧ 2 * j + 1 < L
          · obtain ⟨hl1, hl2⟩ := hlt
            have hl3 : (j : Int) < (L : Int) / 2 := by omega
            obtain ⟨x, hx⟩ : ∃ x, l[2 * j]? = some x := ⟨_, List.getElem?_eq_getElem (by rw [HL.out]; omega)⟩
            obtain ⟨y, hy⟩ : ∃ y, l[2 * j + 1]? = some y := ⟨_, List.getElem?_eq_getElem (by rw [HL.out]; omega)⟩
            have bx := HIN.out x (List.mem_of_getElem? hx)
            have by_ := HIN.out y (List.mem_of_getElem? hy)
            have hVr := HV.out.below HBE.out
            have hc := hVr.cells
            obtain ⟨ad', e1, _, hcv⟩ := hc (by rw [nshorts_length, HL.out]; omega)
            injection e1 with e1
            subst e1
            have k1 := hcv _ _ (nshorts_at hx)
            have k2 := hcv _ _ (nshorts_at hy)
            have hST := trn_step j n l x y hx hy
            obtain ⟨g', e1, -, -, kx⟩ := own_at HX.out (by omega)
            injection e1 with e1
            injection e1 with e1
            subst e1
            obtain ⟨cp, fp⟩ := kx (2 * j) _ (nshorts_at (by rw [trn_rest _ _ _ _ (Nat.le_refl _)]; exact hx))
            obtain ⟨cq, fq⟩ := kx (2 * j + 1) _ (nshorts_at (by rw [trn_rest _ _ _ _ (by omega)]; exact hy))
            have hd : n / 4 ^ j % 4 < 4 := Nat.mod_lt _ (by omega)
            have HD := Lib.hid (HDA.out j hl1)
            have HT := Lib.hid (fun W => turned_any x y (n / 4 ^ j % 4) W bx by_ hd)
            have hX2 := own_set HX.out (k := 2 * j) (.int .i16 (rot (n / 4 ^ j % 4) (x, y)).1)
            have hX3 := own_set hX2 (k := 2 * j + 1) (.int .i16 (rot (n / 4 ^ j % 4) (x, y)).2)
            rw [nshorts_set, nshorts_set, ← hST] at hX3
            have HX3 := Lib.hid hX3
            have HB3 := Lib.hid ((HBE.out.setCell (p := ⟨g, 2 * j, none⟩) hg (.int .i16 (rot (n / 4 ^ j % 4) (x, y)).1)).setCell (p := ⟨g, 2 * j + 1, none⟩) hg (.int .i16 (rot (n / 4 ^ j % 4) (x, y)).2))
            clear hVr hc hcv kx hx hy hX2 hX3 hST
            generalize (rot (n / 4 ^ j % 4) (x, y)).1 = p at *
            generalize (rot (n / 4 ^ j % 4) (x, y)).2 = q at *
            generalize n / 4 ^ j % 4 = d at *
            have f1 : (2 : Int) * (j : Int) < (L : Int) := by omega
            have f2 : (2 : Int) * (j : Int) + 1 < (L : Int) := by omega
            have f3 : (0 : Int) ≤ 2 * (j : Int) := by omega
            have f4 : (0 : Int) ≤ 2 * (j : Int) + 1 := by omega
            have f5 : IntKind.i64.wrap (2 * (j : Int)) = 2 * (j : Int) := by rw [IntKind.wrap_i64]; omega
            have f6 : IntKind.i64.wrap (2 * (j : Int) + 1) = 2 * (j : Int) + 1 := by rw [IntKind.wrap_i64]; omega
            have e0 : 2 * j = (2 * (j : Int)).toNat := by omega
            have e1 : 2 * j + 1 = (2 * (j : Int) + 1).toNat := by omega
            rw [e1] at k2 cq fq
            rw [e0] at k1 cp fp
            clear e0 e1
            have hne : ∀ i k, (⟨g, k, none⟩ : Addr) ≠ ad.add i := fun i k e => by
              have : g = ad.block := (congrArg Addr.block e).trans (add_block ad i)
              omega
            have HKP := Lib.hid (show ∀ (W : World) (k : Nat), (W.cell? (ad.add (2 * (j : Int)).toNat) = some (.int .i16 x) ∧ W.cell? (ad.add (2 * (j : Int) + 1).toNat) = some (.int .i16 y)) → ∀ u, ((W.setCell ⟨g, k, none⟩ u).cell? (ad.add (2 * (j : Int)).toNat) = some (.int .i16 x) ∧ (W.setCell ⟨g, k, none⟩ u).cell? (ad.add (2 * (j : Int) + 1).toNat) = some (.int .i16 y)) from fun W k h u => ⟨(World.cell?_setCell_other W _ _ u (hne _ _)).trans h.1, (World.cell?_setCell_other W _ _ u (hne _ _)).trans h.2⟩)
            clear hne
            go_wp2_with fail
            go_region_held3 (fun w' => w'.cell? (ad.add (2 * (j : Int)).toNat) = some (.int .i16 x) ∧ w'.cell? (ad.add (2 * (j : Int) + 1).toNat) = some (.int .i16 y)) (first | exact ⟨k1, k2⟩ | exact HKP.out _ _ ⟨k1, k2⟩ _ | exact HKP.out _ _ (HKP.out _ _ ⟨k1, k2⟩ _) _ | go_keep)
              (first
                | (go_at_call 27; refine (HD.out _).mono ?_; rintro e w1 ⟨rfl, rfl⟩)
                | (go_at_call 26; refine (HT.out _).mono ?_; rintro e w1 ⟨rfl, rfl⟩))
            go_wp2_with fail
            go_roundw
            case rel => exact ⟨j + 1, by omega, by omega, by go_num, Lib.hid HX3.out, Lib.hid HB3.out.drew⟩
            case measure => simp [intOf]; omega
          · have HF := Lib.hid (show trn 31 n l = trn j n l by
              by_cases h : L ≤ 2 * j + 1
              · exact trn_fuel j 31 n l (by rw [HL.out]; exact h) hj
              · have : j = 31 := by omega
                rw [this])
            first
              | have hend : (L : Int) / 2 ≤ (j : Int) := by omega
              | obtain rfl : j = 31 := by omega
            clear hlt
            go_wp2_with fail
            go_ret2
            rw [HE.out]
            try rw [HF.out]
            refine ⟨_, rfl, ?_, HBE.out⟩
            dsimp only
            rw [HTL.out]
            exact HX.out

set_option maxHeartbeats 800000 in
theorem back_any (v : Value) (l : List Int) (a : Int) (w : World) (h : Vs w (fun _ => True) v l) (hs : Small l) : Calls Try.prog 13 #[v, .int .i64 a] w (GivesV w (back l a)) := by
  have HN := Lib.hid (not_any a w)
  cases ea : okW a
  · rw [nott_no ea] at HN
    have HE := Lib.hid (back_no (v := l) ea)
    obtain ⟨A, c, rfl⟩ := h.form
    clear h hs ea
    generalize l.length = L at *
    go_enter Try.func13, Try.ntmps13
    go_wp2_with fail
    refine HN.out.mono ?_
    rintro e w1 ⟨rfl, hb⟩
    have HB := Lib.hid hb
    clear hb
    go_wp2_with fail
    go_ret2
    exact ⟨_, by rw [HE.out]; rfl, by rw [HE.out]; exact World.ownsRow_nil _ _ _ _, HB.out⟩
  · obtain ⟨n, rfl, hn⟩ := okW_yes ea
    rw [nott_ok hn] at HN
    have HE := Lib.hid (back_ok (v := l) hn)
    have HT := Lib.hid (fun W (hb : Below w.heap.size w W) => turn_any v l ((nt 31 n : Nat) : Int) W (h.below hb) hs)
    rw [← HE.out] at HT
    obtain ⟨A, c, rfl⟩ := h.form
    clear h hs ea hn
    generalize l.length = L at *
    generalize ((nt 31 n : Nat) : Int) = m at *
    generalize back l (n : Int) = r at *
    go_enter Try.func13, Try.ntmps13
    go_wp2_with fail
    refine HN.out.mono ?_
    rintro e w1 ⟨rfl, hb⟩
    have HB := Lib.hid hb
    clear hb
    go_wp2_with fail
    refine (HT.out _ HB.out).mono ?_
    rintro e w2 ⟨u, rfl, ho, hb2⟩
    have HO := Lib.hid (own_mono ho HB.out.size)
    have HB2 := Lib.hid (HB.out.trans (hb2.mono HB.out.size))
    clear ho hb2
    go_wp2_with fail
    go_ret2
    exact ⟨u, rfl, HO.out, HB2.out⟩

end Go.Proofs.Ytjohknpjkcbjlaa
