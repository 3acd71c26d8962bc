/- Contracts of the reference's: Mix, Open. -/
import Derived.Test.Ytikobhckkbicaaa2F
import Derived.Deep.QuietTactic
import Derived.BigQuiet
import Derived.Deep.RegionHeld3
import Derived.Deep.RegionLaw
namespace Go.Proofs.Ytikobhckkbicaaa
open Go.RowKit Sk

set_option maxRecDepth 4000 in
set_option maxHeartbeats 1000000 in
theorem refMix_any (vo vb : Value) (o b : List UInt8) (many : Int) (w : World) (ho : Bs w (fun _ => True) vo o) (hb : Bs w (fun _ => True) vb b) :
    Calls Try.prog 43 #[vo, vb, .int .i64 many] w (GivesRE w (mix o b many)) := by
  have HO := Lib.hid ho
  have HB := Lib.hid hb
  obtain ⟨A, c, rfl, hc1, hc2, _⟩ := ho
  obtain ⟨A', c', rfl, hc1', hc2', _⟩ := hb
  unfold maxLen at hc2 hc2'
  by_cases hk : o.length = 32 ∧ b.length = 32 ∧ 0 ≤ many ∧ many ≤ 32
  · obtain ⟨h1, h2, h3, h4⟩ := hk
    obtain ⟨k, rfl⟩ : ∃ k : Nat, many = (k : Int) := ⟨many.toNat, by omega⟩
    have hm := mix_ok h1 h2 h3 h4
    rw [Int.toNat_natCast] at hm
    have HE := Lib.hid hm
    have hl := mix_length (k := k) h1 h2 (by omega)
    have HL := Lib.hid hl
    have HN := Lib.hid h1
    have HM := Lib.hid h2
    rw [h1] at HO hc1 ⊢
    rw [h2] at HB hc1' ⊢
    clear hm hl h1 h2
    obtain ⟨ad, rfl⟩ := HO.out.some_ (by omega)
    obtain ⟨i0, hi0, hz0, hz1, hz2⟩ := info_parts info8
    have k1 : (k : Int) ≤ c := by omega
    have k2 : (k : Int) ≤ c' := by omega
    have k3 : (k : Int) ≤ 32 := by omega
    have hto : Cells w (fun _ => True) A' (octets (b.take k)) := by
      obtain ⟨A1, c1, e, _, _, _, hc⟩ := HB.out.upto_ (j := k) (by omega)
      injection e with e1 e2 e3
      subst e1
      exact hc
    have hfr : ∃ A2, (if c = k then some ad else some (ad.add k)) = A2 ∧ Cells w (fun _ => True) A2 (octets (o.drop k)) := by
      refine ⟨_, rfl, fun hn => ?_⟩
      rw [octets_length, List.length_drop, HN.out] at hn
      rw [if_neg (by omega)]
      obtain ⟨A1, c1, e, _, _, _, hc⟩ := HO.out
      injection e with e1 e2 e3
      subst e1
      obtain ⟨ad', e, hS, hcell⟩ := hc (by rw [octets_length, HN.out]; omega)
      injection e with e
      subst e
      refine ⟨_, rfl, trivial, fun j u hu => ?_⟩
      rw [add_add]
      refine hcell (k + j) u ?_
      simp only [octets, List.getElem?_map, List.getElem?_drop] at hu ⊢
      exact hu
    obtain ⟨A2, hA2, hfr⟩ := hfr
    have HTO := Lib.hid hto
    have HFR := Lib.hid hfr
    have key : (c = k ∧ k = 32 ∧ A2 = some ad) ∨ (¬ c = k ∧ A2 = some (ad.add k)) := by
      by_cases hck : c = k
      · rw [if_pos hck] at hA2
        exact .inl ⟨hck, by omega, hA2.symm⟩
      · rw [if_neg hck] at hA2
        exact .inr ⟨hck, hA2.symm⟩
    have t1 : decide ((k : Int) < 0) = false := by simp
    have t2 : decide (32 < (k : Int)) = false := by simp; omega
    have HLT := Lib.hid (show (octets (b.take k)).length = k * 1 by rw [octets_length, List.length_take, HM.out]; omega)
    have HLD := Lib.hid (show (octets (o.drop k)).length = (32 - k) * 1 by rw [octets_length, List.length_drop, HN.out]; omega)
    clear hto hfr hA2
    rcases key with ⟨rfl, rfl, rfl⟩ | ⟨hck, rfl⟩
    · have k4 : (32 : Int) ≤ c' := by omega
      have HLD := Lib.hid (show (octets (o.drop 32)).length = 0 * 1 from HLD.out)
      go_enter Try.func43, Try.ntmps43
      go_wp2_with fail
      go_region_held3 (fun w' => True) (first | go_keep)
        (first
          | (refine step_append_cells _ rfl (.const (.slice none 0 0)) (.tmp 26) 22 rfl w.heap.size 5 i0 (.int .u8 0) 1 1 Try.underlying22 hi0 hz0 hz1 hz2 rfl (by decide) (.slice none 0 0) 0 [] rfl (World.ownsRow_nil _ _ _ _) (fun _ => True) A' 32 c' (octets (List.take 32 b)) rfl HLT.out ?_ octets_one ?_ ?_ ?_ ?_
             focus (first | exact HTO.out | exact HTO.out.keep fun _ _ _ => rfl)
             focus (unfold maxLen; omega)
             focus omega
             focus (first | exact Nat.le_refl _ | simp)
             rintro v1 w1 hown1 hgr1 -
             have hb1 : Below w.heap.size w w1 := ((Below.refl _ _).drew).grown hgr1 (by simp) (fun j hj => nomatch (show (none : Option Nat) = some j from hj))
             simp only [Nat.zero_add, List.nil_append] at hown1
             obtain ⟨A1, c1, rfl⟩ := own_slice hown1
             have HO1 := Lib.hid hown1
             have HB1 := Lib.hid hb1
             clear hown1 hgr1 hb1)
          | (refine step_append_cells _ rfl (.tmp 27) (.tmp 30) 22 rfl w.heap.size 5 i0 (.int .u8 0) 1 1 Try.underlying22 hi0 hz0 hz1 hz2 rfl (by decide) (.slice A1 32 c1) 32 (octets (List.take 32 b)) rfl HO1.out (fun _ => True) (some ad) 0 0 (octets (List.drop 32 o)) rfl HLD.out (HFR.out.below HB1.out) octets_one ?_ ?_ HB1.out.size ?_
             focus (unfold maxLen; omega)
             focus omega
             rintro v2 w2 hown2 hgr2 -
             have hb2 : Below w.heap.size w w2 := HB1.out.grown hgr2 HB1.out.size (fun j hj => (HO1.out.lt j hj).1)
             obtain ⟨A2, c2, rfl⟩ := own_slice hown2
             have HO2 := Lib.hid hown2
             have HB2 := Lib.hid hb2
             clear hown2 hgr2 hb2))
      go_wp2_with fail
      go_ret2
      have h := HO2.out
      rw [← octets_append] at h
      refine ⟨_, by rw [HE.out]; rfl, ?_, HB2.out⟩
      rw [HE.out]
      dsimp only
      rw [HL.out]
      exact h
    · have k5 : k + (32 - k) = 32 := by omega
      have K5 := Lib.hid k5
      clear k5
      go_enter Try.func43, Try.ntmps43
      go_wp2_with fail
      go_region_held3 (fun w' => True) (first | go_keep)
        (first
          | (refine step_append_cells _ rfl (.const (.slice none 0 0)) (.tmp 26) 22 rfl w.heap.size 5 i0 (.int .u8 0) 1 1 Try.underlying22 hi0 hz0 hz1 hz2 rfl (by decide) (.slice none 0 0) 0 [] rfl (World.ownsRow_nil _ _ _ _) (fun _ => True) A' k c' (octets (List.take k b)) rfl HLT.out ?_ octets_one ?_ ?_ ?_ ?_
             focus (first | exact HTO.out | exact HTO.out.keep fun _ _ _ => rfl)
             focus (unfold maxLen; omega)
             focus omega
             focus (first | exact Nat.le_refl _ | simp)
             rintro v1 w1 hown1 hgr1 -
             have hb1 : Below w.heap.size w w1 := ((Below.refl _ _).drew).grown hgr1 (by simp) (fun j hj => nomatch (show (none : Option Nat) = some j from hj))
             simp only [Nat.zero_add, List.nil_append] at hown1
             obtain ⟨A1, c1, rfl⟩ := own_slice hown1
             have HO1 := Lib.hid hown1
             have HB1 := Lib.hid hb1
             clear hown1 hgr1 hb1)
          | (refine step_append_cells _ rfl (.tmp 27) (.tmp 30) 22 rfl w.heap.size 5 i0 (.int .u8 0) 1 1 Try.underlying22 hi0 hz0 hz1 hz2 rfl (by decide) (.slice A1 k c1) k (octets (List.take k b)) rfl HO1.out (fun _ => True) (some (ad.add k)) (32 - k) (c - k) (octets (List.drop k o)) rfl HLD.out (HFR.out.below HB1.out) octets_one ?_ ?_ HB1.out.size ?_
             focus (unfold maxLen; omega)
             focus omega
             rintro v2 w2 hown2 hgr2 -
             have hb2 : Below w.heap.size w w2 := HB1.out.grown hgr2 HB1.out.size (fun j hj => (HO1.out.lt j hj).1)
             rw [K5.out] at hown2
             obtain ⟨A2, c2, rfl⟩ := own_slice hown2
             have HO2 := Lib.hid hown2
             have HB2 := Lib.hid hb2
             clear hown2 hgr2 hb2))
      go_wp2_with fail
      go_ret2
      have h := HO2.out
      rw [← octets_append] at h
      refine ⟨_, by rw [HE.out]; rfl, ?_, HB2.out⟩
      rw [HE.out]
      dsimp only
      rw [HL.out]
      exact h
  · have HE := Lib.hid (mix_no hk)
    have hn := World.ownsRow_nil w w.heap.size 5 1
    clear HO HB
    generalize o.length = N at *
    generalize b.length = M at *
    have key : ((N : Int) != 32) = true ∨ (N = 32 ∧ ((M : Int) != 32) = true) ∨ (N = 32 ∧ M = 32 ∧ many < 0) ∨ (N = 32 ∧ M = 32 ∧ 32 < many) := by
      by_cases h1 : N = 32
      · by_cases h2 : M = 32
        · by_cases h3 : many < 0
          · exact .inr (.inr (.inl ⟨h1, h2, h3⟩))
          · exact .inr (.inr (.inr ⟨h1, h2, by omega⟩))
        · exact .inr (.inl ⟨h1, by simp; omega⟩)
      · exact .inl (by simp; omega)
    have HN := Lib.hid hn
    clear hk hn
    rcases key with h1 | ⟨rfl, h2⟩ | ⟨rfl, rfl, h3⟩ | ⟨rfl, rfl, h3⟩
    all_goals
      go_enter Try.func43, Try.ntmps43
      go_wp2_with fail
      go_ret2
      exact ⟨_, by rw [HE.out]; rfl, by rw [HE.out]; exact HN.out, Below.refl _ _⟩


theorem run_text_at {w : World} {S : Nat → Prop} {A : Option Addr} {n c : Nat} {l : List UInt8} (h : Bs w S (.slice A n c) l) (nq : Nat) : (convert 22 9 (.slice A n c)).run Try.prog (w.drewN nq) = .ok (.string ⟨l.toArray⟩) (w.drewN nq) :=
  run_text (h.keep (w' := w.drewN nq) fun _ _ _ => rfl)

set_option maxRecDepth 4000 in
set_option maxHeartbeats 2000000 in
theorem refOpen_any (v : Value) (b : List UInt8) (w : World) (h : Bs w (fun _ => True) v b) :
    Calls Try.prog 41 #[v] w (GivesO w (opens b)) := by
  have HB := Lib.hid h
  obtain ⟨A, c, rfl, hc1, hc2, hc3, hc⟩ := h
  unfold maxLen at hc2
  by_cases hl : b.length = 32
  · rw [hl] at HB hc1 ⊢
    have HL := Lib.hid hl
    obtain ⟨ad, rfl⟩ := HB.out.some_ (by omega)
    have hmk8 : ∀ W : World, (Instr.makeSlice 22 (.int .i64 8) (.int .i64 8)).run Try.prog W = .ok (.slice (some ⟨W.heap.size, 0, none⟩) 8 8) (W.alloc (.cells (octets (zeros 8)).toArray 5)) := run_make_u8 8 (by omega)
    obtain ⟨R0, hR0⟩ : ∃ R0, R0 = (octets (zeros 8)).toArray := ⟨_, rfl⟩
    rw [← hR0] at hmk8
    have HR0 := Lib.hid hR0
    have hbw : Bs (w.alloc (.cells R0 5)) (fun _ => True) (.slice (some ad) 32 c) b := HB.out.below (below_new _ _)
    have hz8 : Bs (w.alloc (.cells R0 5)) (fun _ => True) (.slice (some ⟨w.heap.size, 0, none⟩) 8 8) (zeros 8) := by
      rw [hR0]
      exact Bs.of_own (own_new (base := 0) (by omega) (by simp [zeros]) (by simp [maxLen]) (heap_alloc_new w _)) fun _ _ => trivial
    have tz := run_text hz8
    have th := run_text_at (hbw.upto_ (j := 8) (by omega))
    have tt := run_text_at (hbw.from_ (i := 24) (by omega) (by omega))
    have th0 := run_text (hbw.upto_ (j := 8) (by omega))
    have tt0 := run_text (hbw.from_ (i := 24) (by omega) (by omega))
    have k1 : (8 : Int) ≤ c := by omega
    have k2 : (24 : Int) ≤ c := by omega
    have k3 : ¬ c = 24 := by omega
    have k4 : ¬ c = 8 := by omega
    have hop : opens b = if b.take 8 = zeros 8 ∧ b.drop 24 = zeros 8 then (0, [], 5) else if b.take 8 ≠ b.drop 24 ∨ isSt (val (b.take 8)) = false then (0, [], 8) else (val (b.take 8), (b.drop 8).take 16, 0) := by
      unfold opens
      rw [if_neg (by simp [hl])]
    have HC := Lib.hid (show ∀ (i : Nat) (x : UInt8), b[i]? = some x → w.cell? (ad.add i) = some (.int .u8 (x.toNat : Int)) from by
      obtain ⟨ad', e, hcell⟩ := eight_cells hc hl
      injection e with e
      subst e
      exact hcell)
    have hlt : ad.block < w.heap.size := by
      have := World.block_lt_of_cell? w _ (HC.out 0 _ (List.getElem?_eq_getElem (by omega)))
      rwa [add_block] at this
    obtain ⟨x7, hx7⟩ : ∃ x, b[7]? = some x := ⟨_, List.getElem?_eq_getElem (by omega)⟩
    have c7 : w.cell? ⟨ad.block, ad.off + 7, none⟩ = some (.int .u8 (x7.toNat : Int)) := HC.out 7 x7 hx7
    have hxb := x7.toNat_lt
    have HX7 := Lib.hid (show (b.take 8)[7]? = some x7 by rw [List.getElem?_take_of_lt (by omega)]; exact hx7)
    have HHL := Lib.hid (show (b.take 8).length = 8 by rw [List.length_take]; omega)
    have HHA := Lib.hid (show ∀ i, i < 8 → (b.take 8)[i]? = b[i]? from fun i hi => List.getElem?_take_of_lt hi)
    have HOP := Lib.hid hop
    clear hR0 hbw hz8 hc hl hx7 hop
    generalize hH : b.take 8 = H at *
    generalize hT : b.drop 24 = T at *
    generalize hZ : zeros 8 = Z at *
    have HH := Lib.hid hH
    have HT := Lib.hid hT
    have HZ := Lib.hid hZ
    clear hH hT hZ
    go_enter Try.func41, Try.ntmps41
    go_wp2_with fail
    · have e1 : H = Z := by assumption
      have e2 : T = Z := by
        have h : (T == Z) = true := by assumption
        simpa using h
      go_ret3
      exact open_torn (by rw [HOP.out, if_pos ⟨e1, e2⟩]) (below_new w _)
    · have h1 : (T == Z) = false := by assumption
      have e1 : H = Z := by assumption
      have hne : ¬ T = Z := by simpa using h1
      have zq : (Z == T) = false := by simpa using fun h : Z = T => hne h.symm
      have HNE := Lib.hid hne
      have HE1 := Lib.hid e1
      clear hne
      go_quiet (fail)
      go_wp2_with fail
      go_ret3
      refine open_torn ?_ (below_drewN (below_new w _) _)
      rw [HOP.out, if_neg fun h => HNE.out h.2, if_pos (.inl fun h => HNE.out (h.symm.trans HE1.out))]
    · have hnh : ¬ H = Z := by assumption
      have HNZ := Lib.hid (show ¬ (H = Z ∧ T = Z) from fun h => hnh h.1)
      have HNH := Lib.hid hnh
      by_cases hq : H = T
      · have HQ := Lib.hid hq
        subst hq
        by_cases h7 : 64 < (x7.toNat : Int)
        · have H8 := Lib.hid (val_high HHL.out HX7.out h7)
          go_quiet (fail)
          go_wp2_with fail
          go_ret3
          refine open_torn ?_ (below_drewN (below_new w _) _)
          rw [HOP.out, if_neg HNZ.out, if_pos (.inr H8.out)]
        · have hvl := val_low HHL.out HX7.out h7
          go_quiet (fail)
          obtain ⟨hv1, hv2⟩ := hvl
          have HBX := Lib.hid (below_drewN (below_new w (.cells R0 5)) nq)
          have HCX := Lib.hid (show ∀ (i : Nat) (x : UInt8), b[i]? = some x → ((w.alloc (.cells R0 5)).drewN nq).cell? (ad.add i) = some (.int .u8 (x.toNat : Int)) from fun i x hx =>
            (HBX.out.cell (by rw [add_block]; exact hlt)).trans (HC.out i x hx))
          have HBB := Lib.hid (HB.out.below HBX.out)
          have HV := Lib.hid hv2
          generalize (w.alloc (.cells R0 5)).drewN nq = wx at *
          clear tz th tt th0 tt0 hv2
          go_wp2_with fail
          go_loop [6, 7] (fun t i => ∃ j : Nat, j ≤ 8 ∧ i = .int .i64 ((j : Int) - 1) ∧ t = .int .i64 ((le (H.drop j) : Nat) : Int)) (fun _ i => (intOf i + 1).toNat)
          case atStart => exact ⟨8, by omega, rfl, by rw [List.drop_of_length_le (by rw [HHL.out]; omega)]; rfl⟩
          case round =>
            obtain ⟨j, hj, rfl, rfl⟩ := hrel
            cases j with
            | zero =>
              rw [List.drop_zero]
              have HN := Lib.hid (show le H = 0 → H = zeros 8 from le_zero HHL.out)
              generalize hle : le H = N at *
              have hz : ((0 : Nat) : Int) - 1 = -1 := rfl
              rw [hz]
              clear hz
              by_cases hbig : 4611686018427387904 < (N : Int)
              · have H9 := Lib.hid (show isSt (val H) = false by rw [HV.out]; exact decide_eq_false (by unfold maxStamp; omega))
                go_wp2_with fail
                go_ret3
                refine open_torn ?_ HBX.out
                rw [HOP.out, if_neg HNZ.out, if_pos (.inr H9.out)]
              · have hN0 : N ≠ 0 := fun h => HNH.out ((HN.out h).trans HZ.out)
                have H9 := Lib.hid (show isSt (val H) = true by rw [HV.out]; exact decide_eq_true (by unfold maxStamp; omega))
                have HCU := Lib.hid ((HBB.out.from_ (i := 8) (by omega) (by omega)).upto_ (j := 16) (by omega)).cells
                obtain ⟨p, hp⟩ : ∃ p, p = (b.drop 8).take 16 := ⟨_, rfl⟩
                have hpl : p.length = 16 := by rw [hp, List.length_take, List.length_drop, HL.out]; rfl
                rw [← hp] at HCU
                have HP := Lib.hid hp
                have HPL := Lib.hid (show (octets p).length = 16 * 1 by rw [octets_length, hpl])
                have HPL2 := Lib.hid hpl
                obtain ⟨i0, hi0, hz0, hz1, hz2⟩ := info_parts info8
                clear hN0 hp hpl
                go_wp2_with (at_builtin; refine wpList_append_cells _ rfl (.const (.slice none 0 0)) (.tmp 54) _ rfl w.heap.size 5 i0 (.int .u8 0) 1 1 Try.underlying22 hi0 hz0 hz1 hz2 rfl (by decide) (.slice none 0 0) 0 [] rfl (World.ownsRow_nil _ _ _ _) (fun _ => True) (some ⟨ad.block, ad.off + 8, none⟩) 16 (c - 8) (octets p) rfl HPL.out HCU.out octets_one (by unfold maxLen; omega) (by omega) HBX.out.size ?_)
                rintro v' w4 hown4 hgr4 -
                have hb4 : Below w.heap.size w w4 := HBX.out.grown hgr4 HBX.out.size (fun j hj => nomatch (show (none : Option Nat) = some j from hj))
                have HO4 := Lib.hid hown4
                have HB4 := Lib.hid hb4
                clear hown4 hgr4 hb4
                go_wp2_with fail
                go_ret3
                refine ⟨v', ?_, ?_, HB4.out⟩
                · rw [HOP.out, if_neg HNZ.out, if_neg (by rw [H9.out]; simp), HV.out]
                  rfl
                · have e : (opens b).2.1 = p := by rw [HOP.out, if_neg HNZ.out, if_neg (by rw [H9.out]; simp), HP.out]
                  rw [e, HPL2.out]
                  simpa using HO4.out
            | succ m =>
              have e : (((m + 1 : Nat) : Int) - 1) = (m : Int) := by omega
              rw [e]
              clear e
              obtain ⟨x, hx⟩ : ∃ x, H[m]? = some x := ⟨_, List.getElem?_eq_getElem (by rw [HHL.out]; omega)⟩
              have hd := le_drop H m x hx
              have hdl := le_drop_le H m
              have cx := HCX.out m x (by rw [← HHA.out m (by omega)]; exact hx)
              have hxl := x.toNat_lt
              generalize le (H.drop (m + 1)) = P at *
              have hm : (m : Int) < 32 := by omega
              have hpb : 256 * (P : Int) + x.toNat ≤ 9223372036854775807 := by omega
              have HD := Lib.hid hd
              clear hd hx
              go_wp2_with fail
              go_round
              case rel => exact ⟨m, by omega, rfl, by rw [HD.out]; congr 1; omega⟩
              case measure => simp [intOf]
      · have zq : (H == T) = false := by simpa using hq
        have HQ := Lib.hid hq
        clear hq
        go_quiet (fail)
        go_wp2_with fail
        go_ret3
        refine open_torn ?_ (below_drewN (below_new w _) _)
        rw [HOP.out, if_neg HNZ.out, if_pos (.inl HQ.out)]
  · have HE := Lib.hid (show opens b = (0, [], 1) by simp [opens, hl])
    have t1 : ((b.length : Int) != 32) = true := by simp; omega
    have HN := Lib.hid (World.ownsRow_nil w w.heap.size 5 1)
    clear hl hc hc3 HB
    generalize b.length = N at *
    go_enter Try.func41, Try.ntmps41
    go_wp2_with fail
    go_ret3
    exact ⟨_, by rw [HE.out]; rfl, by rw [HE.out]; exact HN.out, Below.refl _ _⟩

end Go.Proofs.Ytikobhckkbicaaa
