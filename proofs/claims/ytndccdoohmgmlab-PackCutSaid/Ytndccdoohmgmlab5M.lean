/- The law PackCut, walked. -/
import Derived.Test.Ytndccdoohmgmlab5L
namespace Go.Proofs.Ytndccdoohmgmlab
open Go.RowKit Pk

theorem lst_each : ∀ (l : List (List UInt8)), 4 * l.length ≤ (lst l).length ∧ ∀ t ∈ l, t.length ≤ (lst l).length
  | [] => ⟨by simp, fun t h => by simp at h⟩
  | t :: r => by
    obtain ⟨h1, h2⟩ := lst_each r
    have e : (lst (t :: r)).length = 4 + t.length + (lst r).length := by rw [lst, List.length_append, List.length_append, oct_length]
    refine ⟨by rw [e]; simp; omega, fun s hs => ?_⟩
    rcases List.mem_cons.1 hs with rfl | hs
    · omega
    · have := h2 s hs; omega
theorem cut_list (b : List UInt8) : (∃ e, e ≠ 0 ∧ cutp b = ([], e)) ∨ (∃ P, cutp b = (P, 0) ∧ lst P = b ∧ b.length ≤ 65536) := by
  by_cases hl : 65536 < b.length
  · exact .inl ⟨3, by omega, by rw [cutp, if_pos hl]⟩
  · cases hc : cutA b with
    | none => exact .inl ⟨2, by omega, by rw [cutp, if_neg hl, hc]⟩
    | some P => exact .inr ⟨P, by rw [cutp, if_neg hl, hc], lst_cutA _ _ _ (Nat.le_refl _) hc, by omega⟩
theorem list_list (l : List (List UInt8)) : (∃ e, e ≠ 0 ∧ listp l = ([], e)) ∨ (listp l = (lst l, 0) ∧ (lst l).length ≤ 65536) := by
  by_cases h : 65536 < (lst l).length
  · exact .inl ⟨3, by omega, listp_long h⟩
  · exact .inr ⟨listp_ok (by omega), by omega⟩

theorem ts_of_row {w : World} {base : Nat} {v : Value} {xs : List Value} {l : List (List UInt8)} (h1 : w.ownsRow base 22 1 v l.length xs) (h2 : TsCells w (fun _ => True) xs l) : Ts w (fun _ => True) v l := by
  rcases h1.2 with ⟨rfl, h0⟩ | ⟨g, cap, cur, rfl, hg, hh, hc, hm, hs, ht⟩
  · exact ⟨none, 0, xs, by rw [h0], by omega, by simp [maxLen], fun _ => rfl, h2, fun hl => by rw [h1.1] at hl; omega⟩
  · exact ⟨some ⟨g, 0, none⟩, cap, xs, rfl, hc, hm, (fun h => by cases h), h2, fun _ => ⟨_, rfl, trivial, h1.cells rfl⟩⟩
theorem ts_cells {w : World} {A : Option Addr} {n c : Nat} {l : List (List UInt8)} (h : Ts w (fun _ => True) (.slice A n c) l) : ∃ xs, TsCells w (fun _ => True) xs l ∧ Cells w (fun _ => True) A xs := by
  obtain ⟨A', c', xs, he, _, _, _, h5, h6⟩ := h
  injection he with e1 e2 e3
  subst e1
  exact ⟨xs, h5, h6⟩

set_option maxRecDepth 10000 in
set_option maxHeartbeats 4000000 in
theorem packCut_any (vl vm vb : Value) (l m : List (List UInt8)) (b : List UInt8) (w : World) (hl : Ts w (fun _ => True) vl l) (hm : Ts w (fun _ => True) vm m) (hb : Bs w (fun _ => True) vb b)
    (htl : ∀ t ∈ l, t.length ≤ 140737488355328) (htm : ∀ t ∈ m, t.length ≤ 140737488355328) :
    Calls Try.prog 6 #[vl, vm, vb] w (True_ w) := by
  obtain ⟨i0, hi0, hz0, hz1, hz2⟩ := info_parts info8
  obtain ⟨j0, hj0, hy0, hy1, hy2⟩ := info_parts infoT
  have HLIVE := Lib.hid (live3_any w)
  have HL := Lib.hid hl
  have HM := Lib.hid hm
  have HB := Lib.hid hb
  obtain ⟨A, c, xs, rfl, hc1, hc2, _⟩ := hl
  obtain ⟨A', c', ys, rfl, hd1, hd2, _⟩ := hm
  obtain ⟨A'', c'', rfl, he1, he2, _⟩ := hb
  unfold maxLen at hc2 hd2 he2
  by_cases hg : 100 < l.length ∨ 100 < m.length ∨ 2000 < b.length
  · clear htl htm
    generalize l.length = L at *
    generalize m.length = M at *
    generalize b.length = K at *
    have hg' : (decide ((100 : Int) < (L : Int)) || decide ((100 : Int) < (M : Int)) || decide ((2000 : Int) < (K : Int))) = true := by
      rcases hg with h | h | h
      · rw [decide_eq_true (show (100 : Int) < (L : Int) by omega)]; simp
      · rw [decide_eq_true (show (100 : Int) < (M : Int) by omega)]; simp
      · rw [decide_eq_true (show (2000 : Int) < (K : Int) by omega)]; simp
    go_enter Try.func6, Try.ntmps6
    by_cases q1 : (100 : Int) < (L : Int)
    · go_wp2_with fail
      refine HLIVE.out.mono ?_
      rintro e w1 ⟨rfl, hb1⟩
      have HB1 := Lib.hid hb1
      clear hb1
      go_wp2_with fail
      go_ret
      exact ⟨rfl, HB1.out⟩
    · by_cases q2 : (100 : Int) < (M : Int)
      · go_wp2_with fail
        refine HLIVE.out.mono ?_
        rintro e w1 ⟨rfl, hb1⟩
        have HB1 := Lib.hid hb1
        clear hb1
        go_wp2_with fail
        go_ret
        exact ⟨rfl, HB1.out⟩
      · have q3 : (2000 : Int) < (K : Int) := by omega
        go_wp2_with fail
        refine HLIVE.out.mono ?_
        rintro e w1 ⟨rfl, hb1⟩
        have HB1 := Lib.hid hb1
        clear hb1
        go_wp2_with fail
        go_ret
        exact ⟨rfl, HB1.out⟩
  · have q1 : ¬ (100 : Int) < (l.length : Int) := by omega
    have q2 : ¬ (100 : Int) < (m.length : Int) := by omega
    have q3 : ¬ (2000 : Int) < (b.length : Int) := by omega
    have HP1 := Lib.hid (fun W (hb : Below w.heap.size w W) => list_any _ l W (HL.out.below hb) (by omega) htl)
    have HP2 := Lib.hid (fun W (hb : Below w.heap.size w W) => list_any _ m W (HM.out.below hb) (by omega) htm)
    have HP3 := Lib.hid (fun W (hb : Below w.heap.size w W) => cut_any _ b W (HB.out.below hb) (by omega))
    clear htl htm
    rcases cut_list b with ⟨e, he, hp⟩ | ⟨P, hp, hlb, hb65⟩
    · rw [hp] at HP3
      have t1 : (e == 0) = false := by simpa using he
      clear hp he
      generalize hLL : l.length = L at *
      generalize hMM : m.length = M at *
      generalize hKK : b.length = K at *
      have HLL := Lib.hid hLL
      have HMM := Lib.hid hMM
      have HKK := Lib.hid hKK
      clear hLL hMM hKK
      go_enter Try.func6, Try.ntmps6
      go_wp2_with fail
      refine HLIVE.out.mono ?_
      rintro e w1 ⟨rfl, hb1⟩
      have HB1 := Lib.hid hb1
      clear hb1
      go_wp2_with fail
      refine (HP3.out _ HB1.out).mono ?_
      rintro e w4 ⟨v4, rfl, ho4, hb4⟩
      dsimp only at ho4 ⊢
      obtain ⟨A4, c4, xs4, rfl, _⟩ := ho4.reads
      have HB4 := Lib.hid (HB1.out.trans (hb4.mono HB1.out.size))
      clear ho4 hb4
      go_wp2_with fail
      have HLM := Lib.hid (list_list m)
      rcases list_list l with ⟨f1, hf1, hp1⟩ | ⟨hp1, hX⟩
      · rw [hp1] at HP1
        have u1 : (f1 != 0) = true := by simpa using hf1
        clear hp1 hf1 HLM
        generalize listp m = r2 at *
        obtain ⟨Y, f2⟩ := r2
        refine (HP1.out _ HB4.out).mono ?_
        intro e5 w5 hg
        obtain ⟨A5, c5, rfl, -, hs5, hb5⟩ := gives_re hg
        have HB5 := Lib.hid (HB4.out.trans (hb5.mono HB4.out.size))
        clear hg hb5 hs5
        go_wp2_with fail
        refine (HP2.out _ HB5.out).mono ?_
        intro e6 w6 hg
        obtain ⟨A6, c6, rfl, -, hs6, hb6⟩ := gives_re hg
        have HB6 := Lib.hid (HB5.out.trans (hb6.mono HB5.out.size))
        clear hg hb6 hs6
        go_wp2_with fail
        go_ret
        exact ⟨rfl, HB6.out⟩
      · rw [hp1] at HP1
        clear hp1
        rcases HLM.out with ⟨f2, hf2, hp2⟩ | ⟨hp2, hY⟩
        · rw [hp2] at HP2
          have u2 : (f2 != 0) = true := by simpa using hf2
          clear hp2 hf2 HLM
          generalize lst l = X at *
          refine (HP1.out _ HB4.out).mono ?_
          intro e5 w5 hg
          obtain ⟨A5, c5, rfl, -, hs5, hb5⟩ := gives_re hg
          have HB5 := Lib.hid (HB4.out.trans (hb5.mono HB4.out.size))
          clear hg hb5 hs5
          go_wp2_with fail
          refine (HP2.out _ HB5.out).mono ?_
          intro e6 w6 hg
          obtain ⟨A6, c6, rfl, -, hs6, hb6⟩ := gives_re hg
          have HB6 := Lib.hid (HB5.out.trans (hb6.mono HB5.out.size))
          clear hg hb6 hs6
          go_wp2_with fail
          go_ret
          exact ⟨rfl, HB6.out⟩
        · rw [hp2] at HP2
          clear hp2 HLM
          have HCT := Lib.hid (fun (v : Value) W (h : Bs W (fun _ => True) v (lst l ++ lst m)) (hh : (lst l ++ lst m).length ≤ 65536) => by
          have := cut_any v _ W h (by omega)
          rwa [show cutp (lst l ++ lst m) = (l ++ m, 0) by rw [← lst_append] at hh ⊢; rw [cutp, if_neg (by omega), cutA_lst _ hh]] at this)
          have HXL := Lib.hid (rfl : (lst l).length = (lst l).length)
          generalize lst l = X at *
          generalize lst m = Y at *
          generalize hXX : X.length = x at *
          generalize hYY : Y.length = y at *
          have HXX := Lib.hid hXX
          have HYY := Lib.hid hYY
          clear hXX hYY HXL
          refine (HP1.out _ HB4.out).mono ?_
          intro e5 w5 hg
          obtain ⟨A5, c5, rfl, -, hs5, hb5⟩ := gives_re hg
          rw [HXX.out] at hs5 ⊢
          have HS5 := Lib.hid hs5
          have HB5 := Lib.hid (HB4.out.trans (hb5.mono HB4.out.size))
          clear hg hb5 hs5
          go_wp2_with fail
          refine (HP2.out _ HB5.out).mono ?_
          intro e6 w6 hg
          obtain ⟨A6, c6, rfl, -, hs6, hb6⟩ := gives_re hg
          rw [HYY.out] at hs6 ⊢
          have HS5 := Lib.hid (HS5.out.below hb6)
          have HS6 := Lib.hid hs6
          have HB6 := Lib.hid (HB5.out.trans (hb6.mono HB5.out.size))
          clear hg hb6 hs6
          by_cases hsum : 65536 < x + y
          · have hsum' : (65536 : Int) < (x : Int) + (y : Int) := by omega
            go_wp2_with fail
            go_ret
            exact ⟨rfl, HB6.out⟩
          · have hsum' : ¬ (65536 : Int) < (x : Int) + (y : Int) := by omega
            go_wp2_with (first
              | (at_builtin; refine wpList_append_cells _ rfl (.const (.slice none 0 0)) (.tmp 82) _ rfl w6.heap.size 5 i0 (.int .u8 0) 1 1 Try.underlying22 hi0 hz0 hz1 hz2 rfl (by decide) (.slice none 0 0) 0 [] rfl (World.ownsRow_nil _ _ _ _) (fun _ => True) _ _ _ (octets X) rfl (by rw [octets_length, Nat.mul_one]; exact HXX.out) HS5.out.cells octets_one (by unfold maxLen; omega) (by omega) (Nat.le_refl _) ?_; intro v7 w7 hown7 hgr7 hgn7; have hb7 := (Below.refl w6.heap.size w6).grown hgr7 (Nat.le_refl _) (by simp [Value.ownBlock]))
              | (at_builtin; refine wpList_append_cells _ rfl (.tmp 83) (.tmp 84) _ rfl w6.heap.size 5 i0 (.int .u8 0) 1 1 Try.underlying22 hi0 hz0 hz1 hz2 rfl (by decide) _ _ _ rfl hown7 (fun _ => True) _ _ _ (octets Y) rfl (by rw [octets_length, Nat.mul_one]; exact HYY.out) (HS6.out.below hb7).cells octets_one (by unfold maxLen; omega) (by omega) hb7.size ?_))
            intro v8 w8 hown8 hgr8 hgn8
            have hb8 : Below w6.heap.size w6 w8 := hb7.grown hgr8 hb7.size (fun i hi => (hown7.lt i hi).1)
            have hs8 : Bs w8 (fun _ => True) v8 (X ++ Y) := by
              have h := hown8
              simp only [List.nil_append, ← octets_append] at h
              exact Bs.of_own h (fun _ _ => trivial)
            obtain ⟨A8, c8, rfl⟩ : ∃ A8 c8, v8 = .slice A8 (x + y) c8 := by
              obtain ⟨A8, c8, he, _⟩ := hs8
              exact ⟨A8, c8, by rw [he, List.length_append, HXX.out, HYY.out]⟩
            have HS8 := Lib.hid hs8
            have HB8 := Lib.hid (HB6.out.trans (hb8.mono HB6.out.size))
            clear hown7 hgr7 hgn7 hb7 hown8 hgr8 hgn8 hb8 hs8
            go_wp2_with fail
            refine (HCT.out _ _ HS8.out (by rw [List.length_append, HXX.out, HYY.out]; omega)).mono ?_
            rintro e9 w9 ⟨v9, rfl, ho9, hb9⟩
            dsimp only at ho9 ⊢
            have hs9 := ho9.reads
            obtain ⟨A9, c9, rfl⟩ : ∃ A c, v9 = .slice A (L + M) c := by
              obtain ⟨A9, c9, _, he, _⟩ := hs9
              exact ⟨A9, c9, by rw [he, List.length_append, HLL.out, HMM.out]⟩
            have HS9 := Lib.hid hs9
            have HB9 := Lib.hid (HB8.out.trans (hb9.mono HB8.out.size))
            clear ho9 hb9 hs9
            obtain ⟨xl, hxl, hcl⟩ := ts_cells (HL.out.below HB9.out)
            obtain ⟨xm, hxm, hcm⟩ := ts_cells (HM.out.below HB9.out)
            have HXL := Lib.hid hxl
            have HXM := Lib.hid hxm
            have HCL := Lib.hid hcl
            have HCM := Lib.hid hcm
            clear hxl hxm hcl hcm
            go_wp2_with (first
              | (at_builtin; refine wpList_append_guarded _ rfl (.const (.slice none 0 0)) (.tmp 96) _ rfl w9.heap.size 22 j0 (.slice none 0 0) 1 24 Try.underlying33 hj0 hy0 hy1 hy2 rfl (by decide) (.slice none 0 0) 0 [] rfl (World.ownsRow_nil _ _ _ _) (fun _ => True) _ _ _ xl rfl (by rw [Nat.mul_one]; exact HXL.out.1.trans HLL.out) HCL.out HXL.out.one (by unfold maxLen; omega) (by omega) (Nat.le_refl _) ?_; intro v10 w10 hown10 hgr10 hgn10; have hb10 := (Below.refl w9.heap.size w9).grown hgr10 (Nat.le_refl _) (by simp [Value.ownBlock]))
              | (at_builtin; refine wpList_append_guarded _ rfl (.tmp 97) (.tmp 98) _ rfl w9.heap.size 22 j0 (.slice none 0 0) 1 24 Try.underlying33 hj0 hy0 hy1 hy2 rfl (by decide) _ _ _ rfl hown10 (fun _ => True) _ _ _ xm rfl (by rw [Nat.mul_one]; exact HXM.out.1.trans HMM.out) (HCM.out.below hb10) HXM.out.one (by unfold maxLen; omega) (by omega) hb10.size ?_))
            intro v11 w11 hown11 hgr11 hgn11
            have hb11 : Below w9.heap.size w9 w11 := hb10.grown hgr11 hb10.size (fun i hi => (hown10.lt i hi).1)
            have hs11 : Ts w11 (fun _ => True) v11 (l ++ m) := ts_of_row (base := w9.heap.size) (by rw [List.length_append, HLL.out, HMM.out]; simpa using hown11) ((HXL.out.append HXM.out).below hb11)
            obtain ⟨A11, c11, rfl⟩ : ∃ A c, v11 = .slice A (L + M) c := by
              obtain ⟨A11, c11, _, he, _⟩ := hs11
              exact ⟨A11, c11, by rw [he, List.length_append, HLL.out, HMM.out]⟩
            have HS9 := Lib.hid (HS9.out.below hb11)
            have HS11 := Lib.hid hs11
            have HB11 := Lib.hid (HB9.out.trans (hb11.mono HB9.out.size))
            clear hown10 hgr10 hgn10 hb10 hown11 hgr11 hgn11 hb11 hs11
            go_wp2_with fail
            refine (sameTexts_any _ _ _ _ _ HS9.out HS11.out).mono ?_
            rw [decide_eq_true rfl]
            rintro e12 w12 ⟨rfl, hb12⟩
            have HB12 := Lib.hid (HB11.out.trans (hb12.mono HB11.out.size))
            clear hb12
            go_wp2_with fail
            go_ret
            exact ⟨ret_bool (by simp), HB12.out⟩
    · rw [hp] at HP3
      have hPL := lst_each P
      rw [hlb] at hPL
      have HP4 := Lib.hid (fun (v : Value) W (h : Ts W (fun _ => True) v P) => by
        have := list_any v P W h (by omega) (fun t ht => by have := hPL.2 t ht; omega)
        rwa [listp_ok (by rw [hlb]; exact hb65), hlb] at this)
      clear hp hPL hlb
      generalize hLL : l.length = L at *
      generalize hMM : m.length = M at *
      generalize hKK : b.length = K at *
      have HLL := Lib.hid hLL
      have HMM := Lib.hid hMM
      have HKK := Lib.hid hKK
      clear hLL hMM hKK
      go_enter Try.func6, Try.ntmps6
      go_wp2_with fail
      refine HLIVE.out.mono ?_
      rintro e w1 ⟨rfl, hb1⟩
      have HB1 := Lib.hid hb1
      clear hb1
      go_wp2_with fail
      refine (HP3.out _ HB1.out).mono ?_
      rintro e w2 ⟨v2, rfl, ho2, hb2⟩
      dsimp only at ho2 ⊢
      have hs2 := ho2.reads
      have HS2 := Lib.hid hs2
      obtain ⟨A2, c2, xs2, rfl, _⟩ := hs2
      have HB2 := Lib.hid (HB1.out.trans (hb2.mono HB1.out.size))
      clear ho2 hb2
      go_wp2_with fail
      refine (HP4.out _ _ HS2.out).mono ?_
      intro e w3 hg
      obtain ⟨A3, c3, rfl, -, hs3, hb3⟩ := gives_re hg
      rw [HKK.out] at hs3 ⊢
      have HB3 := Lib.hid (HB2.out.trans (hb3.mono HB2.out.size))
      have x1 := run_text hs3
      have x2 := run_text (HB.out.below HB3.out)
      clear hg hb3 hs3
      go_wp2_with fail
      have HLM := Lib.hid (list_list m)
      rcases list_list l with ⟨f1, hf1, hp1⟩ | ⟨hp1, hX⟩
      · rw [hp1] at HP1
        have u1 : (f1 != 0) = true := by simpa using hf1
        clear hp1 hf1 HLM
        generalize listp m = r2 at *
        obtain ⟨Y, f2⟩ := r2
        refine (HP1.out _ HB3.out).mono ?_
        intro e5 w5 hg
        obtain ⟨A5, c5, rfl, -, hs5, hb5⟩ := gives_re hg
        have HB5 := Lib.hid (HB3.out.trans (hb5.mono HB3.out.size))
        clear hg hb5 hs5
        go_wp2_with fail
        refine (HP2.out _ HB5.out).mono ?_
        intro e6 w6 hg
        obtain ⟨A6, c6, rfl, -, hs6, hb6⟩ := gives_re hg
        have HB6 := Lib.hid (HB5.out.trans (hb6.mono HB5.out.size))
        clear hg hb6 hs6
        go_wp2_with fail
        go_ret
        exact ⟨rfl, HB6.out⟩
      · rw [hp1] at HP1
        clear hp1
        rcases HLM.out with ⟨f2, hf2, hp2⟩ | ⟨hp2, hY⟩
        · rw [hp2] at HP2
          have u2 : (f2 != 0) = true := by simpa using hf2
          clear hp2 hf2 HLM
          generalize lst l = X at *
          refine (HP1.out _ HB3.out).mono ?_
          intro e5 w5 hg
          obtain ⟨A5, c5, rfl, -, hs5, hb5⟩ := gives_re hg
          have HB5 := Lib.hid (HB3.out.trans (hb5.mono HB3.out.size))
          clear hg hb5 hs5
          go_wp2_with fail
          refine (HP2.out _ HB5.out).mono ?_
          intro e6 w6 hg
          obtain ⟨A6, c6, rfl, -, hs6, hb6⟩ := gives_re hg
          have HB6 := Lib.hid (HB5.out.trans (hb6.mono HB5.out.size))
          clear hg hb6 hs6
          go_wp2_with fail
          go_ret
          exact ⟨rfl, HB6.out⟩
        · rw [hp2] at HP2
          clear hp2 HLM
          have HCT := Lib.hid (fun (v : Value) W (h : Bs W (fun _ => True) v (lst l ++ lst m)) (hh : (lst l ++ lst m).length ≤ 65536) => by
          have := cut_any v _ W h (by omega)
          rwa [show cutp (lst l ++ lst m) = (l ++ m, 0) by rw [← lst_append] at hh ⊢; rw [cutp, if_neg (by omega), cutA_lst _ hh]] at this)
          have HXL := Lib.hid (rfl : (lst l).length = (lst l).length)
          generalize lst l = X at *
          generalize lst m = Y at *
          generalize hXX : X.length = x at *
          generalize hYY : Y.length = y at *
          have HXX := Lib.hid hXX
          have HYY := Lib.hid hYY
          clear hXX hYY HXL
          refine (HP1.out _ HB3.out).mono ?_
          intro e5 w5 hg
          obtain ⟨A5, c5, rfl, -, hs5, hb5⟩ := gives_re hg
          rw [HXX.out] at hs5 ⊢
          have HS5 := Lib.hid hs5
          have HB5 := Lib.hid (HB3.out.trans (hb5.mono HB3.out.size))
          clear hg hb5 hs5
          go_wp2_with fail
          refine (HP2.out _ HB5.out).mono ?_
          intro e6 w6 hg
          obtain ⟨A6, c6, rfl, -, hs6, hb6⟩ := gives_re hg
          rw [HYY.out] at hs6 ⊢
          have HS5 := Lib.hid (HS5.out.below hb6)
          have HS6 := Lib.hid hs6
          have HB6 := Lib.hid (HB5.out.trans (hb6.mono HB5.out.size))
          clear hg hb6 hs6
          by_cases hsum : 65536 < x + y
          · have hsum' : (65536 : Int) < (x : Int) + (y : Int) := by omega
            go_wp2_with fail
            go_ret
            exact ⟨rfl, HB6.out⟩
          · have hsum' : ¬ (65536 : Int) < (x : Int) + (y : Int) := by omega
            go_wp2_with (first
              | (at_builtin; refine wpList_append_cells _ rfl (.const (.slice none 0 0)) (.tmp 82) _ rfl w6.heap.size 5 i0 (.int .u8 0) 1 1 Try.underlying22 hi0 hz0 hz1 hz2 rfl (by decide) (.slice none 0 0) 0 [] rfl (World.ownsRow_nil _ _ _ _) (fun _ => True) _ _ _ (octets X) rfl (by rw [octets_length, Nat.mul_one]; exact HXX.out) HS5.out.cells octets_one (by unfold maxLen; omega) (by omega) (Nat.le_refl _) ?_; intro v7 w7 hown7 hgr7 hgn7; have hb7 := (Below.refl w6.heap.size w6).grown hgr7 (Nat.le_refl _) (by simp [Value.ownBlock]))
              | (at_builtin; refine wpList_append_cells _ rfl (.tmp 83) (.tmp 84) _ rfl w6.heap.size 5 i0 (.int .u8 0) 1 1 Try.underlying22 hi0 hz0 hz1 hz2 rfl (by decide) _ _ _ rfl hown7 (fun _ => True) _ _ _ (octets Y) rfl (by rw [octets_length, Nat.mul_one]; exact HYY.out) (HS6.out.below hb7).cells octets_one (by unfold maxLen; omega) (by omega) hb7.size ?_))
            intro v8 w8 hown8 hgr8 hgn8
            have hb8 : Below w6.heap.size w6 w8 := hb7.grown hgr8 hb7.size (fun i hi => (hown7.lt i hi).1)
            have hs8 : Bs w8 (fun _ => True) v8 (X ++ Y) := by
              have h := hown8
              simp only [List.nil_append, ← octets_append] at h
              exact Bs.of_own h (fun _ _ => trivial)
            obtain ⟨A8, c8, rfl⟩ : ∃ A8 c8, v8 = .slice A8 (x + y) c8 := by
              obtain ⟨A8, c8, he, _⟩ := hs8
              exact ⟨A8, c8, by rw [he, List.length_append, HXX.out, HYY.out]⟩
            have HS8 := Lib.hid hs8
            have HB8 := Lib.hid (HB6.out.trans (hb8.mono HB6.out.size))
            clear hown7 hgr7 hgn7 hb7 hown8 hgr8 hgn8 hb8 hs8
            go_wp2_with fail
            refine (HCT.out _ _ HS8.out (by rw [List.length_append, HXX.out, HYY.out]; omega)).mono ?_
            rintro e9 w9 ⟨v9, rfl, ho9, hb9⟩
            dsimp only at ho9 ⊢
            have hs9 := ho9.reads
            obtain ⟨A9, c9, rfl⟩ : ∃ A c, v9 = .slice A (L + M) c := by
              obtain ⟨A9, c9, _, he, _⟩ := hs9
              exact ⟨A9, c9, by rw [he, List.length_append, HLL.out, HMM.out]⟩
            have HS9 := Lib.hid hs9
            have HB9 := Lib.hid (HB8.out.trans (hb9.mono HB8.out.size))
            clear ho9 hb9 hs9
            obtain ⟨xl, hxl, hcl⟩ := ts_cells (HL.out.below HB9.out)
            obtain ⟨xm, hxm, hcm⟩ := ts_cells (HM.out.below HB9.out)
            have HXL := Lib.hid hxl
            have HXM := Lib.hid hxm
            have HCL := Lib.hid hcl
            have HCM := Lib.hid hcm
            clear hxl hxm hcl hcm
            go_wp2_with (first
              | (at_builtin; refine wpList_append_guarded _ rfl (.const (.slice none 0 0)) (.tmp 96) _ rfl w9.heap.size 22 j0 (.slice none 0 0) 1 24 Try.underlying33 hj0 hy0 hy1 hy2 rfl (by decide) (.slice none 0 0) 0 [] rfl (World.ownsRow_nil _ _ _ _) (fun _ => True) _ _ _ xl rfl (by rw [Nat.mul_one]; exact HXL.out.1.trans HLL.out) HCL.out HXL.out.one (by unfold maxLen; omega) (by omega) (Nat.le_refl _) ?_; intro v10 w10 hown10 hgr10 hgn10; have hb10 := (Below.refl w9.heap.size w9).grown hgr10 (Nat.le_refl _) (by simp [Value.ownBlock]))
              | (at_builtin; refine wpList_append_guarded _ rfl (.tmp 97) (.tmp 98) _ rfl w9.heap.size 22 j0 (.slice none 0 0) 1 24 Try.underlying33 hj0 hy0 hy1 hy2 rfl (by decide) _ _ _ rfl hown10 (fun _ => True) _ _ _ xm rfl (by rw [Nat.mul_one]; exact HXM.out.1.trans HMM.out) (HCM.out.below hb10) HXM.out.one (by unfold maxLen; omega) (by omega) hb10.size ?_))
            intro v11 w11 hown11 hgr11 hgn11
            have hb11 : Below w9.heap.size w9 w11 := hb10.grown hgr11 hb10.size (fun i hi => (hown10.lt i hi).1)
            have hs11 : Ts w11 (fun _ => True) v11 (l ++ m) := ts_of_row (base := w9.heap.size) (by rw [List.length_append, HLL.out, HMM.out]; simpa using hown11) ((HXL.out.append HXM.out).below hb11)
            obtain ⟨A11, c11, rfl⟩ : ∃ A c, v11 = .slice A (L + M) c := by
              obtain ⟨A11, c11, _, he, _⟩ := hs11
              exact ⟨A11, c11, by rw [he, List.length_append, HLL.out, HMM.out]⟩
            have HS9 := Lib.hid (HS9.out.below hb11)
            have HS11 := Lib.hid hs11
            have HB11 := Lib.hid (HB9.out.trans (hb11.mono HB9.out.size))
            clear hown10 hgr10 hgn10 hb10 hown11 hgr11 hgn11 hb11 hs11
            go_wp2_with fail
            refine (sameTexts_any _ _ _ _ _ HS9.out HS11.out).mono ?_
            rw [decide_eq_true rfl]
            rintro e12 w12 ⟨rfl, hb12⟩
            have HB12 := Lib.hid (HB11.out.trans (hb12.mono HB11.out.size))
            clear hb12
            go_wp2_with fail
            go_ret
            exact ⟨ret_bool (by simp), HB12.out⟩

end Go.Proofs.Ytndccdoohmgmlab
