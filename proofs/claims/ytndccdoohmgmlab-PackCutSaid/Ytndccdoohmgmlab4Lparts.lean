/- The law PackParts, walked. -/
import Derived.Test.Ytndccdoohmgmlab4S
import Derived.Test.Ytndccdoohmgmlab4Lwidths
namespace Go.Proofs.Ytndccdoohmgmlab
open Go.RowKit Pk

set_option maxRecDepth 10000 in
set_option maxHeartbeats 4000000 in
theorem packParts_any (width cut : Int) (vl : Value) (l : List Int) (w : World) (h : Ns w (fun _ => True) vl l) :
    Calls Try.prog 9 #[.int .i64 width, vl, .int .i64 cut] w (True_ w) := by
  obtain ⟨i0, hi0, hz0, hz1, hz2⟩ := info_parts infoI
  have HLIVE := Lib.hid (live3_any w)
  have HL := Lib.hid h
  obtain ⟨A, c, rfl, hc1, hc2, _⟩ := h
  unfold maxLen at hc2
  by_cases hlen : (500 : Int) < (l.length : Int)
  · generalize l.length = L at *
    go_enter Try.func9, Try.ntmps9
    go_wp2_with fail
    refine HLIVE.out.mono ?_
    rintro e w1 ⟨rfl, hb1⟩
    have HB1 := Lib.hid hb1
    clear hb1
    go_wp2_with fail
    go_ret
    exact ⟨rfl, HB1.out⟩
  · have hl500 : l.length ≤ 500 := by omega
    obtain ⟨x, hxl, hx, hr1, hr2⟩ := cut_in cut l.length (by omega)
    have hm0 : ¬ ((l.length : Int) + 1) = 0 := by omega
    have p1 : IntKind.i64.wrap (cut.tmod ((l.length : Int) + 1)) = cut.tmod ((l.length : Int) + 1) := IntWalk.i64_in _ (by omega)
    have p2 : IntKind.i64.wrap (cut.tmod ((l.length : Int) + 1) + (l.length : Int)) = cut.tmod ((l.length : Int) + 1) + (l.length : Int) := IntWalk.i64_in _ (by omega)
    have p3 : IntKind.i64.wrap (cut.tmod ((l.length : Int) + 1) + (l.length : Int) + 1) = cut.tmod ((l.length : Int) + 1) + (l.length : Int) + 1 := IntWalk.i64_in _ (by omega)
    have p4 : IntKind.i64.wrap ((x : Nat) : Int) = (x : Int) := IntWalk.i64_in _ (by omega)
    have HP1 := Lib.hid (fun W (hb : Below w.heap.size w W) => put_any _ _ [] width l W (bs_none _) (HL.out.below hb) (by simp) (by omega))
    have HP2 := Lib.hid (fun W (hb : Below w.heap.size w W) => put_any _ _ [] width (l.take x) W (bs_none _) ((HL.out.upto_ (j := x) hxl).below hb) (by simp) (by rw [List.length_take]; omega))
    rcases put_list [] width l with ⟨e, he, hp⟩ | ⟨k, rfl, k1, k8, hf, hsz, hp⟩
    · rw [hp] at HP1
      have t1 : (e != 0) = true := by simpa using he
      obtain ⟨r, f, hrf⟩ : ∃ r f, put [] width (l.take x) = (r, f) := ⟨_, _, rfl⟩
      rw [hrf] at HP2
      clear hp he hrf
      generalize l.length = L at *
      go_enter Try.func9, Try.ntmps9
      go_wp2_with fail
      refine HLIVE.out.mono ?_
      rintro e w1 ⟨rfl, hb1⟩
      have HB1 := Lib.hid hb1
      clear hb1
      go_wp2_with fail
      refine (HP1.out _ HB1.out).mono ?_
      intro e w2 hg
      obtain ⟨A2, c2, rfl, -, -, hb2⟩ := gives_re hg
      have HB2 := Lib.hid (HB1.out.trans (hb2.mono HB1.out.size))
      clear hg hb2
      go_wp2_with fail
      refine (HP2.out _ HB2.out).mono ?_
      intro e w3 hg
      obtain ⟨A3, c3, rfl, -, -, hb3⟩ := gives_re hg
      have HB3 := Lib.hid (HB2.out.trans (hb3.mono HB2.out.size))
      clear hg hb3
      go_wp2_with fail
      go_ret
      exact ⟨rfl, HB3.out⟩
    · obtain ⟨O, hO⟩ : ∃ O, O = octs k l := ⟨_, rfl⟩
      obtain ⟨O1, hO1⟩ : ∃ O1, O1 = octs k (l.take x) := ⟨_, rfl⟩
      obtain ⟨R, hR⟩ : ∃ R, R = octs k (l.drop x) := ⟨_, rfl⟩
      have hsp : O1 ++ R = O := by rw [hO, hO1, hR]; exact octs_split k x l
      have htl : (l.take x).length = x := by rw [List.length_take]; omega
      have hdl : (l.drop x).length = l.length - x := List.length_drop
      have hOl : O.length ≤ 4000 := by
        have : k * l.length ≤ 8 * 500 := Nat.mul_le_mul k8 hl500
        rw [hO, octs_length]; omega
      have hO1l : O1.length + R.length = O.length := by rw [← hsp, List.length_append]
      rw [hp, List.nil_append, ← hO] at HP1
      have hp2 : put [] (k : Int) (l.take x) = (O1, 0) := by
        rw [put_list_ok k1 k8 (all_take hf x).1 (by rw [htl, List.length_nil]; have : k * x ≤ k * l.length := Nat.mul_le_mul_left _ hxl; simp only [List.length_nil] at hsz; omega), List.nil_append, hO1]
      rw [hp2] at HP2
      have hp3 : put O1 (k : Int) (l.drop x) = (O, 0) := by
        have e : O1.length + k * (l.drop x).length = O.length := by rw [← hO1l, hR, octs_length]
        rw [put_list_ok k1 k8 (all_take hf x).2 (by omega), ← hR, hsp]
      have HP3 := Lib.hid (fun (v vl : Value) W (h1 : Bs W (fun _ => True) v O1) (h2 : Ns W (fun _ => True) vl (l.drop x)) => by
        have := put_any v vl O1 (k : Int) (l.drop x) W h1 h2 (by omega) (by omega)
        rwa [hp3] at this)
      have ht1 : take O (k : Int) (x : Int) = (l.take x, R, 0) := by
        have := take_put (k := k) (l := l.take x) k1 k8 (all_take hf x).1 (by omega) R
        rwa [← hO1, hsp, htl] at this
      have HT1 := Lib.hid (fun (v : Value) W (h1 : Bs W (fun _ => True) v O) => by
        have := take_any v O (k : Int) (x : Int) W h1 (by omega)
        rwa [ht1] at this)
      have ht2 : take R (k : Int) (((l.length - x : Nat) : Int)) = (l.drop x, [], 0) := by
        have := take_put (k := k) (l := l.drop x) k1 k8 (all_take hf x).2 (by omega) []
        rwa [← hR, List.append_nil, hdl] at this
      have HT2 := Lib.hid (show ∀ (v : Value) (n : Int) W, n = (l.length : Int) - (x : Int) → Bs W (fun _ => True) v R → Calls Try.prog 13 #[v, .int .i64 (k : Int), .int .i64 n] W (GivesT W (l.drop x, [], 0)) from fun v n W hn h1 => by
        have := take_any v R (k : Int) (((l.length - x : Nat) : Int)) W h1 (by omega)
        rw [ht2] at this
        obtain rfl : n = ((l.length - x : Nat) : Int) := by omega
        exact this)
      have HTD := Lib.hid (show l.take x ++ l.drop x = l from List.take_append_drop x l)
      have HTL := Lib.hid htl
      have HDL := Lib.hid hdl
      have hbh := HL.out.behind_ hxl
      obtain ⟨T, hT⟩ : ∃ T, T = l.take x := ⟨_, rfl⟩
      obtain ⟨D, hD⟩ : ∃ D, D = l.drop x := ⟨_, rfl⟩
      rw [← hT] at HT1 HTL HTD
      rw [← hD] at HP3 HT2 HDL hbh HTD
      clear hT hD
      clear hp hp2 hp3 ht1 ht2 hO hO1 hR hsp htl hdl hf hO1l hsz
      have hOl' : O.length ≤ 4000 := hOl
      generalize hL : l.length = L at *
      have HLL := Lib.hid hL
      clear hL
      rcases hbh with ⟨rfl, rfl, rfl, rfl, hnil⟩ | ⟨ad, rfl, rfl, rfl, hnil⟩ | ⟨ad, rfl, hne, hlt, htail⟩
      all_goals
        first
          | (have HNIL := Lib.hid hnil; clear hnil)
          | (have HTAIL := Lib.hid htail; clear htail)
        go_enter Try.func9, Try.ntmps9
        go_wp2_with fail
        refine HLIVE.out.mono ?_
        rintro e w1 ⟨rfl, hb1⟩
        have HB1 := Lib.hid hb1
        clear hb1
        go_wp2_with fail
        clear p1 p2 p3 p4 hx hr1 hr2 hm0
        refine (HP1.out _ HB1.out).mono ?_
        intro e w2 hg
        obtain ⟨A2, c2, rfl, -, hs2, hb2⟩ := gives_re hg
        have HS2 := Lib.hid hs2
        have HB2 := Lib.hid (HB1.out.trans (hb2.mono HB1.out.size))
        clear hg hs2 hb2
        go_wp2_with fail
        refine (HP2.out _ HB2.out).mono ?_
        intro e w3 hg
        obtain ⟨A3, c3, rfl, -, hs3, hb3⟩ := gives_re hg
        have HS3 := Lib.hid hs3
        have HS2 := Lib.hid (HS2.out.below hb3)
        have HB3 := Lib.hid (HB2.out.trans (hb3.mono HB2.out.size))
        clear hg hs3 hb3
        go_wp2_with fail
        refine (HP3.out _ _ _ HS3.out (by
          first
            | (rw [HNIL.out]; exact Ns.nothing _ 0 (by simp [maxLen]) (fun _ => rfl))
            | exact HTAIL.out.below HB3.out)).mono ?_
        intro e w4 hg
        obtain ⟨A4, c4, rfl, -, hs4, hb4⟩ := gives_re hg
        have x1 := run_text hs4
        have HS2 := Lib.hid (HS2.out.below hb4)
        have x2 := run_text HS2.out
        have HB4 := Lib.hid (HB3.out.trans (hb4.mono HB3.out.size))
        clear hg hs4 hb4
        go_wp2_with fail
        clear x1 x2
        refine (HT1.out _ _ HS2.out).mono ?_
        intro e w5 hg
        obtain ⟨A5, c5, A6, c6, rfl, -, -, hs5, hs6, hb5⟩ := gives_t hg
        rw [HTL.out] at hs5 ⊢
        have HS5 := Lib.hid hs5
        have HS6 := Lib.hid hs6
        have HB5 := Lib.hid (HB4.out.trans (hb5.mono HB4.out.size))
        clear hg hs5 hs6 hb5
        go_wp2_with fail
        refine (HT2.out _ _ _ ?_ HS6.out).mono ?_
        · omega
        intro e w6 hg
        obtain ⟨A7, c7, A8, c8, rfl, -, -, hs7, hs8, hb6⟩ := gives_t hg
        rw [HDL.out] at hs7 ⊢
        have HS5 := Lib.hid (HS5.out.below hb6)
        have HS7 := Lib.hid hs7
        have HB6 := Lib.hid (HB5.out.trans (hb6.mono HB5.out.size))
        clear hg hs7 hs8 hb6
        go_wp2_with (first
          | (at_builtin; refine wpList_append_guarded _ rfl (.const (.slice none 0 0)) (.tmp 113) _ rfl w.heap.size 2 i0 (.int .i64 0) 1 8 Try.underlying23 hi0 hz0 hz1 hz2 rfl (by decide) (.slice none 0 0) 0 [] rfl (World.ownsRow_nil _ _ _ _) (fun _ => True) _ _ _ (nints T) rfl (by rw [nints_length, Nat.mul_one]; exact HTL.out) HS5.out.from_.2.2.2.2 nints_one (by unfold maxLen; omega) (by omega) HB6.out.size ?_; intro v8 w8 hown8 hgr8 hgn8; have hb8 := HB6.out.grown hgr8 HB6.out.size (by simp [Value.ownBlock]))
          | (at_builtin; refine wpList_append_guarded _ rfl (.tmp 114) (.tmp 115) _ rfl w.heap.size 2 i0 (.int .i64 0) 1 8 Try.underlying23 hi0 hz0 hz1 hz2 rfl (by decide) _ _ _ rfl hown8 (fun _ => True) _ _ _ (nints D) rfl (by have := HDL.out; rw [nints_length, Nat.mul_one]; omega) (HS7.out.from_.2.2.2.2.below ((Below.refl _ _).grown hgr8 (Nat.le_refl _) (by simp [Value.ownBlock]))) nints_one (by unfold maxLen; omega) (by omega) hb8.size ?_))
        intro v9 w9 hown9 hgr9 hgn9
        have hb9 : Below w.heap.size w w9 := hb8.grown hgr9 hb8.size (fun i hi => (hown8.lt i hi).1)
        have hN : Ns w9 (fun _ => True) v9 l := by
          have h := hown9
          simp only [List.nil_append, ← nints_append, HTD.out] at h
          exact Ns.of_own h (fun _ _ => trivial)
        have HB9 := Lib.hid hb9
        have HN9 := Lib.hid hN
        clear hown8 hgr8 hgn8 hb8 hown9 hgr9 hgn9 hb9 hN
        go_wp2_with fail
        refine (sameInts_any _ _ l l _ HN9.out (HL.out.below HB9.out)).mono ?_
        rw [decide_eq_true rfl]
        rintro e w10 ⟨rfl, hb10⟩
        have HB10 := Lib.hid (HB9.out.trans (hb10.mono HB9.out.size))
        clear hb10
        go_wp2_with fail
        go_ret
        exact ⟨rfl, HB10.out⟩

end Go.Proofs.Ytndccdoohmgmlab
