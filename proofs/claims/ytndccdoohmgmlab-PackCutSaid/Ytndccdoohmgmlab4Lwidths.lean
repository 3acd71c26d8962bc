/- The law PackWidths, walked. -/
import Derived.Test.Ytndccdoohmgmlab4L
import Derived.Test.Ytndccdoohmgmlab4Q
namespace Go.Proofs.Ytndccdoohmgmlab
open Go.RowKit Pk

theorem run_text_drewn {w : World} {S : Nat → Prop} {v : Value} {l : List UInt8} (h : Bs w S v l) (n : Nat) : (convert 22 9 v).run Try.prog (w.drewN n) = .ok (.string ⟨l.toArray⟩) (w.drewN n) :=
  run_text (h.keep (w' := w.drewN n) fun _ _ _ => rfl)

set_option maxRecDepth 10000 in
set_option maxHeartbeats 2000000 in
theorem packWidths_any (n width more : Int) (w : World) :
    Calls Try.prog 8 #[.int .i64 n, .int .i64 width, .int .i64 more] w (True_ w) := by
  have HLIVE := Lib.hid (live3_any w)
  have HP1 := Lib.hid (fun W => put_any _ _ [] width [n] (W.alloc _) (bs_none _) (ns_one W n) (by simp) (by simp))
  have HP2 := Lib.hid (fun W => put_any _ _ [] more [n] (W.alloc _) (bs_none _) (ns_one W n) (by simp) (by simp))
  rcases put_one width n with ⟨e, he, hp⟩ | ⟨k, rfl, k1, k8, hf, hp⟩
  · rw [hp] at HP1
    have t1 : (e != 0) = true := by simpa using he
    clear hp he
    go_enter Try.func8, Try.ntmps8
    go_wp2_with fail
    refine HLIVE.out.mono ?_
    rintro e w1 ⟨rfl, hb1⟩
    have HB1 := Lib.hid hb1
    clear hb1
    go_wp2_with fail
    refine (HP1.out _).mono ?_
    intro e w2 hg
    obtain ⟨A2, c2, rfl, -, -, hb2⟩ := gives_re hg
    have HB := Lib.hid (((HB1.out.alloc HB1.out.size _).trans (hb2.mono (by have := HB1.out.size; simp; omega))))
    clear hg hb2 HB1
    go_wp2_with fail
    go_ret
    exact ⟨rfl, HB.out⟩
  · rw [hp] at HP1
    have HL := Lib.hid (oct_length k n)
    by_cases hm : more < (k : Int) ∨ (¬ more < (k : Int) ∧ 8 < more)
    · clear hp hf
      rcases hm with hm | ⟨hm, hm2⟩
      all_goals
        go_enter Try.func8, Try.ntmps8
        go_wp2_with fail
        refine HLIVE.out.mono ?_
        rintro e w1 ⟨rfl, hb1⟩
        have HB1 := Lib.hid hb1
        clear hb1
        go_wp2_with fail
        refine (HP1.out _).mono ?_
        intro e w2 hg
        obtain ⟨A2, c2, rfl, -, -, hb2⟩ := gives_re hg
        have HB := Lib.hid (((HB1.out.alloc HB1.out.size _).trans (hb2.mono (by have := HB1.out.size; simp; omega))))
        clear hg hb2 HB1
        go_wp2_with fail
        go_ret
        exact ⟨rfl, HB.out⟩
    · obtain ⟨m, rfl⟩ : ∃ m : Nat, more = (m : Int) := ⟨more.toNat, by omega⟩
      have hkm : k ≤ m := by omega
      have m8 : m ≤ 8 := by omega
      rw [put_more k1 hf hkm m8] at HP2
      have HL2 := Lib.hid (oct_length m n)
      have HTK := Lib.hid (oct_take k m n hkm)
      have HSG := Lib.hid (fun j h1 h2 => oct_sign (m := m) (j := j) hf h1 h2)
      have hm' : ¬ (m : Int) < (k : Int) := by omega
      have hm8 : ¬ 8 < (m : Int) := by omega
      clear hp hf hm
      by_cases hn : n < 0
      all_goals
        go_enter Try.func8, Try.ntmps8
        go_wp2_with fail
        refine HLIVE.out.mono ?_
        rintro e w1 ⟨rfl, hb1⟩
        have HB1 := Lib.hid hb1
        clear hb1
        go_wp2_with fail
        refine (HP1.out _).mono ?_
        intro e w2 hg
        obtain ⟨A2, c2, rfl, -, hs2, hb2⟩ := gives_re hg
        rw [HL.out] at hs2 ⊢
        have HS2 := Lib.hid hs2
        have HB2 := Lib.hid (((HB1.out.alloc HB1.out.size _).trans (hb2.mono (by have := HB1.out.size; simp; omega))))
        clear hg hs2 hb2 HB1
        go_wp2_with fail
        refine (HP2.out _).mono ?_
        intro e w3 hg
        obtain ⟨A3, c3, rfl, -, hs3, hb3⟩ := gives_re hg
        rw [HL2.out] at hs3 ⊢
        obtain ⟨ad, rfl⟩ := hs3.some_ (by omega)
        have HS2' := Lib.hid ((HS2.out.below (below_new w2 _)).below hb3)
        have HB3 := Lib.hid (((HB2.out.alloc HB2.out.size _).trans (hb3.mono (by have := HB2.out.size; simp; omega))))
        have hc3 := hs3.caps.2
        have x1 := run_text_drewn (hs3.upto_ (j := k) hkm)
        have x2 := run_text_drewn HS2'.out
        rw [HTK.out] at x1
        have HS3 := Lib.hid hs3
        clear hg hs3 hb3
        go_wp2_with fail
        go_quiet (fail)
        have HB := Lib.hid (below_drewN HB3.out nq)
        have HS := Lib.hid (show Bs (w3.drewN nq) _ _ _ from HS3.out.keep (w' := w3.drewN nq) fun _ _ _ => rfl)
        generalize w3.drewN nq = wx at *
        clear x1 x2 HS2 HB2 HB3 HS3 HS2'
        by_cases hmk : m = k
        · subst hmk
          by_cases hcap : c3 = m
          all_goals
            go_wp2_with fail
            go_loop [14, 68] (fun _ i => i = .int .i64 0) (fun _ _ => 0)
            case atStart => rfl
            case round =>
              subst hrel
              go_wp2_with fail
              go_ret
              exact ⟨rfl, HB.out⟩
        · have hcap : ¬ c3 = k := by omega
          have hkm2 : k < m := by omega
          have HTL := Lib.hid (HS.out.tail (i := k) hkm)
          go_wp2_with fail
          go_loop [14, 68] (fun _ i => ∃ j : Nat, j ≤ m - k ∧ i = .int .i64 (j : Int)) (fun _ i => (m - k) - (intOf i).toNat)
          case atStart => exact ⟨0, by omega, rfl⟩
          case round =>
            obtain ⟨j, hj, rfl⟩ := hrel
            by_cases hlt : j < m - k
            · have hsg := HSG.out (k + j) (by omega) (by omega)
              obtain ⟨ad2, he2, hcj⟩ := cell_at HTL.out.cells (octets_at (j := j) (by rw [List.getElem?_drop]; exact hsg))
              injection he2 with he2
              subst he2
              first
                | rw [if_pos (show n < 0 by omega), show (((255 : UInt8).toNat : Nat) : Int) = 255 from rfl] at hcj
                | rw [if_neg (show ¬ n < 0 by omega), show (((0 : UInt8).toNat : Nat) : Int) = 0 from rfl] at hcj
              clear hsg
              go_wp2_with fail
              go_round
              case rel => exact ⟨j + 1, by omega, by go_num⟩
              case measure => simp [intOf]; omega
            · obtain rfl : j = m - k := by omega
              go_wp2_with fail
              go_ret
              exact ⟨rfl, HB.out⟩

end Go.Proofs.Ytndccdoohmgmlab
