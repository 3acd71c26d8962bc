/- The law VecParts, walked. -/
import Derived.Test.Ytndccdoohmgmlaa6L
import Derived.Test.Ytndccdoohmgmlaa6Q
import Derived.Deep.RegionHeld3
import Derived.Deep.RegionLaw
namespace Go.Proofs.Ytndccdoohmgmlaa
open Go.RowKit Pk Vc

set_option maxRecDepth 10000 in
set_option maxHeartbeats 4000000 in
theorem vecParts_any (va vb : Value) (a b : List Int) (cut : Int) (w : World) (ha : Vs w (fun _ => True) va a) (hb : Vs w (fun _ => True) vb b) (sa : Small a) (sb : Small b) :
    Calls Try.prog 9 #[va, vb, .int .i64 cut] w (True_ w) := by
  have HLIVE := Lib.hid (live4_any w)
  have HA := Lib.hid ha
  have HB := Lib.hid hb
  have HS := Lib.hid (And.intro sa sb)
  obtain ⟨A, c, rfl, hc1, hc2, _⟩ := ha
  obtain ⟨A', c', rfl, hc1', hc2', _⟩ := hb
  unfold maxLen at hc2 hc2'
  clear sa sb
  by_cases hlen : (500 : Int) < (a.length : Int) ∨ (¬ (500 : Int) < (a.length : Int) ∧ ¬ b.length = a.length) ∨ (¬ (500 : Int) < (a.length : Int) ∧ b.length = a.length ∧ cut < 1) ∨ (¬ (500 : Int) < (a.length : Int) ∧ b.length = a.length ∧ ¬ cut < 1 ∧ (a.length : Int) ≤ cut)
  · clear HA HB HS
    generalize a.length = M at *
    generalize b.length = N at *
    rcases hlen with h1 | ⟨h1, h2⟩ | ⟨h1, h2, h3⟩ | ⟨h1, h2, h3, h4⟩
    all_goals
      first
        | subst h2
        | (have t1 : ((N : Int) != (M : Int)) = true := by simp; omega
           clear h2)
        | skip
      go_enter Try.func9, Try.ntmps9
      go_wp2_with fail
      refine HLIVE.out.mono ?_
      rintro e w1 ⟨rfl, hb1⟩
      have HB1 := Lib.hid hb1
      clear hb1
      go_wp2_with fail
      go_ret
      exact ⟨rfl, HB1.out⟩
  · have g1 : a.length ≤ 500 := by omega
    have g2 : b.length = a.length := by omega
    obtain ⟨k, rfl⟩ : ∃ k : Nat, cut = (k : Int) := ⟨cut.toNat, by omega⟩
    have k1 : 1 ≤ k := by omega
    have k2 : k < a.length := by omega
    clear hlen
    have HD := Lib.hid (fun W (h : Below w.heap.size w W) => dist_any _ _ a b W (HA.out.below h) (HB.out.below h) HS.out.1 HS.out.2)
    cases hp : isP a b
    · rw [dist_no hp] at HD
      clear hp HA HB HS
      generalize a.length = M at *
      generalize b.length = N at *
      subst g2
      go_enter Try.func9, Try.ntmps9
      go_wp2_with fail
      refine HLIVE.out.mono ?_
      rintro e w1 ⟨rfl, hb1⟩
      have HB1 := Lib.hid hb1
      clear hb1
      go_wp2_with fail
      refine (HD.out _ HB1.out).mono ?_
      intro e w2 hg
      obtain ⟨rfl, hb2⟩ := gives_i hg
      have HB2 := Lib.hid (HB1.out.trans (hb2.mono HB1.out.size))
      clear hg hb2
      go_wp2_with fail
      go_ret
      exact ⟨rfl, HB2.out⟩
    · obtain ⟨ad, rfl⟩ := HA.out.some_ (by omega)
      obtain ⟨ad', rfl⟩ := HB.out.some_ (by omega)
      obtain ⟨m, o, q, s, f1, f2, f3, f4, f5, f6, m0, m1, o0, o1, q0, q1, s0, s1⟩ := parts_facts hp HS.out.1 HS.out.2 k1 k2
      have s1' : Small (a.take k) := fun x hx => HS.out.1 x (List.mem_of_mem_take hx)
      have s2' : Small (b.take k) := fun x hx => HS.out.2 x (List.mem_of_mem_take hx)
      have s3' : Small (a.drop k) := fun x hx => HS.out.1 x (List.mem_of_mem_drop hx)
      have s4' : Small (b.drop k) := fun x hx => HS.out.2 x (List.mem_of_mem_drop hx)
      have HT := Lib.hid (fun W (h : Below w.heap.size w W) => dist_any _ _ _ _ W ((HA.out.below h).upto_ (j := k) (by omega)) ((HB.out.below h).upto_ (j := k) (by omega)) s1' s2')
      have HU := Lib.hid (fun W (h : Below w.heap.size w W) => dist_any _ _ _ _ W ((HA.out.below h).tail (i := k) (by omega)) ((HB.out.below h).tail (i := k) (by omega)) s3' s4')
      have HP := Lib.hid (fun W (h : Below w.heap.size w W) => dot_any _ _ a b W (HA.out.below h) (HB.out.below h) HS.out.1 HS.out.2)
      have HQ := Lib.hid (fun W (h : Below w.heap.size w W) => dot_any _ _ _ _ W ((HA.out.below h).upto_ (j := k) (by omega)) ((HB.out.below h).upto_ (j := k) (by omega)) s1' s2')
      have HR := Lib.hid (fun W (h : Below w.heap.size w W) => dot_any _ _ _ _ W ((HA.out.below h).tail (i := k) (by omega)) ((HB.out.below h).tail (i := k) (by omega)) s3' s4')
      rw [f1] at HD
      rw [f2] at HT
      rw [f3] at HU
      rw [f4] at HP
      rw [f5] at HQ
      rw [f6] at HR
      clear f1 f2 f3 f4 f5 f6 hp s1' s2' s3' s4' HS HA HB
      generalize a.length = M at *
      generalize b.length = N at *
      subst g2
      have k3 : (k : Int) ≤ c := by omega
      have k4 : (k : Int) ≤ c' := by omega
      have k5 : (k : Int) ≤ (N : Int) := by omega
      have k6 : (N : Int) ≤ (c : Int) := by omega
      have k7 : (N : Int) ≤ (c' : Int) := by omega
      have k8 : (0 : Int) ≤ (k : Int) := by omega
      have n1 : ¬ c = k := by omega
      have n2 : ¬ c' = k := by omega
      go_enter Try.func9, Try.ntmps9
      go_wp2_with fail
      refine HLIVE.out.mono ?_
      rintro e w1 ⟨rfl, hb1⟩
      have HB1 := Lib.hid hb1
      clear hb1
      go_wp2_with fail
      refine (HD.out _ HB1.out).mono ?_
      intro e w2 hg
      obtain ⟨rfl, hb2⟩ := gives_i hg
      have HB2 := Lib.hid (HB1.out.trans (hb2.mono HB1.out.size))
      clear hg hb2
      go_wp2_with fail
      go_region_held3 (fun w' => True) (first | go_keep)
        (first
          | (go_at_call 11
             refine (HT.out _ HB2.out.drew).mono ?_
             intro e w3 hg
             obtain ⟨rfl, hb3⟩ := gives_i hg
             have HB3 := Lib.hid (HB2.out.drew.trans (hb3.mono HB2.out.drew.size))
             clear hg hb3))
      go_wp2_with fail
      go_region_held3 (fun w' => True) (first | go_keep)
        (first
          | (go_at_call 11
             refine (HU.out _ HB3.out.drew).mono ?_
             intro e w4 hg
             obtain ⟨rfl, hb4⟩ := gives_i hg
             have HB4 := Lib.hid (HB3.out.drew.trans (hb4.mono HB3.out.drew.size))
             clear hg hb4))
      go_wp2_with fail
      refine (HP.out _ HB4.out).mono ?_
      intro e w5 hg
      obtain ⟨rfl, hb5⟩ := gives_i hg
      have HB5 := Lib.hid (HB4.out.trans (hb5.mono HB4.out.size))
      clear hg hb5
      go_wp2_with fail
      go_region_held3 (fun w' => True) (first | go_keep)
        (first
          | (go_at_call 13
             refine (HQ.out _ HB5.out.drew).mono ?_
             intro e w6 hg
             obtain ⟨rfl, hb6⟩ := gives_i hg
             have HB6 := Lib.hid (HB5.out.drew.trans (hb6.mono HB5.out.drew.size))
             clear hg hb6))
      go_wp2_with fail
      go_region_held3 (fun w' => True) (first | go_keep)
        (first
          | (go_at_call 13
             refine (HR.out _ HB6.out.drew).mono ?_
             intro e w7 hg
             obtain ⟨rfl, hb7⟩ := gives_i hg
             have HB7 := Lib.hid (HB6.out.drew.trans (hb7.mono HB6.out.drew.size))
             clear hg hb7))
      go_wp2_with fail
      go_ret
      exact ⟨rfl, HB7.out⟩

end Go.Proofs.Ytndccdoohmgmlaa
