/- The law StampParts, walked. -/
import Derived.Test.Ytikobhckkbicaaa2L
namespace Go.Proofs.Ytikobhckkbicaaa
open Go.RowKit Sk

set_option maxHeartbeats 1000000 in
theorem stampParts_any (n m : Int) (w : World) (hn : -9223372036854775808 ≤ n ∧ n ≤ 9223372036854775807) (hm : -9223372036854775808 ≤ m ∧ m ≤ 9223372036854775807) :
    Calls Try.prog 15 #[.int .i64 n, .int .i64 m] w (True_ w) := by
  have HN := Lib.hid (fun W => part_any n W hn.1 hn.2)
  have HM := Lib.hid (fun W => part_any m W hm.1 hm.2)
  rcases unpair_cases n with h | ⟨g, a, h, hp, e, g1, g2, a1, a2⟩
  · rw [h] at HN
    clear h HM hn hm
    go_enter Try.func15, Try.ntmps15
    go_wp2_with fail
    refine (live2_any _).mono ?_
    rintro e w1 ⟨rfl, hb1⟩
    have HB1 := Lib.hid hb1
    clear hb1
    go_wp2_with fail
    refine (HN.out _).mono ?_
    rintro e w2 ⟨rfl, rfl⟩
    go_wp2_with fail
    go_ret
    exact ⟨rfl, HB1.out⟩
  · rw [h] at HN
    have HPA := Lib.hid (fun W => pair_any g a W)
    rw [hp] at HPA
    clear h hp hn
    rcases unpair_cases m with h | ⟨g', a', h, _, e', g1', g2', a1', a2'⟩
    · rw [h] at HM
      clear h hm
      subst e
      go_enter Try.func15, Try.ntmps15
      go_wp2_with fail
      refine (live2_any _).mono ?_
      rintro e w1 ⟨rfl, hb1⟩
      have HB1 := Lib.hid hb1
      clear hb1
      go_wp2_with fail
      refine (HN.out _).mono ?_
      rintro e w2 ⟨rfl, rfl⟩
      go_wp2_with fail
      refine (HPA.out _).mono ?_
      rintro e w2 ⟨rfl, rfl⟩
      go_wp2_with fail
      refine (HM.out _).mono ?_
      rintro e w2 ⟨rfl, rfl⟩
      go_wp2_with fail
      go_ret
      exact ⟨rfl, HB1.out⟩
    · rw [h] at HM
      clear h hm
      subst e e'
      have key : (g * 1048576 + a < g' * 1048576 + a' ∧ g < g') ∨ (g = g' ∧ a < a') ∨ (g = g' ∧ ¬ a < a') ∨ (¬ g * 1048576 + a < g' * 1048576 + a' ∧ g' < g) := by omega
      rcases key with ⟨k1, k2⟩ | ⟨rfl, k2⟩ | ⟨rfl, k2⟩ | ⟨k1, k2⟩
      all_goals
        go_enter Try.func15, Try.ntmps15
        go_wp2_with fail
        refine (live2_any _).mono ?_
        rintro e w1 ⟨rfl, hb1⟩
        have HB1 := Lib.hid hb1
        clear hb1
        go_wp2_with fail
        refine (HN.out _).mono ?_
        rintro e w2 ⟨rfl, rfl⟩
        go_wp2_with fail
        refine (HPA.out _).mono ?_
        rintro e w2 ⟨rfl, rfl⟩
        go_wp2_with fail
        refine (HM.out _).mono ?_
        rintro e w2 ⟨rfl, rfl⟩
        go_wp2_with fail
        go_ret
        first
          | exact ⟨rfl, HB1.out⟩
          | exact ⟨ret_bool (a := (decide (g * 1048576 + a < g' * 1048576 + a') == decide (g < g'))) (by rw [decide_eq_false (by omega), decide_eq_false (by omega)]; rfl), HB1.out⟩

end Go.Proofs.Ytikobhckkbicaaa
