/- Contract: first. -/
import Derived.Test.Ytndccdoohmgmlab5C
import Derived.Deep.QuietTactic
import Derived.BigQuiet
namespace Go.Proofs.Ytndccdoohmgmlab
open Go.RowKit Pk

/-- The answer of first, where there is a text. -/
def FirstOk (v : Value) (b t r : List UInt8) (w : World) (e : Ending) (w' : World) : Prop :=
  ∃ A c A' c' n, e = .returned (.tuple #[.slice A t.length c, .slice A' r.length c', .int .i64 0]) ∧ (∀ (X : World) (S : Nat → Prop), Bs X S v b → Bs X S (.slice A t.length c) t ∧ Bs X S (.slice A' r.length c') r) ∧ w' = w.drewN n
def FirstNo (w : World) (e : Ending) (w' : World) : Prop :=
  ∃ n, e = .returned (.tuple #[.slice none 0 0, .slice none 0 0, .int .i64 2]) ∧ w' = w.drewN n

set_option maxRecDepth 10000 in
set_option maxHeartbeats 2000000 in
theorem first_no (S : Nat → Prop) (v : Value) (b : List UInt8) (w : World) (hb : Bs w S v b) (hf : first b = none) : Calls Try.prog 32 #[v] w (FirstNo w) := by
  have HB := Lib.hid hb
  obtain ⟨A, c, rfl, hc1, hc2, _⟩ := hb
  unfold maxLen at hc2
  have h := first_none hf
  clear hf
  by_cases h4 : b.length < 4
  · generalize b.length = M at *
    clear h
    go_enter Try.func32, Try.ntmps32
    go_wp2_with fail
    go_ret3
    exact ⟨0, rfl, rfl⟩
  · have hx : num (b.take 4) < 0 ∨ (¬ num (b.take 4) < 0 ∧ ((b.length - 4 : Nat) : Int) < num (b.take 4)) := by
      rcases h with h | ⟨_, h⟩ | ⟨_, h1, h2⟩
      · omega
      · exact .inl h
      · exact .inr ⟨h1, by omega⟩
    clear h
    have hl4 : (b.take 4).length = 4 := by rw [List.length_take]; omega
    have HN := Lib.hid (show ∀ (A : Option Addr) (c : Nat) W, Bs W (fun _ => True) (.slice A 4 c) (b.take 4) → Calls Try.prog 28 #[.slice A 4 c] W fun e w' => e = .returned (.int .i64 (num (b.take 4))) ∧ W = w' from fun A c W h => number_any _ _ W h (by omega) (by omega))
    have HT := Lib.hid (fun n => ((HB.out.upto_ (j := 4) (by omega)).more (S' := fun _ => True) fun _ _ _ => trivial).keep (w' := w.drewN n) fun _ _ _ => rfl)
    generalize num (b.take 4) = X at *
    have hbh := HB.out.behind_ (i := 4) (by omega)
    generalize hM : b.length = M at *
    clear hl4 hM
    have h4' : (4 : Int) ≤ (M : Int) := by omega
    have h4c : (4 : Int) ≤ (c : Int) := by omega
    have h0c : (0 : Int) ≤ 4 := by omega
    rcases hbh with ⟨_, e1, _, _, _⟩ | ⟨ad, rfl, e1, e2, hnil⟩ | ⟨ad, rfl, hne, hlt, _⟩
    · omega
    · subst e1
      obtain rfl : M = 4 := e2
      clear hnil
      rcases hx with hx | ⟨hx, hx2⟩
      all_goals
        go_enter Try.func32, Try.ntmps32
        go_wp2_with fail
        go_quiet ((go_at_call 28; exact Calls.quiet_of_same ((HN.out _ _ _ (HT.out _)).mono fun _ _ h => ⟨h.1, h.2.symm⟩)))
        go_wp2_with fail
        go_ret3
        exact ⟨_, rfl, rfl⟩
    · rcases hx with hx | ⟨hx, hx2⟩
      all_goals
        go_enter Try.func32, Try.ntmps32
        go_wp2_with fail
        go_quiet ((go_at_call 28; exact Calls.quiet_of_same ((HN.out _ _ _ (HT.out _)).mono fun _ _ h => ⟨h.1, h.2.symm⟩)))
        go_wp2_with fail
        go_ret3
        exact ⟨_, rfl, rfl⟩

set_option maxRecDepth 10000 in
set_option maxHeartbeats 4000000 in
theorem first_ok (S : Nat → Prop) (v : Value) (b t r : List UInt8) (w : World) (hb : Bs w S v b) (hf : first b = some (t, r)) : Calls Try.prog 32 #[v] w (FirstOk v b t r w) := by
  have HB := Lib.hid hb
  obtain ⟨A, c, rfl, hc1, hc2, _⟩ := hb
  unfold maxLen at hc2
  obtain ⟨q1, q2, q3, q4, q5, q6⟩ := first_some hf
  have hl4 : (b.take 4).length = 4 := by rw [List.length_take]; omega
  have HN := Lib.hid (show ∀ (A : Option Addr) (c : Nat) W, Bs W (fun _ => True) (.slice A 4 c) (b.take 4) → Calls Try.prog 28 #[.slice A 4 c] W fun e w' => e = .returned (.int .i64 (num (b.take 4))) ∧ W = w' from fun A c W h => number_any _ _ W h (by omega) (by omega))
  rw [q3] at HN
  have HT := Lib.hid (fun n => ((HB.out.upto_ (j := 4) (by omega)).more (S' := fun _ => True) fun _ _ _ => trivial).keep (w' := w.drewN n) fun _ _ _ => rfl)
  have hbh := HB.out.behind_ (i := 4) q6
  have HQ4 := Lib.hid q4
  have HQ5 := Lib.hid q5
  have HQR := Lib.hid (show r.length = b.length - 4 - t.length by omega)
  have hq1 : t.length ≤ b.length - 4 := by omega
  generalize hTT : t.length = T at *
  have HTT := Lib.hid hTT
  clear hTT q2 q3 q4 q5 hf hl4
  generalize hM : b.length = M at *
  clear hM
  have h4 : ¬ M < 4 := by omega
  have h4c : (4 : Int) ≤ (c : Int) := by omega
  rcases hbh with ⟨_, e1, _, _, _⟩ | ⟨ad, rfl, e1, e2, hnil⟩ | ⟨ad, rfl, hne, hlt, htail⟩
  · omega
  · subst e1
    obtain rfl : M = 4 := e2
    obtain rfl : T = 0 := by omega
    have HR0 := Lib.hid (show r = [] from List.eq_nil_of_length_eq_zero (by omega))
    have HT0 := Lib.hid (show t = [] from List.eq_nil_of_length_eq_zero HTT.out)
    clear hnil q1
    go_enter Try.func32, Try.ntmps32
    go_wp2_with fail
    go_quiet ((go_at_call 28; exact Calls.quiet_of_same ((HN.out _ _ _ (HT.out _)).mono fun _ _ h => ⟨h.1, h.2.symm⟩)))
    go_wp2_with fail
    go_quiet (fail)
    go_wp2_with fail
    go_ret3
    refine ⟨some ad, 0, some ad, 0, _, by rw [HT0.out, HR0.out]; rfl, fun X S' _ => ⟨?_, ?_⟩, World.drewN_drewN _ _ _⟩
    · rw [HT0.out]; exact Bs.nothing (some ad) 0 (by simp [maxLen]) (fun h => by cases h)
    · rw [HR0.out]; exact Bs.nothing (some ad) 0 (by simp [maxLen]) (fun h => by cases h)
  · have HTL := Lib.hid htail
    have htx := htail.upto_ (j := T) hq1
    rw [← HQ4.out] at htx
    have HTX := Lib.hid htx
    have hbh2 := htail.behind_ (i := T) hq1
    rw [← HQ5.out] at hbh2
    clear htail htx q1
    rcases hbh2 with ⟨h, _⟩ | ⟨ad2, h2, e1, e2, hnil⟩ | ⟨ad2, h2, hne2, hlt2, htail2⟩
    · cases h
    · have HNIL := Lib.hid hnil
      have e3 : (M - 4 : Nat) = T := e2
      clear h2 hnil
      go_enter Try.func32, Try.ntmps32
      go_wp2_with fail
      go_quiet ((go_at_call 28; exact Calls.quiet_of_same ((HN.out _ _ _ (HT.out _)).mono fun _ _ h => ⟨h.1, h.2.symm⟩)))
      go_wp2_with fail
      go_quiet (fail)
      go_wp2_with fail
      go_ret3
      refine ⟨some ⟨ad.block, ad.off + 4, none⟩, T, some ⟨ad.block, ad.off + 4, none⟩, 0, _, by rw [HTT.out, HNIL.out]; rfl, fun X S' hX => ⟨?_, ?_⟩, World.drewN_drewN _ _ _⟩
      · have h := hX.piece (i := 4) (k := T) (by omega)
        rw [e1, ← HQ4.out] at h
        rw [HTT.out]
        exact h
      · rw [HNIL.out]; exact Bs.nothing _ 0 (by simp [maxLen]) (fun h => by cases h)
    · have HTAIL := Lib.hid htail2
      have hh2 : ad.add 4 = ad2 := by injection h2
      have HH2 := Lib.hid hh2
      clear h2 htail2 hh2
      go_enter Try.func32, Try.ntmps32
      go_wp2_with fail
      go_quiet ((go_at_call 28; exact Calls.quiet_of_same ((HN.out _ _ _ (HT.out _)).mono fun _ _ h => ⟨h.1, h.2.symm⟩)))
      go_wp2_with fail
      go_quiet (fail)
      go_wp2_with fail
      go_ret3
      refine ⟨some ⟨ad.block, ad.off + 4, none⟩, c - 4, some ⟨ad.block, ad.off + 4 + T, none⟩, c - 4 - T, _, by rw [HTT.out, HQR.out]; rfl, fun X S' hX => ⟨?_, ?_⟩, World.drewN_drewN _ _ _⟩
      · have h := hX.piece (i := 4) (k := T) (by omega)
        rw [← HQ4.out] at h
        rw [HTT.out]
        exact h
      · rw [HQR.out]
        have h := (hX.tail (i := 4) (by omega)).tail (i := T) hq1
        rw [← HQ5.out] at h
        have e : (ad.add 4).add T = ⟨ad.block, ad.off + 4 + T, none⟩ := by
          show (⟨ad.block, ad.off + 4, none⟩ : Addr).add T = _
          unfold Addr.add
          split <;> simp_all
        rw [e] at h
        exact h

end Go.Proofs.Ytndccdoohmgmlab
