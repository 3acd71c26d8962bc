/- Contract: disk.Same of two disks without a write that is not flushed; what follows for DiskTwice, over lists. -/
import Derived.Test.YtikobhckkbicaaaV
import Derived.Test.YtikobhckkbicaaaLcrash
namespace Go.Proofs.Ytikobhckkbicaaa
open Go.RowKit Dk

set_option maxHeartbeats 1000000 in
theorem equalFunc_nil (A B : Option Addr) (c c' : Nat) (vf : Value) (w : World) (hc : c ≤ maxLen) (hc' : c' ≤ maxLen) :
    Calls Try.prog 62 #[.slice A 0 c, .slice B 0 c', vf] w fun e w' => e = .returned (.bool true) ∧ w = w' := by
  go_enter Try.func62, Try.ntmps62
  go_wp2_with fail
  go_loopw [17] (fun i wr => i = .int .i64 0 ∧ wr = w) (fun _ _ => 0)
  case atStart => exact ⟨rfl, rfl⟩
  case round =>
    obtain ⟨rfl, rfl⟩ := hrel
    go_wp2_with fail
    go_ret
    exact ⟨rfl, rfl⟩

set_option maxHeartbeats 4000000 in
theorem same_dry (v v' : Value) (d d' : Disk) (w : World) (h : DiskR w (fun _ => True) v d) (h' : DiskR w (fun _ => True) v' d') (hw : d.wet = []) (hw' : d'.wet = []) (hf : d.fuse = d'.fuse) (hd : d.dead = d'.dead) (hb : d.dry = d'.dry) :
    Calls Try.prog 35 #[v, v'] w fun e w' => e = .returned (.bool true) ∧ Below w.heap.size w w' := by
  obtain ⟨dry, wet, fuse, dead⟩ := d
  obtain ⟨dry', wet', fuse', dead'⟩ := d'
  dsimp only at hw hw' hf hd hb
  subst hw hw' hf hd hb
  have HA := Lib.hid h
  have HB := Lib.hid h'
  obtain ⟨vd, vw, rfl, ⟨A, c, rfl, hdc, hdm, _⟩, A', c', xs, rfl, hwc, hwm, _⟩ := h
  obtain ⟨vd1, vw1, rfl, ⟨A1, c1, rfl, hdc1, hdm1, _⟩, A1', c1', xs1, rfl, hwc1, hwm1, _⟩ := h'
  dsimp only [List.length_nil] at *
  have HE := Lib.hid (fun W (hb : Below w.heap.size w W) => equal_any (.slice A dry.length c) (.slice A1 dry.length c1) dry dry W (HA.out.below hb).octets (HB.out.below hb).octets)
  have HF := Lib.hid (fun vf W => equalFunc_nil A' A1' c' c1' vf W hwm hwm1)
  simp only [decide_true] at HE
  go_enter Try.func35, Try.ntmps35
  go_wp2_with fail
  refine (HE.out _ (((Below.refl _ _).alloc (Nat.le_refl _) _).alloc (by simp) _)).mono ?_
  rintro e w1 ⟨rfl, rfl⟩
  go_wp2_with fail
  refine (HF.out _ _).mono ?_
  rintro e w2 ⟨rfl, rfl⟩
  go_wp2_with fail
  go_ret
  exact ⟨rfl, ((Below.refl _ _).alloc (Nat.le_refl _) _).alloc (by simp) _⟩

theorem flush_alive {d z : Disk} (h : flush d = (z, 0)) : z.dead = false := by
  unfold flush at h
  split at h
  · rename_i hr
    obtain ⟨h1, h2, h3⟩ := ready_zero hr
    unfold deed at h
    split at h
    · rename_i hb2
      injection h with h _
      subst h
      show (burn d).1.dead = false
      unfold burn at hb2 ⊢
      split
      · rename_i hf
        rw [if_pos hf] at hb2
        cases hb2
      · split
        · exact h3
        · exact h3
    · injection h with _ h
      cases h
  · rename_i hr
    injection h with _ h
    exact absurd h hr
/-- A flush behind a flush, over lists. -/
theorem flush_twice {d : Disk} (h : d.ok = true) : (∃ z, flush d = (z, 11)) ∨ ∃ z, flush d = (z, 0) ∧ z.wet = [] ∧ ((∃ y, flush z = (y, 0) ∧ z.dry = y.dry) ∨ ∃ y, flush z = (y, 11) ∧ z.fuse = 0) := by
  rcases flush_cases h with ⟨z, hz, hzo, hzd, hzw, _⟩ | ⟨z, hz, _⟩
  · refine .inr ⟨z, hz, hzw, ?_⟩
    have ha := flush_alive hz
    rcases flush_cases hzo with ⟨y, hy, _, hyd, _, _⟩ | ⟨y, hy, hf⟩
    · refine .inl ⟨y, hy, ?_⟩
      rw [hyd, hzw]
      rfl
    · refine .inr ⟨y, hy, ?_⟩
      rcases hf with hf | hf
      · rw [ha] at hf
        cases hf
      · exact hf
  · exact .inl ⟨z, hz⟩
theorem crash_done {d : Disk} (h : d.ok = true) (keep : List UInt8) : ∃ c, crash d keep = (c, 0) ∧ c.ok = true ∧ c.wet = [] ∧ c.fuse = -1 ∧ c.dead = false ∧ c.dry = pour (keepOf keep) 0 d.wet d.dry := by
  refine ⟨_, by rw [crash, if_pos h], ?_, rfl, rfl, rfl, rfl⟩
  have := dryAll_ok h (keepOf keep)
  simp only [Disk.ok, Bool.and_eq_true, decide_eq_true_eq] at this ⊢
  exact ⟨by omega, this.2⟩
/-- A crash behind a crash, over lists. -/
theorem crash_twice {d : Disk} (h : d.ok = true) (keep more : List UInt8) : ∃ c c2, crash d keep = (c, 0) ∧ crash c more = (c2, 0) ∧ c.wet = [] ∧ c2.wet = [] ∧ c.fuse = c2.fuse ∧ c.dead = c2.dead ∧ c.dry = c2.dry := by
  obtain ⟨c, h1, h2, h3, h4, h5, _⟩ := crash_done h keep
  obtain ⟨c2, k1, _, k3, k4, k5, k6⟩ := crash_done h2 more
  exact ⟨c, c2, h1, k1, h3, k3, h4.trans k4.symm, h5.trans k5.symm, by rw [k6, h3]; rfl⟩
theorem not_ok_all {d : Disk} (h : d.ok = false) (keep : List UInt8) : flush d = (Disk.zero, 1) ∧ crash d keep = (Disk.zero, 1) ∧ check d = 1 := by
  have hr : ready d true = 1 := by simp [ready, h]
  exact ⟨by rw [flush, hr]; rfl, by rw [crash, h]; rfl, by simp [check, h]⟩

end Go.Proofs.Ytikobhckkbicaaa
