/- What follows of a disk, over lists. -/
import Derived.Test.YtdbioekmhlgolaaO
namespace Go.Proofs.Ytdbioekmhlgolaa
open Go.RowKit Dk

/-! ### What follows, over lists -/
theorem pour_congr {f g : Nat → Nat} : ∀ (l : List Wr) (i : Nat) (b : List UInt8), (∀ j, i ≤ j → j < i + l.length → f j = g j) → pour f i l b = pour g i l b
  | [], _, _, _ => rfl
  | x :: r, i, b, h => by
    rw [pour, pour, h i (Nat.le_refl _) (by simp)]
    exact pour_congr r (i + 1) _ fun j h1 h2 => h j (by omega) (by simp at h2 ⊢; omega)
theorem pour_none : ∀ (l : List Wr) (i : Nat) (b : List UInt8), pour (fun _ => 0) i l b = b
  | [], _, _ => rfl
  | x :: r, i, b => by
    rw [pour, List.take_zero, pour_none r (i + 1)]
    simp [over]
theorem pour_length (many : Nat → Nat) : ∀ (l : List Wr) (i : Nat) (b : List UInt8), (∀ x ∈ l, x.pos.toNat * 32 + x.b.length ≤ b.length) → (pour many i l b).length = b.length
  | [], _, _, _ => rfl
  | x :: r, i, b, h => by
    have h1 := h x (by simp)
    have hl : (over b (x.pos.toNat * 32) (x.b.take (many i))).length = b.length := over_length _ _ _ (by rw [List.length_take]; omega)
    rw [pour, pour_length many r (i + 1) _ (fun y hy => by rw [hl]; exact h y (by simp [hy])), hl]
theorem ok_fits {d : Disk} (h : d.ok = true) : ∀ x ∈ d.wet, x.pos.toNat * 32 + x.b.length ≤ d.dry.length := by
  simp only [Disk.ok, Bool.and_eq_true, decide_eq_true_eq, List.all_eq_true] at h
  intro x hx
  have := h.2 x hx
  simp only [okWr, decide_eq_true_eq] at this
  omega
theorem keep_all (L i : Nat) (h : i < L) : keepOf (List.replicate L 32) i = 32 := by
  rw [keepOf, List.getElem?_replicate, if_pos h]
  rfl
theorem keep_none (i : Nat) : keepOf [] i = 0 := by simp [keepOf]
theorem crash_all {d : Disk} (h : d.ok = true) : crash d (List.replicate d.wet.length 32) = ({ dryAll (fun _ => 32) d with fuse := -1, dead := false }, 0) := by
  rw [crash, if_pos h, dryAll, dryAll, pour_congr d.wet 0 d.dry fun j _ hj => keep_all _ j (by omega)]
theorem crash_nothing {d : Disk} (h : d.ok = true) : crash d [] = ({ d with wet := [], fuse := -1, dead := false }, 0) := by
  rw [crash, if_pos h, dryAll, show keepOf [] = fun _ => 0 from funext keep_none, pour_none]
theorem dryAll_ok {d : Disk} (h : d.ok = true) (many : Nat → Nat) : (dryAll many d).ok = true := by
  have hl := pour_length many d.wet 0 d.dry (ok_fits h)
  simp only [Disk.ok, Bool.and_eq_true, decide_eq_true_eq] at h
  simp only [dryAll, Disk.ok, hl, List.length_nil, List.all_nil, Bool.and_true, decide_eq_true_eq]
  omega
theorem burn_parts (d : Disk) : (burn d).1.dry = d.dry ∧ (burn d).1.wet = d.wet := by
  unfold burn
  split
  · exact ⟨rfl, rfl⟩
  · split <;> exact ⟨rfl, rfl⟩
theorem burn_no {d : Disk} (h : (burn d).2 = false) : d.fuse = 0 := by
  unfold burn at h
  split at h
  · assumption
  · split at h <;> cases h
/-- A flush of a disk that may be is done, or it is Dead, or its fuse was burnt down. -/
theorem flush_cases {d : Disk} (h : d.ok = true) : (∃ z, flush d = (z, 0) ∧ z.ok = true ∧ z.dry = pour (fun _ => 32) 0 d.wet d.dry ∧ z.wet = [] ∧ d.dead = false) ∨ (∃ z, flush d = (z, 11) ∧ (d.dead = true ∨ d.fuse = 0)) := by
  cases hd : d.dead
  · have hr : ready d true = 0 := by simp [ready, h, hd]
    rw [flush, if_pos hr]
    cases hb : (burn d).2
    · exact .inr ⟨_, by rw [deed, hb]; rfl, .inr (burn_no hb)⟩
    · refine .inl ⟨_, by rw [deed, hb]; rfl, dryAll_ok (burn_ok h) _, ?_, rfl, rfl⟩
      rw [dryAll, (burn_parts d).1, (burn_parts d).2]
  · have hr : ready d true = 11 := by simp [ready, h, hd]
    exact .inr ⟨Disk.zero, by rw [flush, hr]; rfl, .inl rfl⟩
theorem crash_dry {d : Disk} (h : d.ok = true) (hw : d.wet = []) (keep : List UInt8) : ∃ z, crash d keep = (z, 0) ∧ z.dry = d.dry := by
  refine ⟨_, by rw [crash, if_pos h], ?_⟩
  show pour _ 0 d.wet d.dry = d.dry
  rw [hw]
  rfl

end Go.Proofs.Ytdbioekmhlgolaa
