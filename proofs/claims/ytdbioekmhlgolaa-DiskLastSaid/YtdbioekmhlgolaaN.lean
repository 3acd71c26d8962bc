/- What follows of a fuse, over lists. -/
import Derived.Test.YtdbioekmhlgolaaY
import Derived.Test.YtdbioekmhlgolaaV
namespace Go.Proofs.Ytdbioekmhlgolaa
open Go.RowKit Dk

def sect (x : UInt8) : List UInt8 := List.replicate 32 x

/-- A disk that lives, of n sectors, with at most k writes that are not flushed. -/
def Alive (n k : Nat) (d : Disk) : Prop := d.ok = true ∧ d.dead = false ∧ d.fuse = -1 ∧ d.dry.length = n * 32 ∧ d.wet.length ≤ k

/-- The same with a fuse. -/
def twin (m : Int) (d : Disk) : Disk := { d with fuse := m }
def out (d : Disk) : Disk := { d with fuse := 0, dead := true }

theorem twin_ok {d : Disk} {m : Int} (h : d.ok = true) (h0 : -1 ≤ m) (h1 : m ≤ 1073741824) : (twin m d).ok = true := by
  unfold Disk.ok at h
  rw [Bool.and_eq_true] at h
  obtain ⟨h2, h3⟩ := h
  obtain ⟨a1, a2, a3, a4, _⟩ := of_decide_eq_true h2
  unfold twin Disk.ok
  rw [Bool.and_eq_true]
  exact ⟨decide_eq_true ⟨a1, a2, a3, a4, h0, h1⟩, h3⟩
theorem out_ok {d : Disk} (h : d.ok = true) : (out d).ok = true := twin_ok (m := 0) h (by omega) (by omega)

theorem put_ok' {d : Disk} {p : Int} {b : List UInt8} (h : d.ok = true) (hh : d.has p = true) (hb : b.length = 32) (hw : d.wet.length < 8192) : (put p b d).ok = true := by
  simp only [Disk.ok, Bool.and_eq_true, decide_eq_true_eq, List.all_eq_true] at h
  simp only [Disk.has, decide_eq_true_eq] at hh
  simp only [put, Disk.ok, Bool.and_eq_true, decide_eq_true_eq, List.all_eq_true, List.length_append, List.length_cons, List.length_nil]
  refine ⟨by omega, fun x hx => ?_⟩
  rcases List.mem_append.1 hx with hx | hx
  · exact h.2 x hx
  · rw [List.mem_singleton] at hx
    subst hx
    simp only [okWr, decide_eq_true_eq]
    exact ⟨hb, hh.1, hh.2⟩

theorem deed_free {d : Disk} (f : Disk → Disk) (h : d.fuse = -1) : deed d f = (f d, 0) := by
  have hb : burn d = (d, true) := by rw [burn, if_neg (by omega), if_pos h]
  rw [deed, hb]
  rfl
theorem deed_burns {d : Disk} (f : Disk → Disk) (h : 1 ≤ d.fuse) : deed d f = (f { d with fuse := d.fuse - 1 }, 0) := by
  have hb : burn d = ({ d with fuse := d.fuse - 1 }, true) := by rw [burn, if_neg (by omega), if_neg (by omega)]
  rw [deed, hb]
  rfl
theorem deed_out {d : Disk} (f : Disk → Disk) (h : d.fuse = 0) : deed d f = ({ d with dead := true }, 11) := by
  have hb : burn d = ({ d with dead := true }, false) := by rw [burn, if_pos h]
  rw [deed, hb]
  rfl

theorem flush_deed {d : Disk} (h : d.ok = true) (hd : d.dead = false) : flush d = deed d (dryAll fun _ => 32) := by
  rw [flush, if_pos (ready_one h hd rfl)]
theorem write_deed {d : Disk} {p : Int} {b : List UInt8} (h : d.ok = true) (hd : d.dead = false) (hh : d.has p = true) (hb : b.length = 32) (hw : d.wet.length < 8192) : write d p b = deed d (put p b) := by
  rw [write, if_pos (ready_one h hd (by simp [hb])), if_pos hh, if_neg (by omega)]

theorem sect_length (x : UInt8) : (sect x).length = 32 := List.length_replicate

theorem has_mod {d : Disk} {n : Nat} (hn : 1 ≤ n) (hd : d.dry.length = n * 32) (x : UInt8) : d.has ((x.toNat : Int) % (n : Int)) = true := by
  have h1 := Int.emod_nonneg (x.toNat : Int) (b := (n : Int)) (by omega)
  have h2 := Int.emod_lt_of_pos (x.toNat : Int) (b := (n : Int)) (by omega)
  simp only [Disk.has, decide_eq_true_eq]
  rw [hd]
  omega

theorem step_alive {n k : Nat} {d : Disk} (hn : 1 ≤ n) (h : Alive n k d) (hk : k ≤ 60) (x : UInt8) :
    flush d = (dryAll (fun _ => 32) d, 0) ∧ Alive n (k + 1) (dryAll (fun _ => 32) d) ∧ write d ((x.toNat : Int) % (n : Int)) (sect x) = (put ((x.toNat : Int) % (n : Int)) (sect x) d, 0) ∧ Alive n (k + 1) (put ((x.toNat : Int) % (n : Int)) (sect x) d) := by
  obtain ⟨h1, h2, h3, h4, h5⟩ := h
  have hh := has_mod hn h4 x
  refine ⟨by rw [flush_deed h1 h2, deed_free _ h3], ⟨dryAll_ok h1 _, h2, h3, ?_, by simp [dryAll]⟩, by rw [write_deed h1 h2 hh (sect_length x) (by omega), deed_free _ h3], ⟨put_ok' h1 hh (sect_length x) (by omega), h2, h3, h4, by simp [put]; omega⟩⟩
  rw [dryAll]
  dsimp only
  rw [pour_length _ _ _ _ (ok_fits h1), h4]
theorem step_twin {n k : Nat} {d : Disk} {m : Int} (hn : 1 ≤ n) (h : Alive n k d) (hk : k ≤ 60) (x : UInt8) (h0 : 1 ≤ m) (h1 : m ≤ 200) :
    flush (twin m d) = (twin (m - 1) (dryAll (fun _ => 32) d), 0) ∧ write (twin m d) ((x.toNat : Int) % (n : Int)) (sect x) = (twin (m - 1) (put ((x.toNat : Int) % (n : Int)) (sect x) d), 0) := by
  obtain ⟨g1, g2, g3, g4, g5⟩ := h
  have ho := twin_ok (m := m) g1 (by omega) (by omega)
  exact ⟨by rw [flush_deed ho g2, deed_burns _ (by exact h0)]; rfl, by rw [write_deed ho g2 (has_mod hn g4 x) (sect_length x) (by show d.wet.length < 8192; omega), deed_burns _ (by exact h0)]; rfl⟩
theorem step_out {n k : Nat} {d : Disk} (hn : 1 ≤ n) (h : Alive n k d) (hk : k ≤ 60) (x : UInt8) :
    flush (twin 0 d) = (out d, 11) ∧ write (twin 0 d) ((x.toNat : Int) % (n : Int)) (sect x) = (out d, 11) := by
  obtain ⟨g1, g2, g3, g4, g5⟩ := h
  have ho := twin_ok (m := 0) g1 (by omega) (by omega)
  exact ⟨by rw [flush_deed ho g2, deed_out _ rfl]; rfl, by rw [write_deed ho g2 (has_mod hn g4 x) (sect_length x) (by show d.wet.length < 8192; omega), deed_out _ rfl]; rfl⟩
theorem step_dead {d : Disk} (h : d.ok = true) (hd : d.dead = true) (p : Int) (x : UInt8) : flush d = (.zero, 11) ∧ write d p (sect x) = (.zero, 11) := by
  have r1 : ready d true = 11 := by simp [ready, h, hd]
  have r2 : ready d (decide ((sect x).length = 32)) = 11 := by simp [ready, h, hd, sect_length]
  exact ⟨by rw [flush, r1]; rfl, by rw [write, r2]; rfl⟩

theorem new_alive {n : Nat} (h1 : 1 ≤ n) (h2 : n ≤ 12) : ∃ d, new (n : Int) = (d, 0) ∧ Alive n 0 d := by
  refine ⟨_, by rw [new, if_neg (by omega)], ?_⟩
  rw [Int.toNat_natCast]
  refine ⟨?_, rfl, rfl, List.length_replicate, Nat.le_refl _⟩
  simp only [Disk.ok, List.length_replicate, List.length_nil, List.all_nil, Bool.and_true, decide_eq_true_eq]
  omega
theorem lit_twin {n k : Nat} {d : Disk} {m : Int} (h : Alive n k d) (h0 : 0 ≤ m) (h1 : m ≤ 200) : lit d m = (twin m d, 0) := by
  obtain ⟨g1, g2, _⟩ := h
  have r : ready d (fuseOk m) = 0 := ready_one g1 g2 (by simp [fuseOk]; omega)
  rw [lit, if_pos r]
  rfl

/-- One round: what both disks come to. -/
theorem fuse_step {n k : Nat} {a b : Disk} {fuse : Int} (hn : 1 ≤ n) (hk : k ≤ 60) (h : Alive n k a) (hf : fuse ≤ 200) (hb : ((k : Int) ≤ fuse ∧ b = twin (fuse - k) a) ∨ (fuse < (k : Int) ∧ b.ok = true ∧ b.dead = true)) (x : UInt8) :
    ∃ F G X Y gh, flush a = (F, 0) ∧ flush b = (G, gh) ∧ write a ((x.toNat : Int) % (n : Int)) (sect x) = (X, 0) ∧ write b ((x.toNat : Int) % (n : Int)) (sect x) = (Y, gh) ∧ Alive n (k + 1) F ∧ Alive n (k + 1) X ∧
      (((k : Int) < fuse ∧ gh = 0 ∧ G = twin (fuse - ((k + 1 : Nat) : Int)) F ∧ Y = twin (fuse - ((k + 1 : Nat) : Int)) X) ∨
       ((k : Int) = fuse ∧ gh = 11 ∧ (G.ok = true ∧ G.dead = true) ∧ (Y.ok = true ∧ Y.dead = true)) ∨
       (fuse < (k : Int) ∧ gh = 11 ∧ (b.ok = true ∧ b.dead = true) ∧ G.dead = false ∧ Y.dead = false)) := by
  obtain ⟨s1, s2, s3, s4⟩ := step_alive hn h hk x
  rcases hb with ⟨h1, rfl⟩ | ⟨h1, h2, h3⟩
  · by_cases h4 : (k : Int) < fuse
    · obtain ⟨t1, t2⟩ := step_twin hn h hk x (m := fuse - k) (by omega) (by omega)
      exact ⟨_, _, _, _, _, s1, t1, s3, t2, s2, s4, .inl ⟨h4, rfl, by rw [show fuse - (k : Int) - 1 = fuse - ((k + 1 : Nat) : Int) from by omega], by rw [show fuse - (k : Int) - 1 = fuse - ((k + 1 : Nat) : Int) from by omega]⟩⟩
    · obtain ⟨t1, t2⟩ := step_out hn h hk x
      rw [show fuse - (k : Int) = 0 from by omega]
      exact ⟨_, _, _, _, _, s1, t1, s3, t2, s2, s4, .inr (.inl ⟨by omega, rfl, ⟨out_ok h.1, rfl⟩, ⟨out_ok h.1, rfl⟩⟩)⟩
  · obtain ⟨t1, t2⟩ := step_dead h2 h3 ((x.toNat : Int) % (n : Int)) x
    exact ⟨_, _, _, _, _, s1, t1, s3, t2, s2, s4, .inr (.inr ⟨h1, rfl, ⟨h2, h3⟩, rfl, rfl⟩)⟩

end Go.Proofs.Ytdbioekmhlgolaa
