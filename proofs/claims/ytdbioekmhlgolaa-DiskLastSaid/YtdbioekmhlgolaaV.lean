/- What follows of one sector beside another, over lists. -/
import Derived.Test.YtdbioekmhlgolaaQ
namespace Go.Proofs.Ytdbioekmhlgolaa
open Go.RowKit Dk

/-! ### One sector -/
/-- A sector of the dry octets. -/
def sec (l : List UInt8) (o : Nat) : List UInt8 := (l.drop (o * 32)).take 32
theorem sec_over_same (l cs : List UInt8) (o : Nat) (h : cs.length = 32) (hl : o * 32 + 32 ≤ l.length) : sec (over l (o * 32) cs) o = cs := by
  have h1 : (l.take (o * 32)).length = o * 32 := by rw [List.length_take]; omega
  rw [sec, over, List.append_assoc, List.drop_append, List.drop_of_length_le (by omega), h1, Nat.sub_self, List.drop_zero, List.nil_append, List.take_append, h, Nat.sub_self, List.take_zero, List.append_nil, List.take_of_length_le (by omega)]
theorem sec_over_other (l cs : List UInt8) (p o : Nat) (h : cs.length ≤ 32) (hl : p * 32 + cs.length ≤ l.length) (hne : p ≠ o) : sec (over l (p * 32) cs) o = sec l o := by
  have h1 : (l.take (p * 32)).length = p * 32 := by rw [List.length_take]; omega
  apply List.ext_getElem?
  intro i
  simp only [sec, over, List.getElem?_take, List.getElem?_drop]
  split
  · rename_i hi
    by_cases hp : o < p
    · rw [List.append_assoc, List.getElem?_append_left (by omega), List.getElem?_take, if_pos (by omega)]
    · rw [List.getElem?_append_right (by rw [List.length_append]; omega), List.getElem?_drop, List.length_append, h1]
      congr 1
      omega
  · rfl
theorem sec_pour (many : Nat → Nat) (o : Nat) : ∀ (l : List Wr) (i : Nat) (b : List UInt8), (∀ x ∈ l, x.b.length = 32 ∧ 0 ≤ x.pos ∧ x.pos.toNat * 32 + 32 ≤ b.length) →
    (∀ j x, l[j]? = some x → x.pos = (o : Int) → 32 ≤ many (i + j)) →
    sec (pour many i l b) o = (match l.reverse.find? (fun x => x.pos == (o : Int)) with | some x => x.b | none => sec b o)
  | [], _, _, _, _ => rfl
  | x :: r, i, b, h, hm => by
    obtain ⟨h1, h2, h3⟩ := h x (by simp)
    have hl : (over b (x.pos.toNat * 32) (x.b.take (many i))).length = b.length := over_length _ _ _ (by rw [List.length_take]; omega)
    rw [pour, sec_pour many o r (i + 1) _ (fun y hy => by rw [hl]; exact h y (by simp [hy])) (fun j y hj hy => by
      have := hm (j + 1) y (by simpa using hj) hy
      rw [show i + 1 + j = i + (j + 1) by omega]
      exact this), List.reverse_cons, List.find?_append]
    cases hf : r.reverse.find? (fun x => x.pos == (o : Int))
    · by_cases hx : x.pos = (o : Int)
      · have hk := hm 0 x (by simp) hx
        have ho : x.pos.toNat = o := by omega
        simp only [Nat.add_zero] at hk
        rw [ho, List.take_of_length_le (by omega), sec_over_same b x.b o h1 (by omega)]
        simp [hx]
      · have ho : x.pos.toNat ≠ o := by omega
        rw [sec_over_other b _ _ o (by rw [List.length_take]; omega) (by rw [List.length_take]; omega) ho]
        simp [hx]
    · simp

theorem ok_wrs {d : Disk} (h : d.ok = true) : ∀ x ∈ d.wet, x.b.length = 32 ∧ 0 ≤ x.pos ∧ x.pos.toNat * 32 + 32 ≤ d.dry.length := by
  simp only [Disk.ok, Bool.and_eq_true, decide_eq_true_eq, List.all_eq_true] at h
  intro x hx
  have := h.2 x hx
  simp only [okWr, decide_eq_true_eq] at this
  omega
theorem ready_one {d : Disk} {fine : Bool} (h : d.ok = true) (hd : d.dead = false) (hf : fine = true) : ready d fine = 0 := by simp [ready, h, hd, hf]
theorem read_zero {d : Disk} {o : Int} {R : List UInt8} (h : Dk.read d o = (R, 0)) : d.ok = true ∧ d.dead = false ∧ d.has o = true ∧ R = d.look o := by
  unfold Dk.read at h
  split at h
  · rename_i hr
    obtain ⟨h1, _, h2⟩ := ready_zero hr
    split at h
    · rename_i hh
      injection h with h _
      exact ⟨h1, h2, hh, h.symm⟩
    · injection h with _ h
      cases h
  · rename_i hr
    injection h with _ h
    exact absurd h hr
theorem read_one {d : Disk} {o : Int} (h : d.ok = true) (hd : d.dead = false) (hh : d.has o = true) : Dk.read d o = (d.look o, 0) := by
  rw [Dk.read, if_pos (ready_one h hd rfl), if_pos hh]
/-- A write that is done. -/
theorem write_zero {d z : Disk} {p : Int} {b : List UInt8} (h : write d p b = (z, 0)) :
    d.ok = true ∧ d.dead = false ∧ b.length = 32 ∧ d.has p = true ∧ z.dry = d.dry ∧ z.wet = d.wet ++ [⟨p, b⟩] ∧ z.dead = false ∧ z.ok = true := by
  unfold write at h
  split at h
  · rename_i hr
    obtain ⟨h1, h2, h3⟩ := ready_zero hr
    have hb : b.length = 32 := by simpa using h2
    split at h
    · rename_i hh
      split at h
      · injection h with _ h
        cases h
      · rename_i hl
        unfold deed at h
        split at h
        · rename_i hb2
          injection h with h _
          have hp := burn_parts d
          have hok := burn_ok h1
          have hdd : (burn d).1.dead = false := by
            unfold burn at hb2 ⊢
            split
            · rename_i hf
              rw [if_pos hf] at hb2
              cases hb2
            · split
              · exact h3
              · exact h3
          subst h
          refine ⟨h1, h3, hb, hh, hp.1, by rw [put, hp.2], hdd, ?_⟩
          simp only [Disk.ok, Bool.and_eq_true, decide_eq_true_eq, List.all_eq_true, Disk.has] at hok h1 hh ⊢
          simp only [put, List.length_append, List.length_singleton, hp.1, hp.2, List.mem_append, List.mem_singleton] at hok ⊢
          refine ⟨by omega, fun x hx => ?_⟩
          rcases hx with hx | rfl
          · exact hok.2 x hx
          · simp only [okWr, decide_eq_true_eq]
            exact ⟨hb, hh⟩
        · injection h with _ h
          cases h
    · injection h with _ h
      cases h
  · rename_i hr
    injection h with _ h
    exact absurd h hr
theorem has_eq {a b : Disk} (h : a.dry.length = b.dry.length) (y : Int) : a.has y = b.has y := by rw [Disk.has, Disk.has, h]
theorem look_put {d z : Disk} {p o : Int} {b : List UInt8} (hd : z.dry = d.dry) (hw : z.wet = d.wet ++ [⟨p, b⟩]) : z.look o = if p = o then b else d.look o := by
  rw [Disk.look, hd, hw, List.reverse_append, List.reverse_singleton, List.singleton_append, List.find?_cons]
  by_cases h : p = o
  · simp [h]
  · simp only [show (p == o) = false by simpa using h, if_neg h]
    rfl
theorem keep_most (L i : Nat) (k : UInt8) (h : i < L) : keepOf (List.replicate L 255 ++ [k]) i = 32 := by
  rw [keepOf, List.getElem?_append_left (by simpa using h), List.getElem?_replicate, if_pos h]
  rfl
/-- DiskApart, over lists. -/
theorem apart {d z : Disk} {p o : Int} {b R : List UInt8} (k : UInt8) (hne : o ≠ p) (hr : Dk.read d o = (R, 0)) (hw : write d p b = (z, 0)) :
    Dk.read z o = (R, 0) ∧ (∃ c, crash z (List.replicate d.wet.length 255 ++ [k]) = (c, 0) ∧ Dk.read c o = (R, 0)) ∧ Dk.read z p = (b, 0) := by
  obtain ⟨h1, h2, h3, rfl⟩ := read_zero hr
  obtain ⟨-, -, hb, hp, hzd, hzw, hzl, hzo⟩ := write_zero hw
  have hh : ∀ y, z.has y = d.has y := fun y => by rw [Disk.has, Disk.has, hzd]
  have hl : z.look o = d.look o := by rw [look_put hzd hzw, if_neg (fun h => hne h.symm)]
  refine ⟨by rw [read_one hzo hzl ((hh o).trans h3), hl], ⟨_, by rw [crash, if_pos hzo], ?_⟩, by rw [read_one hzo hzl ((hh p).trans hp), look_put hzd hzw, if_pos rfl]⟩
  have hfit := ok_wrs hzo
  have hpl := pour_length (keepOf (List.replicate d.wet.length 255 ++ [k])) z.wet 0 z.dry (ok_fits hzo)
  have hok : ({ dryAll (keepOf (List.replicate d.wet.length 255 ++ [k])) z with fuse := -1, dead := false } : Disk).ok = true := by
    have := dryAll_ok hzo (keepOf (List.replicate d.wet.length 255 ++ [k]))
    simp only [Disk.ok, Bool.and_eq_true, decide_eq_true_eq] at this ⊢
    exact ⟨by omega, this.2⟩
  have ho : 0 ≤ o := by simp [Disk.has] at h3; omega
  obtain ⟨n, rfl⟩ : ∃ n : Nat, o = n := ⟨o.toNat, by omega⟩
  rw [read_one hok rfl ((has_eq (hpl.trans (congrArg List.length hzd)) _).trans h3), ← hl]
  congr 1
  have hs := sec_pour (keepOf (List.replicate d.wet.length 255 ++ [k])) n z.wet 0 z.dry hfit (fun j x hj hx => by
    rw [hzw] at hj
    by_cases hlt : j < d.wet.length
    · rw [Nat.zero_add, keep_most _ _ _ hlt]
      exact Nat.le_refl _
    · rw [List.getElem?_append_right (by omega)] at hj
      have : x = ⟨p, b⟩ := by
        rcases hq : j - d.wet.length with _ | q
        · rw [hq] at hj; simpa using hj.symm
        · rw [hq] at hj; simp at hj
      subst this
      exact absurd hx.symm hne)
  exact hs

end Go.Proofs.Ytdbioekmhlgolaa
