/- Plain facts for the law DiskLast: a disk whose sectors are of one octet each. -/
import Derived.Test.YtdbioekmhlgolaaV
namespace Go.Proofs.Ytdbioekmhlgolaa
open Dk

/-- Each of these octets a sector long. -/
def flat : List UInt8 → List UInt8
  | [] => []
  | c :: r => List.replicate 32 c ++ flat r

theorem flat_length : ∀ ks : List UInt8, (flat ks).length = ks.length * 32
  | [] => rfl
  | c :: r => by rw [flat, List.length_append, List.length_replicate, flat_length r, List.length_cons]; omega

theorem flat_append : ∀ a b : List UInt8, flat (a ++ b) = flat a ++ flat b
  | [], b => rfl
  | c :: r, b => by rw [List.cons_append, flat, flat, flat_append r b, List.append_assoc]

theorem flat_zeros : ∀ n : Nat, flat (List.replicate n 0) = List.replicate (n * 32) 0
  | 0 => rfl
  | n + 1 => by rw [List.replicate_succ, flat, flat_zeros n, List.replicate_append_replicate]; congr 1; omega

theorem flat_split {ks : List UInt8} {a : Nat} {x : UInt8} (h : ks[a]? = some x) : flat ks = flat (ks.take a) ++ (List.replicate 32 x ++ flat (ks.drop (a + 1))) := by
  obtain ⟨hl, hx⟩ := List.getElem?_eq_some_iff.1 h
  have e : ks = ks.take a ++ x :: ks.drop (a + 1) := by
    rw [← hx, List.getElem_cons_drop, List.take_append_drop]
  conv => lhs; rw [e]
  rw [flat_append, flat]

theorem flat_sector {ks : List UInt8} {a : Nat} {x : UInt8} (h : ks[a]? = some x) : ((flat ks).drop (a * 32)).take 32 = List.replicate 32 x := by
  have hl := (List.getElem?_eq_some_iff.1 h).1
  have hlen : (flat (ks.take a)).length = a * 32 := by rw [flat_length, List.length_take]; omega
  rw [flat_split h, List.drop_append_of_le_length (by omega), List.drop_of_length_le (by omega), List.nil_append, List.take_append_of_le_length (by rw [List.length_replicate]; exact Nat.le_refl _), List.take_of_length_le (by rw [List.length_replicate]; exact Nat.le_refl _)]

theorem flat_over {ks : List UInt8} {a : Nat} (h : a < ks.length) (c : UInt8) : over (flat ks) (a * 32) (List.replicate 32 c) = flat (ks.set a c) := by
  have hx : ks[a]? = some ks[a] := List.getElem?_eq_getElem h
  have hlen : (flat (ks.take a)).length = a * 32 := by rw [flat_length, List.length_take]; omega
  rw [List.set_eq_take_append_cons_drop, if_pos h, flat_append, flat, over, List.length_replicate, flat_split hx]
  rw [List.take_append_of_le_length (by omega), List.take_of_length_le (by omega), List.append_assoc]
  congr 2
  rw [← List.append_assoc, List.drop_append_of_le_length (by rw [List.length_append, List.length_replicate]; omega), List.drop_of_length_le (by rw [List.length_append, List.length_replicate]; omega), List.nil_append]

/-- The writes that these are. -/
def wrs (l : List (Nat × UInt8)) : List Wr := l.map fun p => ⟨(p.1 : Int), List.replicate 32 p.2⟩

/-- Of these writes those are kept that the list of bits tells, from the i-th one on. -/
def keptBy (bit : Nat → Bool) : Nat → List (Nat × UInt8) → List UInt8 → List UInt8
  | _, [], ks => ks
  | i, p :: r, ks => keptBy bit (i + 1) r (if bit i then ks.set p.1 p.2 else ks)

theorem keptBy_length (bit : Nat → Bool) : ∀ (l : List (Nat × UInt8)) (i : Nat) (ks : List UInt8), (keptBy bit i l ks).length = ks.length
  | [], _, _ => rfl
  | p :: r, i, ks => by rw [keptBy, keptBy_length]; split <;> simp

theorem keptBy_snoc (bit : Nat → Bool) : ∀ (l : List (Nat × UInt8)) (i : Nat) (p : Nat × UInt8) (ks : List UInt8), keptBy bit i (l ++ [p]) ks = if bit (i + l.length) then (keptBy bit i l ks).set p.1 p.2 else keptBy bit i l ks
  | [], i, p, ks => rfl
  | q :: r, i, p, ks => by
    rw [List.cons_append, keptBy, keptBy, keptBy_snoc, List.length_cons, show i + 1 + r.length = i + (r.length + 1) by omega]

theorem pour_flat (bit : Nat → Bool) (many : Nat → Nat) : ∀ (l : List (Nat × UInt8)) (i : Nat) (ks : List UInt8), (∀ p ∈ l, p.1 < ks.length) → (∀ j, j < l.length → many (i + j) = if bit (i + j) then 32 else 0) →
    pour many i (wrs l) (flat ks) = flat (keptBy bit i l ks)
  | [], i, ks, _, _ => rfl
  | p :: r, i, ks, hp, hm => by
    have h0 : many i = if bit i then 32 else 0 := by simpa using hm 0 (by simp)
    have e : over (flat ks) (((p.1 : Nat) : Int).toNat * 32) ((List.replicate 32 p.2).take (many i)) = flat (if bit i then ks.set p.1 p.2 else ks) := by
      rw [Int.toNat_natCast, h0]
      split
      · rw [List.take_of_length_le (by rw [List.length_replicate]; exact Nat.le_refl _)]
        exact flat_over (hp p (by simp)) p.2
      · rw [List.take_zero, over, List.length_nil, Nat.add_zero, List.append_nil, List.take_append_drop]
    have hr := pour_flat bit many r (i + 1) (if bit i then ks.set p.1 p.2 else ks) (fun q hq => by
      have := hp q (by simp [hq])
      split <;> simpa using this) (fun j hj => by rw [show i + 1 + j = i + (j + 1) by omega]; exact hm (j + 1) (by simp; omega))
    show pour many (i + 1) (wrs r) (over (flat ks) (((p.1 : Nat) : Int).toNat * 32) ((List.replicate 32 p.2).take (many i))) = _
    rw [e, hr, keptBy]

def all : Nat → Bool := fun _ => true

/-- A disk that is played: what is dry, what is read, what is wet. -/
structure Good (n : Nat) (d : Disk) (kept now : List UInt8) (l : List (Nat × UInt8)) : Prop where
  dry : d.dry = flat kept
  len : kept.length = n
  now : now = keptBy all 0 l kept
  wet : d.wet = wrs l
  fuse : d.fuse = -1
  dead : d.dead = false
  at_ : ∀ p ∈ l, p.1 < n

section
variable {n : Nat} {d : Disk} {kept now : List UInt8} {l : List (Nat × UInt8)}

theorem Good.now_len (h : Good n d kept now l) : now.length = n := by rw [h.now, keptBy_length, h.len]

theorem Good.ok (h : Good n d kept now l) (h1 : 1 ≤ n) (h2 : n ≤ 12) (hl : l.length ≤ 8192) : d.ok = true := by
  have e1 : d.dry.length = n * 32 := by rw [h.dry, flat_length, h.len]
  have e2 : d.wet.length = l.length := by rw [h.wet]; simp [wrs]
  simp only [Disk.ok, Bool.and_eq_true, decide_eq_true_eq, List.all_eq_true]
  refine ⟨⟨by omega, by omega, by omega, by omega, by rw [h.fuse]; omega, by rw [h.fuse]; omega⟩, fun x hx => ?_⟩
  rw [h.wet] at hx
  obtain ⟨p, hp, rfl⟩ := List.mem_map.1 hx
  have := h.at_ p hp
  rw [okWr, decide_eq_true_eq]
  refine ⟨List.length_replicate, Int.natCast_nonneg _, ?_⟩
  show (p.1 : Int) < (d.dry.length : Int) / 32
  omega

theorem Good.new (h1 : 1 ≤ n) (h2 : n ≤ 12) : ∃ d, Dk.new (n : Int) = (d, 0) ∧ Good n d (List.replicate n 0) (List.replicate n 0) [] :=
  ⟨⟨List.replicate (n * 32) 0, [], -1, false⟩, by rw [Dk.new, if_neg (by omega), Int.toNat_natCast], ⟨(flat_zeros n).symm, by simp, rfl, rfl, rfl, rfl, fun p hp => by simp at hp⟩⟩

theorem Good.ready (h : Good n d kept now l) (h1 : 1 ≤ n) (h2 : n ≤ 12) (hl : l.length ≤ 8192) : Dk.ready d true = 0 := by
  simp [Dk.ready, h.ok h1 h2 hl, h.dead]

theorem Good.burn (h : Good n d kept now l) : Dk.burn d = (d, true) := by
  rw [Dk.burn, h.fuse]; rfl

theorem Good.write (h : Good n d kept now l) (h1 : 1 ≤ n) (h2 : n ≤ 12) (hl : l.length < 8192) (a : Nat) (c : UInt8) (ha : a < n) :
    ∃ d', Dk.write d (a : Int) (List.replicate 32 c) = (d', 0) ∧ Good n d' kept (now.set a c) (l ++ [(a, c)]) := by
  have hok := h.ok h1 h2 (by omega)
  have hr : Dk.ready d (decide ((List.replicate 32 c).length = 32)) = 0 := by rw [List.length_replicate]; exact h.ready h1 h2 (by omega)
  have e1 : d.dry.length = n * 32 := by rw [h.dry, flat_length, h.len]
  have hh : d.has (a : Int) = true := by simp only [Disk.has, decide_eq_true_eq]; omega
  have e2 : d.wet.length = l.length := by rw [h.wet]; simp [wrs]
  refine ⟨put a (List.replicate 32 c) d, ?_, ?_⟩
  · rw [Dk.write, if_pos hr, if_pos hh, if_neg (by omega), deed, h.burn]; rfl
  · refine ⟨h.dry, h.len, ?_, ?_, h.fuse, h.dead, fun p hp => ?_⟩
    · rw [keptBy_snoc, h.now]; rfl
    · show d.wet ++ [_] = _
      rw [h.wet, wrs, wrs, List.map_append]; rfl
    · rcases List.mem_append.1 hp with hp | hp
      · exact h.at_ p hp
      · obtain rfl : p = (a, c) := by simpa using hp
        exact ha

theorem Good.flush (h : Good n d kept now l) (h1 : 1 ≤ n) (h2 : n ≤ 12) (hl : l.length ≤ 8192) :
    ∃ d', Dk.flush d = (d', 0) ∧ Good n d' now now [] := by
  refine ⟨dryAll (fun _ => 32) d, ?_, ?_⟩
  · rw [Dk.flush, if_pos (h.ready h1 h2 hl), deed, h.burn]; rfl
  · refine ⟨?_, h.now_len, rfl, rfl, h.fuse, h.dead, fun p hp => by simp at hp⟩
    show pour _ 0 d.wet d.dry = _
    rw [h.wet, h.dry, pour_flat all (fun _ => 32) l 0 kept (fun p hp => by rw [h.len]; exact h.at_ p hp) (fun _ _ => rfl), ← h.now]

theorem Good.crash (h : Good n d kept now l) (h1 : 1 ≤ n) (h2 : n ≤ 12) (hl : l.length ≤ 8192) (bit : Nat → Bool) (keep : List UInt8) (hk : ∀ j, j < l.length → keepOf keep j = if bit j then 32 else 0) :
    ∃ d', Dk.crash d keep = (d', 0) ∧ Good n d' (keptBy bit 0 l kept) (keptBy bit 0 l kept) [] := by
  refine ⟨{ dryAll (keepOf keep) d with fuse := -1, dead := false }, ?_, ?_⟩
  · rw [Dk.crash, if_pos (h.ok h1 h2 hl)]
  · refine ⟨?_, by rw [keptBy_length]; exact h.len, rfl, rfl, rfl, rfl, fun p hp => by simp at hp⟩
    show pour _ 0 d.wet d.dry = _
    rw [h.wet, h.dry, pour_flat bit (keepOf keep) l 0 kept (fun p hp => by rw [h.len]; exact h.at_ p hp) (fun j hj => by rw [Nat.zero_add]; exact hk j hj)]

/-- What is read is what is now there. -/
theorem look_wrs (dry : List UInt8) (fuse : Int) (dead : Bool) (kept : List UInt8) (hd : dry = flat kept) : ∀ (m : Nat) (l : List (Nat × UInt8)) (i : Nat) (x : UInt8), l.length = m → (∀ p ∈ l, p.1 < kept.length) → (keptBy all 0 l kept)[i]? = some x →
    (Disk.mk dry (wrs l) fuse dead).look (i : Int) = List.replicate 32 x := by
  intro m
  induction m with
  | zero =>
    intro l i x hl _ hx
    obtain rfl : l = [] := List.length_eq_zero_iff.1 hl
    simp only [wrs, List.map_nil, Disk.look, List.reverse_nil, List.find?_nil, Int.toNat_natCast, hd]
    exact flat_sector hx
  | succ m ih =>
    intro l i x hl hp hx
    obtain ⟨r, p, rfl⟩ : ∃ r p, l = r ++ [p] := by
      rcases List.eq_nil_or_concat l with h | ⟨r, p, h⟩
      · rw [h] at hl; simp at hl
      · exact ⟨r, p, by simpa using h⟩
    have hw : wrs (r ++ [p]) = wrs r ++ [⟨(p.1 : Int), List.replicate 32 p.2⟩] := by rw [wrs, wrs, List.map_append]; rfl
    rw [look_put (d := Disk.mk dry (wrs r) fuse dead) (z := Disk.mk dry (wrs (r ++ [p])) fuse dead) rfl hw]
    rw [keptBy_snoc] at hx
    simp only [all, if_true] at hx
    by_cases he : p.1 = i
    · rw [if_pos (by omega)]
      subst he
      rw [List.getElem?_set_self (by rw [keptBy_length]; exact hp p (by simp))] at hx
      injection hx with hx
      rw [hx]
    · rw [if_neg (by omega)]
      rw [List.getElem?_set_ne he] at hx
      exact ih r i x (by simpa using hl) (fun q hq => hp q (by simp [hq])) hx

theorem Good.read (h : Good n d kept now l) (h1 : 1 ≤ n) (h2 : n ≤ 12) (hl : l.length ≤ 8192) (i : Nat) (x : UInt8) (hx : now[i]? = some x) : Dk.read d (i : Int) = (List.replicate 32 x, 0) := by
  have hi : i < n := by have := (List.getElem?_eq_some_iff.1 hx).1; rw [h.now_len] at this; exact this
  have e1 : d.dry.length = n * 32 := by rw [h.dry, flat_length, h.len]
  have hh : d.has (i : Int) = true := by simp only [Disk.has, decide_eq_true_eq]; omega
  rw [Dk.read, if_pos (h.ready h1 h2 hl), if_pos hh]
  have hn := h.now
  have hw := h.wet
  have hlk := look_wrs d.dry d.fuse d.dead kept h.dry l.length l i x rfl (fun p hp => by rw [h.len]; exact h.at_ p hp) (by rw [← hn]; exact hx)
  rw [← hw] at hlk
  rw [show d.look (i : Int) = _ from hlk]
end

end Go.Proofs.Ytdbioekmhlgolaa
