/- The argument of DiskLast opened: a list of what is done. -/
import Derived.Test.YtdbioekmhlgolaaO
namespace Go.Proofs.Ytdbioekmhlgolaa
open Go.RowKit Dk Go.ChangeShapes Go.WideShapes Go.Deep

/-- What is done with a disk. -/
structure OpW where
  kind : Int
  pos : Int
  c : UInt8

/-- v reads as these. -/
def Ops (w : World) (v : Value) (l : List OpW) : Prop :=
  ∃ A c, v = .slice A l.length c ∧ l.length ≤ c ∧ c ≤ maxLen ∧
    ∀ j x, l[j]? = some x → ∃ a, A = some a ∧ w.cell? (a.add (j * 3)) = some (.int .i64 x.kind) ∧ w.cell? (a.add (j * 3 + 1)) = some (.int .i64 x.pos) ∧ w.cell? (a.add (j * 3 + 2)) = some (.int .u8 (x.c.toNat : Int)) ∧
      (-9223372036854775808 ≤ x.kind ∧ x.kind ≤ 9223372036854775807) ∧ (-9223372036854775808 ≤ x.pos ∧ x.pos ≤ 9223372036854775807)

theorem Ops.below {w w' : World} {v : Value} {l : List OpW} (h : Ops w v l) (hb : Below w.heap.size w w') : Ops w' v l := by
  obtain ⟨A, c, h1, h2, h3, h4⟩ := h
  refine ⟨A, c, h1, h2, h3, fun j x hx => ?_⟩
  obtain ⟨a, ha, c1, c2, c3, r⟩ := h4 j x hx
  have k : ∀ p u, w.cell? p = some u → w'.cell? p = some u := fun p u h => (hb.cell (World.block_lt_of_cell? w p h)).trans h
  exact ⟨a, ha, k _ _ c1, k _ _ c2, k _ _ c3, r⟩

theorem Try.cells3 : Try.prog.cellsOf 46 = 3 := by kernel_rfl

section
variable {H : Type} {enc : TypeId × Value → H} {W : World} {base : Nat} {spare : Nat → Bool} {held : Bool}

theorem ops_of_slice {fuel : Nat} {v : Value} {x : DataW H × List MemPlace} (h : DataW.trod enc Try.prog W base spare held fuel 43 [v] = some x) : ∃ l, Ops W v l := by
  rcases open_slice Try.underlying43 h with ⟨hcs, _⟩ | ⟨a, len, cap, m, n, D, Pl, hcs, _, hl, hm, hmm, _, hi⟩
  · injection hcs with hcs
    subst hcs
    exact ⟨[], none, 0, rfl, by simp, by simp [maxLen], fun j x hx => by simp at hx⟩
  · injection hcs with hcs
    subst hcs
    have hml : len ≤ m := by rw [hmm]; split <;> omega
    have hel : ∀ i, i < len → ∃ t : OpW, W.cell? (a.add (i * 3)) = some (.int .i64 t.kind) ∧ W.cell? (a.add (i * 3 + 1)) = some (.int .i64 t.pos) ∧ W.cell? (a.add (i * 3 + 2)) = some (.int .u8 (t.c.toNat : Int)) ∧
        (-9223372036854775808 ≤ t.kind ∧ t.kind ≤ 9223372036854775807) ∧ (-9223372036854775808 ≤ t.pos ∧ t.pos ≤ 9223372036854775807) := by
      intro i hil
      obtain ⟨cs', hc, ht⟩ := hi i (by omega)
      rw [Try.cells3] at hc
      obtain ⟨_, hcl, hat⟩ := World.cells?_some hc
      obtain ⟨ys, n', _, _, _, hyl, hf⟩ := DataW.trod_struct Try.underlying46 ht
      match cs', hcl with
      | [c0, c1, c2], _ =>
        have e0 : Try.prog.cellsOf 3 = 1 := by kernel_rfl
        have e1 : Try.prog.cellsOf 5 = 1 := by kernel_rfl
        have h0 : DataW.trod enc Try.prog W base spare held n' 3 (([c0, c1, c2].drop 0).take (Try.prog.cellsOf 3)) = ys[0]? := hf 0 _ rfl
        have h1 : DataW.trod enc Try.prog W base spare held n' 3 (([c0, c1, c2].drop 1).take (Try.prog.cellsOf 3)) = ys[1]? := hf 1 _ rfl
        have h2 : DataW.trod enc Try.prog W base spare held n' 5 (([c0, c1, c2].drop 2).take (Try.prog.cellsOf 5)) = ys[2]? := hf 2 _ rfl
        rw [e0] at h0 h1
        rw [e1] at h2
        simp only [List.drop_zero, List.take_succ_cons, List.take_zero, List.drop_succ_cons] at h0 h1 h2
        obtain ⟨y0, hy0⟩ : ∃ y0, ys[0]? = some y0 := ⟨_, List.getElem?_eq_getElem (by rw [hyl]; decide)⟩
        obtain ⟨y1, hy1⟩ : ∃ y1, ys[1]? = some y1 := ⟨_, List.getElem?_eq_getElem (by rw [hyl]; decide)⟩
        obtain ⟨y2, hy2⟩ : ∃ y2, ys[2]? = some y2 := ⟨_, List.getElem?_eq_getElem (by rw [hyl]; decide)⟩
        rw [hy0] at h0
        rw [hy1] at h1
        rw [hy2] at h2
        obtain ⟨p, hp, _, wp⟩ := DataW.trod_int Try.underlying3 h0
        obtain ⟨q, hq, _, wq⟩ := DataW.trod_int Try.underlying3 h1
        obtain ⟨z, hz, _, wz⟩ := DataW.trod_int Try.underlying5 h2
        injection hp with hp
        injection hq with hq
        injection hz with hz
        subst hp hq hz
        have b0 := bounds_i64 wp
        have b1 := bounds_i64 wq
        have b2 := bounds_u8 wz
        refine ⟨⟨p, q, UInt8.ofNat z.toNat⟩, ?_, ?_, ?_, ⟨by dsimp only; omega, by dsimp only; omega⟩, ⟨by dsimp only; omega, by dsimp only; omega⟩⟩
        · have := hat 0 (by omega)
          simpa [Addr.add] using this
        · have := hat 1 (by omega)
          rw [add_add] at this
          simpa using this
        · have := hat 2 (by omega)
          rw [add_add] at this
          have e : ((UInt8.ofNat z.toNat).toNat : Int) = z := by
            simp only [UInt8.toNat_ofNat']
            omega
          rw [e]
          simpa using this
    obtain ⟨l, hl1, hl2⟩ := list_by_index hel
    exact ⟨l, some a, cap, by rw [hl1], by rw [hl1]; exact hl, hm, fun j x hx => ⟨a, rfl, hl2 j x hx⟩⟩

theorem ops_of_trod {r : Reach} {b0 : Nat} {v : Value} {d : DataW H} {p : List MemPlace} (hv : Value.okWide Try.prog W r b0 43 v) (h : DataW.Trod enc Try.prog W base spare held 43 v d p) :
    ∃ l, Ops W v l := by
  obtain ⟨A, len, cap, rfl⟩ := okWide_slice Try.underlying43 hv
  obtain ⟨fuel, hf⟩ := h
  exact ops_of_slice hf
end

end Go.Proofs.Ytdbioekmhlgolaa
