/- Words for memory: a slice of writes, a disk, read off a world's cells; and made by a call. -/
import Derived.Test.YtdbioekmhlgolaaYM
import Derived.Test.YtdbioekmhlgolaaP
namespace Go.Proofs.Ytdbioekmhlgolaa
open Go.RowKit Dk

/-- These cells are those of these writes. -/
def WrCells (w : World) (S : Nat → Prop) (xs : List Value) (l : List Wr) : Prop :=
  xs.length = l.length * 2 ∧ ∀ j x, l[j]? = some x → xs[j * 2]? = some (.int .i64 x.pos) ∧ ∃ vb, xs[j * 2 + 1]? = some vb ∧ Bs w S vb x.b

/-- v reads as these writes. -/
def Ws (w : World) (S : Nat → Prop) (v : Value) (l : List Wr) : Prop :=
  ∃ A c xs, v = .slice A l.length c ∧ l.length ≤ c ∧ c ≤ maxLen ∧ (A = none → c = 0) ∧ WrCells w S xs l ∧ Cells w S A xs

/-- v reads as this disk. -/
def DiskR (w : World) (S : Nat → Prop) (v : Value) (d : Disk) : Prop :=
  ∃ vd vw, v = .agg #[vd, vw, .int .i64 d.fuse, .bool d.dead] ∧ Bs w S vd d.dry ∧ Ws w S vw d.wet

/-- v is this disk, made by the call: its octets and its list of writes lie in blocks of its own, from base on. -/
def DiskOwn (w : World) (base : Nat) (v : Value) (d : Disk) : Prop :=
  ∃ vd vw xs, v = .agg #[vd, vw, .int .i64 d.fuse, .bool d.dead] ∧ w.ownsRow base 5 1 vd d.dry.length (octets d.dry) ∧ w.ownsRow base 56 2 vw d.wet.length xs ∧
    WrCells w (fun b => base ≤ b ∧ some b ≠ vd.ownBlock ∧ some b ≠ vw.ownBlock) xs d.wet

/-- In block g lies this disk; its octets and its list of writes lie in blocks of the call's own, from base on. -/
def DiskIn (w : World) (base g : Nat) (d : Disk) : Prop :=
  ∃ vd vw xs, w.heap[g]? = some (.cells #[vd, vw, .int .i64 d.fuse, .bool d.dead] 25 (0, 0)) ∧ base ≤ g ∧ w.ownsRow base 5 1 vd d.dry.length (octets d.dry) ∧ w.ownsRow base 56 2 vw d.wet.length xs ∧
    WrCells w (fun b => base ≤ b ∧ b ≠ g ∧ some b ≠ vd.ownBlock ∧ some b ≠ vw.ownBlock) xs d.wet

section
variable {w w' : World} {S S' : Nat → Prop} {v : Value} {l : List UInt8} {A : Option Addr} {xs : List Value} {k : List Wr} {d : Disk}

theorem WrCells.keep (h : WrCells w S xs k) (hk : ∀ p : Addr, S p.block → (∃ u, w.cell? p = some u) → w'.cell? p = w.cell? p) : WrCells w' S xs k :=
  ⟨h.1, fun j x hx => let ⟨h1, vb, h2, h3⟩ := h.2 j x hx; ⟨h1, vb, h2, h3.keep hk⟩⟩
theorem WrCells.more (h : WrCells w S xs k) (hS : ∀ b, b < w.heap.size → S b → S' b) : WrCells w S' xs k :=
  ⟨h.1, fun j x hx => let ⟨h1, vb, h2, h3⟩ := h.2 j x hx; ⟨h1, vb, h2, h3.more hS⟩⟩
theorem Ws.keep (h : Ws w S v k) (hk : ∀ p : Addr, S p.block → (∃ u, w.cell? p = some u) → w'.cell? p = w.cell? p) : Ws w' S v k := by
  obtain ⟨A, c, xs, h1, h2, h3, h4, h5, h6⟩ := h
  exact ⟨A, c, xs, h1, h2, h3, h4, h5.keep hk, h6.keep hk⟩
theorem Ws.more (h : Ws w S v k) (hS : ∀ b, b < w.heap.size → S b → S' b) : Ws w S' v k := by
  obtain ⟨A, c, xs, h1, h2, h3, h4, h5, h6⟩ := h
  exact ⟨A, c, xs, h1, h2, h3, h4, h5.more hS, h6.more hS⟩
theorem DiskR.keep (h : DiskR w S v d) (hk : ∀ p : Addr, S p.block → (∃ u, w.cell? p = some u) → w'.cell? p = w.cell? p) : DiskR w' S v d := by
  obtain ⟨vd, vw, h1, h2, h3⟩ := h
  exact ⟨vd, vw, h1, h2.keep hk, h3.keep hk⟩
theorem DiskR.more (h : DiskR w S v d) (hS : ∀ b, b < w.heap.size → S b → S' b) : DiskR w S' v d := by
  obtain ⟨vd, vw, h1, h2, h3⟩ := h
  exact ⟨vd, vw, h1, h2.more hS, h3.more hS⟩

theorem WrCells.below (h : WrCells w S xs k) (hb : Below w.heap.size w w') : WrCells w' S xs k := h.keep (keep_below hb fun _ h _ => h)
theorem Ws.below (h : Ws w S v k) (hb : Below w.heap.size w w') : Ws w' S v k := h.keep (keep_below hb fun _ h _ => h)
theorem DiskR.below (h : DiskR w S v d) (hb : Below w.heap.size w w') : DiskR w' S v d := h.keep (keep_below hb fun _ h _ => h)

theorem DiskOwn.reads {base : Nat} (h : DiskOwn w base v d) (hS : ∀ b, S b) : DiskR w S v d := by
  obtain ⟨vd, vw, xs, h1, h2, h3, h4⟩ := h
  refine ⟨vd, vw, h1, .of_own h2 fun b _ => hS b, ?_⟩
  rcases h3.2 with ⟨rfl, h0⟩ | ⟨g, cap, cur, rfl, hg, hh, hc, hm, hs, ht⟩
  · exact ⟨none, 0, xs, by rw [h0], by omega, by simp [maxLen], fun _ => rfl, h4.more fun b _ _ => hS b, fun hl => by rw [h3.1] at hl; omega⟩
  · exact ⟨some ⟨g, 0, none⟩, cap, xs, rfl, hc, hm, (fun h => by cases h), h4.more fun b _ _ => hS b, fun _ => ⟨_, rfl, hS _, h3.cells rfl⟩⟩
end

section
variable {w w' : World} {v : Value} {d : Disk} {base : Nat}
theorem DiskOwn.far (h : DiskOwn w base v d) {p : Addr} (hp : p.block < base) (u : Value) : DiskOwn (w.setCell p u) base v d := by
  obtain ⟨vd, vw, xs, h1, h2, h3, h4⟩ := h
  have e : ∀ {vv : Value} {ee : TypeId} {sz n : Nat} {ys : List Value}, w.ownsRow base ee sz vv n ys → ∀ b, vv.ownBlock = some b → b ≠ p.block := fun hh b hb e => by have := (hh.lt b hb).1; omega
  exact ⟨vd, vw, xs, h1, own_far h2 (e h2) u, own_far h3 (e h3) u, h4.keep (far_set (S := fun b => base ≤ b ∧ some b ≠ vd.ownBlock ∧ some b ≠ vw.ownBlock) (fun hS => absurd hS.1 (by omega)) u)⟩
theorem DiskOwn.mono {base' : Nat} (h : DiskOwn w base v d) (hb : base' ≤ base) : DiskOwn w base' v d := by
  obtain ⟨vd, vw, xs, h1, h2, h3, h4⟩ := h
  exact ⟨vd, vw, xs, h1, own_mono h2 hb, own_mono h3 hb, h4.more fun b _ hS => ⟨by omega, hS.2⟩⟩
theorem DiskOwn.below (h : DiskOwn w base v d) (hb : Below w.heap.size w w') : DiskOwn w' base v d := by
  obtain ⟨vd, vw, xs, h1, h2, h3, h4⟩ := h
  exact ⟨vd, vw, xs, h1, own_below h2 hb fun b hh => (h2.lt b hh).2, own_below h3 hb fun b hh => (h3.lt b hh).2, h4.below hb⟩
end

theorem DiskIn.own {w : World} {base g : Nat} {d : Disk} (h : DiskIn w base g d) : ∃ cs, w.heap[g]? = some (.cells cs 25 (0, 0)) ∧ DiskOwn w base (.agg cs) d := by
  obtain ⟨vd, vw, xs, h1, h2, h3, h4, h5⟩ := h
  exact ⟨_, h1, vd, vw, xs, rfl, h3, h4, h5.more fun b _ hS => ⟨hS.1, hS.2.2⟩⟩

theorem infoW : (Try.prog.info? 56).map (fun i => (i.zero, i.size, i.bytes)) = some (some (.agg #[.int .i64 0, .slice none 0 0]), 2, 32) := by kernel_rfl

end Go.Proofs.Ytdbioekmhlgolaa
