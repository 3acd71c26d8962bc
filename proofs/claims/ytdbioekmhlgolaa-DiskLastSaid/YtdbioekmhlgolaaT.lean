/- Disks in variables, and where their parts lie. -/
import Derived.Test.YtdbioekmhlgolaaN
namespace Go.Proofs.Ytdbioekmhlgolaa
open Go.RowKit Dk

theorem DiskOwn.readsFrom {w : World} {base : Nat} {v : Value} {d : Disk} (h : DiskOwn w base v d) : DiskR w (fun b => base ≤ b) v d := by
  obtain ⟨vd, vw, xs, h1, h2, h3, h4⟩ := h
  refine ⟨vd, vw, h1, .of_own h2 fun b hb => (h2.lt b hb.symm).1, ?_⟩
  rcases h3.2 with ⟨rfl, h0⟩ | ⟨g, cap, cur, rfl, hg, hh, hc, hm, hs, ht⟩
  · exact ⟨none, 0, xs, by rw [h0], by omega, by simp [maxLen], fun _ => rfl, h4.more fun b _ hS => hS.1, fun hl => by rw [h3.1] at hl; omega⟩
  · exact ⟨some ⟨g, 0, none⟩, cap, xs, rfl, hc, hm, (fun h => by cases h), h4.more fun b _ hS => hS.1, fun _ => ⟨_, rfl, hg, h3.cells rfl⟩⟩

/-- In block g lies a disk; its octets, and its writes, lie in blocks of S. -/
def DV (w : World) (S : Nat → Prop) (g : Nat) (d : Disk) : Prop :=
  ∃ A c A' c', w.heap[g]? = some (.cells #[.slice A d.dry.length c, .slice A' d.wet.length c', .int .i64 d.fuse, .bool d.dead] 25 (0, 0)) ∧
    DiskR w S (.agg #[.slice A d.dry.length c, .slice A' d.wet.length c', .int .i64 d.fuse, .bool d.dead]) d

theorem DV.lt {w : World} {S : Nat → Prop} {g : Nat} {d : Disk} (h : DV w S g d) : g < w.heap.size := by
  obtain ⟨_, _, _, _, h, _⟩ := h
  exact (Array.getElem?_eq_some_iff.1 h).1
theorem DV.below {w w' : World} {S : Nat → Prop} {g : Nat} {d : Disk} (h : DV w S g d) (hb : Below w.heap.size w w') : DV w' S g d := by
  have hl := h.lt
  obtain ⟨A, c, A', c', h1, h2⟩ := h
  exact ⟨A, c, A', c', (hb.block g hl).trans h1, h2.below hb⟩
theorem DV.more {w : World} {S S' : Nat → Prop} {g : Nat} {d : Disk} (h : DV w S g d) (hS : ∀ b, b < w.heap.size → S b → S' b) : DV w S' g d := by
  obtain ⟨A, c, A', c', h1, h2⟩ := h
  exact ⟨A, c, A', c', h1, h2.more hS⟩
theorem DV.new {w : World} {base : Nat} {x0 x1 x2 x3 : Value} {d : Disk} (h : DiskOwn w base (.agg #[x0, x1, x2, x3]) d) : DV (w.alloc (.cells #[x0, x1, x2, x3] 25)) (fun b => base ≤ b ∧ b < w.heap.size) w.heap.size d := by
  have hr := h.readsFrom
  have hR := hr
  obtain ⟨vd, vw, he, ⟨A, c, rfl, r1⟩, A', c', xs, rfl, r2⟩ := hr
  injection he with he
  obtain ⟨rfl, rfl, rfl, rfl⟩ : x0 = _ ∧ x1 = _ ∧ x2 = _ ∧ x3 = _ := by simpa using he
  refine ⟨A, c, A', c', heap_alloc_new w _, ?_⟩
  have h3 : DiskR w (fun b => base ≤ b ∧ b < w.heap.size) (.agg #[.slice A d.dry.length c, .slice A' d.wet.length c', .int .i64 d.fuse, .bool d.dead]) d := hR.more fun b hb hS => ⟨hS, hb⟩
  exact h3.below (below_new w _)

theorem DiskR.res {w : World} {S : Nat → Prop} {v : Value} {d : Disk} {g : Nat} (h : DiskR w S v d) (hS : ∀ b, S b → b ≠ g) (x0 x1 x2 x3 : Value) : DiskR (resCells w g x0 x1 x2 x3) S v d := by
  refine h.keep fun p hp _ => ?_
  have hne : ∀ i, (⟨g, i, none⟩ : Addr) ≠ p := fun i e => hS _ hp (by rw [← e])
  unfold resCells
  rw [World.cell?_setCell_other _ _ _ _ (hne 3), World.cell?_setCell_other _ _ _ _ (hne 2), World.cell?_setCell_other _ _ _ _ (hne 1), World.cell?_setCell_other _ _ _ _ (hne 0)]
theorem res_heap {w : World} {g : Nat} {cs0 : Array Value} (hg : w.heap[g]? = some (.cells cs0 25 (0, 0))) (h4 : cs0.size = 4) (x0 x1 x2 x3 : Value) : (resCells w g x0 x1 x2 x3).heap[g]? = some (.cells #[x0, x1, x2, x3] 25 (0, 0)) := by
  have hh := blk_set (blk_set (blk_set (blk_set hg 0 x0) 1 x1) 2 x2) 3 x3
  obtain ⟨l⟩ := cs0
  match l, h4 with
  | [a, b, c, e], _ => simpa [resCells] using hh
theorem res_far {w : World} {g g' : Nat} (h : g' ≠ g) (x0 x1 x2 x3 : Value) : (resCells w g x0 x1 x2 x3).heap[g']? = w.heap[g']? := by
  unfold resCells
  rw [blk_far h, blk_far h, blk_far h, blk_far h]
/-- What is read as a disk is stored into a variable. -/
theorem DV.store {w : World} {S : Nat → Prop} {g : Nat} {A A' : Option Addr} {c c' : Nat} {d : Disk} {cs0 : Array Value} (hg : w.heap[g]? = some (.cells cs0 25 (0, 0))) (h4 : cs0.size = 4)
    (h : DiskR w S (.agg #[.slice A d.dry.length c, .slice A' d.wet.length c', .int .i64 d.fuse, .bool d.dead]) d) (hS : ∀ b, S b → b ≠ g) :
    DV (resCells w g (.slice A d.dry.length c) (.slice A' d.wet.length c') (.int .i64 d.fuse) (.bool d.dead)) S g d :=
  ⟨A, c, A', c', res_heap hg h4 _ _ _ _, h.res hS _ _ _ _⟩
theorem DV.far {w : World} {S : Nat → Prop} {g g' : Nat} {d : Disk} (h : DV w S g' d) (hne : g' ≠ g) (hS : ∀ b, S b → b ≠ g) (x0 x1 x2 x3 : Value) : DV (resCells w g x0 x1 x2 x3) S g' d := by
  obtain ⟨A, c, A', c', h1, h2⟩ := h
  exact ⟨A, c, A', c', (res_far hne _ _ _ _).trans h1, h2.res hS _ _ _ _⟩

theorem DV.store_any {w : World} {S : Nat → Prop} {g : Nat} {x0 x1 x2 x3 : Value} {d : Disk} {cs0 : Array Value} (hg : w.heap[g]? = some (.cells cs0 25 (0, 0))) (h4 : cs0.size = 4)
    (h : DiskR w S (.agg #[x0, x1, x2, x3]) d) (hS : ∀ b, S b → b ≠ g) : DV (resCells w g x0 x1 x2 x3) S g d := by
  have hr := h
  obtain ⟨vd, vw, he, ⟨A, c, rfl, r1⟩, A', c', xs, rfl, r2⟩ := hr
  injection he with he
  obtain ⟨rfl, rfl, rfl, rfl⟩ : x0 = _ ∧ x1 = _ ∧ x2 = _ ∧ x3 = _ := by simpa using he
  exact DV.store hg h4 h hS

end Go.Proofs.Ytdbioekmhlgolaa
