/- A range over a function whose loop variable lies in a new block each round, and whose body either goes on, having turned nothing that lay there, or returns. -/
import Derived.RangeFuncFrom
import Derived.RangeFuncLeaves
namespace Go.Proofs.Ytdbioekmhlgolaa
open Go.RowKit

section
variable {P : Program}

theorem below_put {B l : Nat} {w W : World} {o o' : Obj} (h : Below B w W) (hB : B ≤ l) (hl : W.heap[l]? = some o) : Below B w (W.putObj l o') :=
  h.grown (grownBy_putObj' W l o') (by have := (Array.getElem?_eq_some_iff.1 hl).1; omega) (fun k e => by cases e; exact hB)

/-- How a round leaves its body. -/
def roundEnd {α : Type} (B : Nat) (go : α → Prop) (R : α → World → Prop) (x : α) (W : World) : Exit → Act → World → Prop
  | .normal, _, W' => KeepsOthers W W' ∧ Below B W W' ∧ go x
  | .ret, _, W' => KeepsOthers W W' ∧ R x W'
  | _, _, _ => False

theorem range_box {α : Type} {n : Nat} {g : Operand} {ps : Array Tmp} {assign body : Code} {Q : Exit → Act → World → Prop} {a : Act} {w : World} (h1 : 1 ≤ n)
    {gf : Nat} {lb : Array Value} (hg : a.eval g = .func (.func gf) #[] lb) (eg : ∀ args w, (callFunc gf args).run P w = .ok (.enter gf args) w)
    {vals : α → Array Value} {S Sp : List α → Prop} {N : Nat} (hseq : SeqStopsK Fence.wide (n - 1) P gf lb vals (Below w.heap.size) S Sp N w) (hps : ∀ x, (vals x).size = ps.size)
    (go : α → Prop) (R : α → World → Prop) (o : α → Obj) (ho : ∀ x, (o x).isCells = true)
    (hR : ∀ x l (b b' : Obj) W, w.heap.size ≤ l → W.heap[l]? = some b → b.isCells = false → R x W → R x (W.putObj l b'))
    (hRw : ∀ x W W' row, R x W → W.grownBy W' row → (∀ r, row = some r → w.heap.size ≤ r ∧ ∃ o : Obj, W.heap[r]? = some o ∧ o.isWalk = true) → R x W')
    (a₁ : α → Nat → Act)
    (hassign : ∀ (l : Nat) (x : α) (W : World) (K : Act → World → Prop), K (a₁ x W.heap.size) (W.alloc (o x)) →
      assign.wpIn (Fence.wide.inRound l) (n - 1 - 1) P (Exit.then K (fun _ _ _ => False)) { tmps := (ps.zip (vals x)).foldl (fun t (p, v) => t.setIfInBounds p v) a.tmps, defers := [] } W)
    (hbody : ∀ (l b : Nat) (x : α) (W : World), Below w.heap.size w W → w.heap.size ≤ b → W.heap[b]? = some (o x) → body.wpIn (Fence.wide.inRound l) (n - 1 - 1) P (roundEnd w.heap.size go R x W) (a₁ x b) W)
    (hdone : ∀ (D : Nat) (xs : List α) (W : World), w.heap.size ≤ D → S xs → (∀ x ∈ xs, go x) → Below w.heap.size w W → W.heap[D]? = some (.deferred (some [])) → Q .normal { a with defers := { target := .collected D, args := #[] } :: a.defers } W)
    (hstop : ∀ (D : Nat) (pre : List α) (x : α) (W : World), w.heap.size ≤ D → Sp (pre ++ [x]) → (∀ y ∈ pre, go y) → R x W → W.heap[D]? = some (.deferred (some [])) → Code.ret.wpIn Fence.wide n P Q { a with defers := { target := .collected D, args := #[] } :: a.defers } W) :
    (Code.rangeFunc g ps assign body).wpIn Fence.wide n P Q a w := by
  refine wpIn_rangeFunc fun fn hfn => ?_
  -- the record of the loop, and the block for what is deferred
  let rec_ : LoopState → Option Code → Loop := fun st pe => { state := st, pending := pe, fn, tmps := a.tmps, params := ps, assign, body, defers := w.heap.size }
  have hW : ∃ W1, W1 = (w.alloc (.deferred (some []))).alloc (.loop (rec_ .ready none)) := ⟨_, rfl⟩
  obtain ⟨W1, hW1⟩ := hW
  have hb1 : Below w.heap.size w W1 := by rw [hW1]; exact ((Below.refl _ w).alloc (Nat.le_refl _) _).alloc (by simp) _
  have hz1 : W1.heap.size = w.heap.size + 2 := by rw [hW1]; simp
  have hD1 : W1.heap[w.heap.size]? = some (.deferred (some [])) := by rw [hW1, Below.heap_alloc _ _ _ (by simp)]; exact World.alloc_heap_new w _
  have hL1 : W1.heap[w.heap.size + 1]? = some (.loop (rec_ .ready none)) := by
    have h := World.alloc_heap_new (w.alloc (.deferred (some []))) (.loop (rec_ .ready none))
    rw [World.size_alloc] at h
    rw [hW1]
    exact h
  refine ⟨w.heap.size + 1, [{ target := .collected w.heap.size, args := #[] }], W1, { target := .fn (.func gf) lb, args := #[.func (.yield (w.heap.size + 1)) #[] #[]] }, W1, gf,
    #[.func (.yield (w.heap.size + 1)) #[] #[]] ++ lb, W1, ?_, ?_, fun _ _ => trivial, ?_, fun _ => h1, ?_⟩
  · rw [hW1]; exact run_enterLoop_outer _ _ _ _ _
  · simp only [resolve, hg]
    simp [go_sem]
  · simp [invoke, go_sem, eg]
  · refine (hseq (w.heap.size + 1)
      (fun pre W => (∀ x ∈ pre, go x) ∧ Below w.heap.size w W ∧ W.heap[w.heap.size + 1]? = some (.loop (rec_ .ready none)) ∧ W.heap[w.heap.size]? = some (.deferred (some [])))
      (fun pre W => ∃ pre' x, pre = pre' ++ [x] ∧ (∀ y ∈ pre', go y) ∧ R x W ∧ W.heap[w.heap.size + 1]? = some (.loop (rec_ .done (some .ret))) ∧ W.heap[w.heap.size]? = some (.deferred (some [])))
      W1 hb1 ?_ ?_ ?_ ⟨by simp, hb1, hL1, hD1⟩).mono ?_
    · rintro pre A B row ⟨hp, hA, hl, hd⟩ hgr hr
      exact ⟨hp, hA.grown hgr hA.size (fun k e => by have := (hr k e).1; omega), (grownBy_keeps hgr (fun r e => (hr r e).2) hl rfl).trans hl, (grownBy_keeps hgr (fun r e => (hr r e).2) hd rfl).trans hd⟩
    · rintro pre A B row ⟨pre', x, e, hp, hx, hl, hd⟩ hgr hr
      exact ⟨pre', x, e, hp, hRw x A B row hx hgr (fun r e => ⟨by have := (hr r e).1; omega, (hr r e).2⟩), (grownBy_keeps hgr (fun r e => (hr r e).2) hl rfl).trans hl, (grownBy_keeps hgr (fun r e => (hr r e).2) hd rfl).trans hd⟩
    · -- one round
      rintro pre x W ⟨hp, hA, hl, hd⟩ _
      have hlt : w.heap.size + 1 < W.heap.size := (Array.getElem?_eq_some_iff.1 hl).1
      have hla : (W.alloc (o x)).heap[w.heap.size + 1]? = some (.loop (rec_ .ready none)) := (Below.heap_alloc _ _ _ hlt).trans hl
      have hda : (W.alloc (o x)).heap[w.heap.size]? = some (.deferred (some [])) := (Below.heap_alloc _ _ _ (by omega)).trans hd
      have hy := run_yield (P := P) (args := vals x) hl (hps x)
      refine ⟨fn, _, assign, body, hy, roundIn_of_wpIn hfn (hassign _ x W _ ⟨_, run_beginRound hla rfl, ?_⟩)⟩
      obtain ⟨W2, hW2⟩ : ∃ W2, W2 = (W.alloc (o x)).putObj (w.heap.size + 1) (.loop { rec_ .ready none with state := .busy }) := ⟨_, rfl⟩
      have hl2 : W2.heap[w.heap.size + 1]? = some (.loop { rec_ .ready none with state := .busy }) := by rw [hW2]; exact World.putObj_heap_same (by simp; omega)
      have hd2 : W2.heap[w.heap.size]? = some (.deferred (some [])) := by rw [hW2]; exact (World.putObj_heap_other (by omega)).trans hda
      have hx2 : W2.heap[W.heap.size]? = some (o x) := by rw [hW2]; exact (World.putObj_heap_other (by omega)).trans (World.alloc_heap_new W _)
      have hB2 : Below w.heap.size W W2 := by rw [hW2]; exact below_put ((Below.refl _ W).alloc (by omega) _) (by omega) hla
      show body.wpIn _ _ _ _ _ ((W.alloc (o x)).putObj (w.heap.size + 1) (.loop { rec_ .ready none with state := .busy }))
      rw [← hW2]
      refine wpIn_mono (hbody (w.heap.size + 1) W.heap.size x W2 (hA.trans hB2) (by omega) hx2) ?_
      rintro e a3 W3 hend
      cases e with
      | normal =>
        obtain ⟨hk, hb, hgo⟩ := hend
        have hl3 := hk.same _ _ hl2 rfl
        have hd3 := hk.same _ _ hd2 rfl
        have hB3 := below_put (o' := .loop (rec_ .ready none)) (hB2.trans hb) (by omega) hl3
        refine ⟨_, _, run_endRound (P := P) none hl3, .inl ⟨rfl, ⟨fun y hy => ?_, hA.trans hB3, World.putObj_heap_same (Array.getElem?_eq_some_iff.1 hl3).1, (World.putObj_heap_other (by omega)).trans hd3⟩, hB3⟩⟩
        rcases List.mem_append.1 hy with hy | hy
        · exact hp y hy
        · obtain rfl : y = x := by simpa using hy
          exact hgo
      | ret =>
        obtain ⟨hk, hx⟩ := hend
        have hl3 := hk.same _ _ hl2 rfl
        have hd3 := hk.same _ _ hd2 rfl
        exact ⟨_, _, run_endRound (P := P) (some .ret) hl3, .inr ⟨rfl, pre, x, rfl, hp, hR x _ _ _ W3 (by omega) hl3 rfl hx, World.putObj_heap_same (Array.getElem?_eq_some_iff.1 hl3).1, (World.putObj_heap_other (by omega)).trans hd3⟩⟩
      | exit _ => exact hend.elim
      | goto _ => exact hend.elim
      | panic _ => exact hend.elim
      | outgrown => exact hend.elim
    · rintro e W2 ⟨⟨v, rfl⟩, (⟨xs, hS, hp, hA, hl, hd⟩ | ⟨_, hSp, pre, x, rfl, hp, hx, hl, hd⟩)⟩
      · exact ⟨none, _, run_endLoop (P := P) hl (by simp [rec_]), hdone _ xs _ (Nat.le_refl _) hS hp (below_put hA (by omega) hl) ((World.putObj_heap_other (by omega)).trans hd)⟩
      · exact ⟨some .ret, _, run_endLoop (P := P) hl (by simp [rec_]), hstop _ pre x _ (Nat.le_refl _) hSp hp (hR x _ _ _ W2 (by omega) hl rfl hx) ((World.putObj_heap_other (by omega)).trans hd)⟩
end

end Go.Proofs.Ytdbioekmhlgolaa
