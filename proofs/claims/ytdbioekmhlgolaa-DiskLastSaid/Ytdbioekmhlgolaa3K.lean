/- What stands between two ops of the law DiskLast, and how it goes on. -/
import Derived.Test.Ytdbioekmhlgolaa3P
import Derived.Test.Ytdbioekmhlgolaa3O
import Derived.Test.YtdbioekmhlgolaaT
import Derived.IntWalk
import Derived.Laws.OwnMore
import Derived.Laws.BitsAllLaws
namespace Go.Proofs.Ytdbioekmhlgolaa
open Go.RowKit Dk

/-- The cells of a list of writes as the law keeps them. -/
def pairs (l : List (Nat × UInt8)) : List Value := l.flatMap fun p => [.int .i64 (p.1 : Int), .int .u8 (p.2.toNat : Int)]

/-- What stands between two ops: the disk in a variable, what is kept and what is now there in rows of their own, and what is wet. -/
def LastAt (w : World) (g6 g8 g9 n k : Nat) (v10 : Value) (wr : World) : Prop :=
  ∃ d kept now l, Good n d kept now l ∧ l.length ≤ k ∧ DV wr (fun b => w.heap.size ≤ b ∧ b ≠ g6 ∧ b ≠ g8 ∧ b ≠ g9 ∧ some b ≠ v10.ownBlock) g6 d ∧
    wr.heap[g8]? = some (.cells (octets kept).toArray 5 (0, 0)) ∧ wr.heap[g9]? = some (.cells (octets now).toArray 5 (0, 0)) ∧
    wr.ownsRow w.heap.size 49 2 v10 l.length (pairs l) ∧ Below w.heap.size w wr

theorem LastAt.below {w wr wx : World} {g6 g8 g9 n k : Nat} {v10 : Value} (h : LastAt w g6 g8 g9 n k v10 wr) (hb : Below wr.heap.size wr wx) : LastAt w g6 g8 g9 n k v10 wx := by
  obtain ⟨d, kept, now, l, hgo, hll, hdv, h8, h9, hw10, hbe⟩ := h
  exact ⟨d, kept, now, l, hgo, hll, hdv.below hb, below_past h8 hb, below_past h9 hb, own_below hw10 hb fun b hh => (hw10.lt b hh).2, hbe.trans (hb.mono hbe.size)⟩

theorem cell_next2 {w : World} {a : Addr} {j : Nat} {u : Value} (h : w.cell? (a.add (j + 2)) = some u) : w.cell? ⟨(a.add j).block, (a.add j).off + 2, none⟩ = some u := by rw [← add_add] at h; exact h

theorem DV.grown {w w' : World} {S : Nat → Prop} {g : Nat} {row : Option Nat} {d : Disk} (h : DV w S g d) (hg : w.grownBy w' row) (hne : some g ≠ row) (hS : ∀ b, S b → some b ≠ row) : DV w' S g d := by
  have hl := h.lt
  obtain ⟨A, c, A', c', h1, h2⟩ := h
  exact ⟨A, c, A', c', (hg.block g hl hne).trans h1, h2.keep fun p hp ⟨u, hu⟩ => (hg.cell hu (hS _ hp)).trans hu.symm⟩

theorem infoWet : (Try.prog.info? 49).map (fun i => (i.zero, i.size, i.bytes)) = some (some (.agg #[.int .i64 0, .int .u8 0]), 2, 16) := by kernel_rfl
theorem pairs_snoc (l : List (Nat × UInt8)) (x : Nat) (c : UInt8) : pairs (l ++ [(x, c)]) = pairs l ++ [.int .i64 (x : Int), .int .u8 (c.toNat : Int)] := by simp [pairs]
theorem pairs_length (l : List (Nat × UInt8)) : (pairs l).length = l.length * 2 := by
  induction l with
  | nil => rfl
  | cons p r ih => rw [show pairs (p :: r) = [.int .i64 (p.1 : Int), .int .u8 (p.2.toNat : Int)] ++ pairs r from rfl, List.length_append, ih]; simp; omega
theorem oct_put (l : List UInt8) (j : Nat) (x : UInt8) : (octets l).toArray.setIfInBounds j (.int .u8 (x.toNat : Int)) = (octets (l.set j x)).toArray := by
  apply Array.ext'
  rw [Array.toList_setIfInBounds]
  simp [octets, List.map_set]

theorem heap_alloc_set (w : World) (p : Addr) (u : Value) (o : Obj) : ((w.setCell p u).alloc o).heap[w.heap.size]? = some o := by
  have h := heap_alloc_new (w.setCell p u) o
  rwa [show (w.setCell p u).heap.size = w.heap.size by simp [World.setCell]] at h

theorem heap_alloc_set3 (w : World) (p : Addr) (u : Value) (ob o : Obj) : (((w.setCell p u).alloc ob).alloc o).heap[w.heap.size + 1]? = some o := by
  have h := heap_second (w.setCell p u) ob o
  rwa [show (w.setCell p u).heap.size = w.heap.size by simp [World.setCell]] at h

theorem size_oct : (Try.prog.info? 5).map (·.size) = some 1 := by kernel_rfl
theorem blk_cells {w : World} {g : Nat} {xs : List Value} {t : TypeId} {fr : Nat × Nat} (h : w.heap[g]? = some (.cells xs.toArray t fr)) : ∀ j u, xs[j]? = some u → w.cell? ((⟨g, 0, none⟩ : Addr).add j) = some u := by
  intro j u hu
  have e : (⟨g, 0, none⟩ : Addr).add j = ⟨g, j, none⟩ := by unfold Addr.add; split <;> simp_all
  rw [e, cell_of_row w g j _ _ _ h]
  simpa using hu

theorem splice_all {α : Type} {a b : List α} (h : b.length = a.length) : splice a 0 b = b := by
  simp [splice, h]

/-- Behind a write: what stands before it is noted. -/
def MidL (w : World) (g6 g8 g9 go : Nat) (df : Disk) (kept now : List UInt8) (l : List (Nat × UInt8)) (cs : Array Value) (v10 : Value) (wx : World) : Prop :=
  DV wx (fun b => w.heap.size ≤ b ∧ b ≠ g6 ∧ b ≠ g8 ∧ b ≠ g9 ∧ some b ≠ v10.ownBlock) g6 df ∧ wx.heap[g8]? = some (.cells (octets kept).toArray 5 (0, 0)) ∧ wx.heap[g9]? = some (.cells (octets now).toArray 5 (0, 0)) ∧
    wx.heap[go]? = some (.cells cs 46 (0, 0)) ∧ wx.ownsRow w.heap.size 49 2 v10 l.length (pairs l) ∧ Below w.heap.size w wx

theorem MidL.mk {w wo w7 : World} {B0 g6 g8 g9 go : Nat} {x0 x1 x2 x3 : Value} {df : Disk} {kept now : List UInt8} {l : List (Nat × UInt8)} {cs0 cs : Array Value} {v10 : Value} (ho : DiskOwn w7 B0 (.agg #[x0, x1, x2, x3]) df)
    (hg6 : wo.heap[g6]? = some (.cells cs0 25 (0, 0))) (h4 : cs0.size = 4) (h8 : wo.heap[g8]? = some (.cells (octets kept).toArray 5 (0, 0))) (h9 : wo.heap[g9]? = some (.cells (octets now).toArray 5 (0, 0))) (hgo : wo.heap[go]? = some (.cells cs 46 (0, 0)))
    (hw : wo.ownsRow w.heap.size 49 2 v10 l.length (pairs l)) (hb : Below w.heap.size w wo) (hb7 : Below wo.heap.size wo w7) (b0 : w.heap.size ≤ g6) (hB0 : wo.heap.size ≤ B0) (n68 : g6 ≠ g8) (n69 : g6 ≠ g9) (n6o : g6 ≠ go) :
    MidL w g6 g8 g9 go df kept now l cs v10 (resCells w7 g6 x0 x1 x2 x3) := by
  have l6 : g6 < wo.heap.size := (Array.getElem?_eq_some_iff.1 hg6).1
  have l8 : g8 < wo.heap.size := (Array.getElem?_eq_some_iff.1 h8).1
  have l9 : g9 < wo.heap.size := (Array.getElem?_eq_some_iff.1 h9).1
  have hz := hb.size
  have hne := own_blk_ne hw hg6 (by decide)
  refine ⟨DV.store_any (below_past hg6 hb7) h4 (ho.readsFrom.more fun b _ hS => ⟨by omega, by omega, by omega, by omega, fun e => ?_⟩) (fun b hS => hS.2.1), (res_far n68.symm _ _ _ _).trans (below_past h8 hb7), (res_far n69.symm _ _ _ _).trans (below_past h9 hb7), (res_far n6o.symm _ _ _ _).trans (below_past hgo hb7), ?_, below_res (hb.trans (hb7.mono hz)) b0 _ _ _ _⟩
  · have := (hw.lt b e.symm).2
    omega
  · have h := own_below hw hb7 fun b hh => (hw.lt b hh).2
    unfold resCells
    exact own_far (own_far (own_far (own_far h (fun b hh => hne b hh) _) (fun b hh => hne b hh) _) (fun b hh => hne b hh) _) (fun b hh => hne b hh) _

/-- Behind the whole way of a write. -/
theorem MidL.last {w wc w5 : World} {g6 g8 g9 go n k x : Nat} {c : UInt8} {df : Disk} {kept now : List UInt8} {l : List (Nat × UInt8)} {cs : Array Value} {v10 v' : Value} {o : Obj} (h : MidL w g6 g8 g9 go df kept now l cs v10 wc) (hgd : Good n df kept (now.set x c) (l ++ [(x, c)])) (hk : l.length ≤ k)
    (hg : ((wc.setCell ⟨g9, x, none⟩ (.int .u8 (c.toNat : Int))).alloc o).grownBy w5 v10.ownBlock) (hat : v'.ownBlock = v10.ownBlock ∨ v'.ownBlock = some (wc.heap.size + 1))
    (ho : w5.ownsRow w.heap.size 49 2 v' (l.length + 1) (pairs l ++ [.int .i64 (x : Int), .int .u8 (c.toNat : Int)])) (b9 : w.heap.size ≤ g9) (n69 : g6 ≠ g9) (n89 : g8 ≠ g9) : LastAt w g6 g8 g9 n (k + 1) v' w5 := by
  obtain ⟨hv, h8, h9, _, hw, hb⟩ := h
  have l9 : g9 < wc.heap.size := (Array.getElem?_eq_some_iff.1 h9).1
  have l8 : g8 < wc.heap.size := (Array.getElem?_eq_some_iff.1 h8).1
  have hz1 : (wc.setCell ⟨g9, x, none⟩ (.int .u8 (c.toNat : Int))).heap.size = wc.heap.size := by simp [World.setCell]
  have hz2 : ((wc.setCell ⟨g9, x, none⟩ (.int .u8 (c.toNat : Int))).alloc o).heap.size = wc.heap.size + 1 := by rw [World.size_alloc, hz1]
  have q8 := own_blk_ne hw h8 (by decide)
  have q9 := own_blk_ne hw h9 (by decide)
  have q6 : ∀ b, v10.ownBlock = some b → b ≠ g6 := by
    obtain ⟨_, _, _, _, h6, _⟩ := hv
    exact own_blk_ne hw h6 (by decide)
  have hgs := grown_set wc ⟨g9, x, none⟩ (.int .u8 (c.toNat : Int))
  have hv1 := hv.grown hgs (by simpa using n69) (fun b hS => by simpa using hS.2.2.2.1)
  have hv2 := hv1.below (below_new _ o)
  have hv3 := hv2.grown hg (fun e => q6 g6 e.symm rfl) (fun b hS => hS.2.2.2.2)
  have e8 : w5.heap[g8]? = some (.cells (octets kept).toArray 5 (0, 0)) := (hg.block g8 (by rw [hz2]; omega) (fun e => q8 g8 e.symm rfl)).trans ((Below.heap_alloc _ _ _ (by rw [hz1]; exact l8)).trans ((hgs.block g8 l8 (by simpa using n89)).trans h8))
  have e9 : w5.heap[g9]? = some (.cells (octets (now.set x c)).toArray 5 (0, 0)) := by
    refine (hg.block g9 (by rw [hz2]; omega) (fun e => q9 g9 e.symm rfl)).trans ((Below.heap_alloc _ _ _ (by rw [hz1]; exact l9)).trans ?_)
    rw [blk_set h9, oct_put]
  refine ⟨df, kept, now.set x c, l ++ [(x, c)], hgd, by rw [List.length_append]; simp; omega, ?_, e8, e9, ?_, ?_⟩
  · refine (hv.more (S' := fun b => w.heap.size ≤ b ∧ b ≠ g6 ∧ b ≠ g8 ∧ b ≠ g9 ∧ some b ≠ v'.ownBlock ∧ some b ≠ v10.ownBlock) fun b hb' hS => ⟨hS.1, hS.2.1, hS.2.2.1, hS.2.2.2.1, fun e => ?_, hS.2.2.2.2⟩) |>.grown hgs (by simpa using n69) (fun b hS => by simpa using hS.2.2.2.1) |>.below (below_new _ o) |>.grown hg (fun e => q6 g6 e.symm rfl) (fun b hS => hS.2.2.2.2.2) |>.more fun b _ hS => ⟨hS.1, hS.2.1, hS.2.2.1, hS.2.2.2.1, hS.2.2.2.2.1⟩
    rcases hat with h | h
    · exact hS.2.2.2.2 (e.trans h)
    · rw [h] at e
      injection e with e
      omega
  · rw [pairs_snoc, List.length_append]
    exact ho
  · exact ((hb.setCell b9 _).alloc (by rw [hz1]; exact hb.size) _).grown hg (by rw [hz2]; have := hb.size; omega) (fun j hj => (hw.lt j hj).1)

/-- Behind a flush, or a crash: all is kept that is there now. -/
theorem LastAt.dry {w w4 : World} {B0 g6 g8 g9 n : Nat} {x0 x1 x2 x3 : Value} {df : Disk} {kept now now' : List UInt8} {cs0 : Array Value} (hgo : Good n df now' now' []) (ho : DiskOwn w4 B0 (.agg #[x0, x1, x2, x3]) df)
    (hg6 : w4.heap[g6]? = some (.cells cs0 25 (0, 0))) (h4 : cs0.size = 4) (h8 : w4.heap[g8]? = some (.cells (octets kept).toArray 5 (0, 0))) (h9 : w4.heap[g9]? = some (.cells (octets now).toArray 5 (0, 0)))
    (hb : Below w.heap.size w w4) (b0 : w.heap.size ≤ g6) (b6 : g6 < B0) (b8 : g8 < B0) (b9 : g9 < B0) (n68 : g6 ≠ g8) (n69 : g6 ≠ g9) :
    DV (resCells w4 g6 x0 x1 x2 x3) (fun b => w.heap.size ≤ b ∧ b ≠ g6 ∧ b ≠ g8 ∧ b ≠ g9 ∧ some b ≠ (Value.slice none 0 0).ownBlock) g6 df ∧
    (resCells w4 g6 x0 x1 x2 x3).heap[g8]? = some (.cells (octets kept).toArray 5 (0, 0)) ∧ (resCells w4 g6 x0 x1 x2 x3).heap[g9]? = some (.cells (octets now).toArray 5 (0, 0)) ∧ Below w.heap.size w (resCells w4 g6 x0 x1 x2 x3) := by
  refine ⟨DV.store_any hg6 h4 (ho.readsFrom.more fun b _ hS => ⟨by omega, by omega, by omega, by omega, by simp [Value.ownBlock]⟩) (fun b hS => hS.2.1), (res_far n68.symm _ _ _ _).trans h8, (res_far n69.symm _ _ _ _).trans h9, below_res hb b0 _ _ _ _⟩

/-! ### the loop of a crash -/
/-- What is kept of each write, as the law makes it. -/
def keepL (bit : Nat → Bool) (i : Nat) : List UInt8 := (List.range i).map fun j => if bit j then 255 else 0
theorem keepL_length (bit : Nat → Bool) (i : Nat) : (keepL bit i).length = i := by simp [keepL]
theorem keepL_succ (bit : Nat → Bool) (i : Nat) : keepL bit (i + 1) = keepL bit i ++ [if bit i then 255 else 0] := by simp [keepL, List.range_succ]
theorem keepL_of (bit : Nat → Bool) (i : Nat) : ∀ j, j < i → keepOf (keepL bit i) j = if bit j then 32 else 0 := by
  intro j hj
  have h : (keepL bit i)[j]? = some (if bit j then 255 else 0) := by simp [keepL, hj]
  unfold keepOf
  rw [h]
  cases bit j <;> rfl

theorem pairs_at {l : List (Nat × UInt8)} : ∀ {i : Nat} {x : Nat} {c : UInt8}, l[i]? = some (x, c) → (pairs l)[i * 2]? = some (.int .i64 (x : Int)) ∧ (pairs l)[i * 2 + 1]? = some (.int .u8 (c.toNat : Int)) := by
  induction l with
  | nil => intro i x c h; simp at h
  | cons p r ih =>
    intro i x c h
    have e : pairs (p :: r) = [.int .i64 (p.1 : Int), .int .u8 (p.2.toNat : Int)] ++ pairs r := rfl
    cases i with
    | zero =>
      simp at h
      subst h
      exact ⟨rfl, rfl⟩
    | succ i =>
      have := ih (i := i) (x := x) (c := c) (by simpa using h)
      rw [e, show (i + 1) * 2 = i * 2 + 2 by omega, show i * 2 + 2 + 1 = i * 2 + 1 + 2 by omega, List.getElem?_append_right (by simp), List.getElem?_append_right (by simp)]
      exact this

def CrashAt (w : World) (B g6 g8 g9 go : Nat) (d : Disk) (kept now : List UInt8) (l : List (Nat × UInt8)) (cs : Array Value) (v10 v15 : Value) (ks : List UInt8) (wx : World) : Prop :=
  DV wx (fun b => b < B ∧ b ≠ g6 ∧ b ≠ g8 ∧ b ≠ g9) g6 d ∧ wx.heap[g8]? = some (.cells (octets kept).toArray 5 (0, 0)) ∧ wx.heap[g9]? = some (.cells (octets now).toArray 5 (0, 0)) ∧
    wx.heap[go]? = some (.cells cs 46 (0, 0)) ∧ wx.ownsRow w.heap.size 49 2 v10 l.length (pairs l) ∧ wx.ownsRow B 5 1 v15 ks.length (octets ks) ∧ Below w.heap.size w wx ∧ B ≤ wx.heap.size ∧ g6 < B ∧ g8 < B ∧ g9 < B ∧ go < B ∧ (∀ b, v10.ownBlock = some b → b < B)

section
variable {w wx wy : World} {B g6 g8 g9 go : Nat} {d : Disk} {kept now : List UInt8} {l : List (Nat × UInt8)} {cs : Array Value} {v10 v15 : Value} {ks : List UInt8}
theorem CrashAt.below (h : CrashAt w B g6 g8 g9 go d kept now l cs v10 v15 ks wx) (hb : Below wx.heap.size wx wy) : CrashAt w B g6 g8 g9 go d kept now l cs v10 v15 ks wy := by
  obtain ⟨h1, h2, h3, h4, h5, h6, h7, h8, r⟩ := h
  have := hb.size
  exact ⟨h1.below hb, below_past h2 hb, below_past h3 hb, below_past h4 hb, own_below h5 hb fun b hh => (h5.lt b hh).2, own_below h6 hb fun b hh => (h6.lt b hh).2, h7.trans (hb.mono h7.size), by omega, r⟩
theorem CrashAt.put (h : CrashAt w B g6 g8 g9 go d kept now l cs v10 v15 ks wx) (b8 : w.heap.size ≤ g8) (n68 : g6 ≠ g8) (n89 : g8 ≠ g9) (x : Nat) (c : UInt8) : CrashAt w B g6 g8 g9 go d (kept.set x c) now l cs v10 v15 ks (wx.setCell ⟨g8, x, none⟩ (.int .u8 (c.toNat : Int))) := by
  obtain ⟨h1, h2, h3, h4, h5, h6, h7, h8, r6, r8, r9, ro, rv⟩ := h
  have hgs := grown_set wx ⟨g8, x, none⟩ (.int .u8 (c.toNat : Int))
  have l9 : g9 < wx.heap.size := (Array.getElem?_eq_some_iff.1 h3).1
  have lo : go < wx.heap.size := (Array.getElem?_eq_some_iff.1 h4).1
  have no : go ≠ g8 := fun e => by
    subst e
    rw [h2] at h4
    injection h4 with h4
    injection h4 with _ e2
    exact absurd e2 (by decide)
  refine ⟨h1.grown hgs (by simpa using n68) (fun b hS => by simpa using hS.2.2.1), by rw [blk_set h2, oct_put], (hgs.block g9 l9 (by simpa using n89.symm)).trans h3, (hgs.block go lo (by simpa using no)).trans h4, own_far h5 (own_blk_ne h5 h2 (by decide)) _, own_far h6 (fun b hb => ?_) _, h7.setCell b8 _, by rw [show (wx.setCell ⟨g8, x, none⟩ (.int .u8 (c.toNat : Int))).heap.size = wx.heap.size by simp [World.setCell]]; exact h8, r6, r8, r9, ro, rv⟩
  have := (h6.lt b hb).1
  show b ≠ g8
  omega
theorem CrashAt.more (h : CrashAt w B g6 g8 g9 go d kept now l cs v10 v15 ks wx) (hB : w.heap.size ≤ B) {v' : Value} {k : UInt8} {o : Obj} (hg : (wx.alloc o).grownBy wy v15.ownBlock) (ho : wy.ownsRow B 5 1 v' (ks.length + 1) (octets ks ++ [.int .u8 (k.toNat : Int)])) :
    CrashAt w B g6 g8 g9 go d kept now l cs v10 v' (ks ++ [k]) wy := by
  obtain ⟨h1, h2, h3, h4, h5, h6, h7, h8, r6, r8, r9, ro, rv⟩ := h.below (below_new wx o)
  have f : ∀ g, g < B → some g ≠ v15.ownBlock := fun g hg e => by have := (h6.lt g e.symm).1; omega
  have lt : ∀ g, g < B → g < (wx.alloc o).heap.size := fun g hg => by omega
  refine ⟨h1.grown hg (f g6 r6) (fun b hS => f b hS.1), (hg.block g8 (lt _ r8) (f _ r8)).trans h2, (hg.block g9 (lt _ r9) (f _ r9)).trans h3, (hg.block go (lt _ ro) (f _ ro)).trans h4, ?_, ?_, h7.grown hg h7.size (fun j hj => by have := (h6.lt j hj).1; omega), by have := hg.size; omega, r6, r8, r9, ro, rv⟩
  · refine h5.kept hg ?_
    cases hv : v10.ownBlock with
    | none => exact .inl rfl
    | some b => exact .inr (f b (rv b hv))
  · rw [List.length_append, show octets (ks ++ [k]) = octets ks ++ [.int .u8 (k.toNat : Int)] by simp [octets]]
    exact ho
end

theorem bit_at (c : UInt8) (i : Nat) : bits .and .u8 ((c.toNat : Int) / 2 ^ (i % 8)) 1 = ((c.toNat / 2 ^ (i % 8) % 2 : Nat) : Int) := by
  have h1 := c.toNat_lt
  have h2 : c.toNat / 2 ^ (i % 8) ≤ c.toNat := Nat.div_le_self _ _
  have h := u8_and_nat (c.toNat / 2 ^ (i % 8)) 1 (by omega) (by omega)
  rw [Nat.and_one_is_mod] at h
  simpa using h

end Go.Proofs.Ytdbioekmhlgolaa
