/- Contract: Read. -/
import Derived.Test.YtdbioekmhlgolaaH
import Derived.Test.YtdbioekmhlgolaaR
import Derived.RangeFuncFrom
import Derived.RangeFuncLeaves
import Derived.RangeFuncCalls
import Derived.Shelf.Abstract
import Derived.OwnWalkIn
import Derived.TacticsInMore
import Derived.BigFrameIn
import Derived.LoopNIn
import Derived.LoopIn
namespace Go.Proofs.Ytdbioekmhlgolaa
open Go.RowKit Go.Shelf Dk

attribute [local go_sem] Oper.semAt_some

/-- One write, with its place in the list and its octets' slice. -/
structure El (w : World) where
  i : Nat
  x : Wr
  vb : Value
  len : x.b.length = 32
  bs : Bs w (fun _ => True) vb x.b

def El.vals {w : World} (e : El w) : Array Value := #[.int .i64 (e.i : Int), .agg #[.int .i64 e.x.pos, e.vb]]

theorem list_by_index {α : Type} {p : Nat → α → Prop} : ∀ {n : Nat}, (∀ j, j < n → ∃ x, p j x) → ∃ l : List α, l.length = n ∧ ∀ j x, l[j]? = some x → p j x
  | 0, _ => ⟨[], rfl, fun j x h => by simp at h⟩
  | n + 1, h => by
    obtain ⟨l, hl, hp⟩ := list_by_index (n := n) (fun j hj => h j (by omega))
    obtain ⟨x, hx⟩ := h n (by omega)
    refine ⟨l ++ [x], by simp [hl], fun j y hy => ?_⟩
    by_cases hj : j < n
    · exact hp j y (by rwa [List.getElem?_append_left (by omega)] at hy)
    · obtain rfl : j = n := by have := (List.getElem?_eq_some_iff.1 hy).1; simp at this; omega
      rw [List.getElem?_append_right (by omega), hl, Nat.sub_self] at hy
      obtain rfl : x = y := by simpa using hy
      exact hx

theorem backward_any (A : Option Addr) (L c : Nat) (w : World) :
    Calls Try.prog 33 #[.slice A L c] w fun e w' => e = .returned (.func (.func 47) #[] #[.pointer (some ⟨w.heap.size, 0, none⟩)]) ∧ w.alloc (.cells #[.slice A L c] 23) = w' := by
  go_enter Try.func33, Try.ntmps33
  go_wp2
  go_ret
  exact ⟨rfl, rfl⟩

set_option maxRecDepth 100000 in
set_option maxRecDepth 4000 in
set_option maxHeartbeats 1000000 in
/-- The writes from the last one on, whatever the body, as long as it turns nothing below n0. -/
theorem back_in (n : Nat) (hn : 1 ≤ n) (w0 : World) (l Bn n0 : Nat) (ad : Option Addr) (L c : Nat) (es : List (El w0)) (J Jx : List (El w0) → World → Prop) (W : World) (hL : es.length = L) (hLc : L ≤ c) (hcm : c ≤ maxLen) (hBl : Bn < n0)
    (hY : ∀ pre x W1, J pre W1 → pre.length < L → YieldAt Fence.wide (n - 1) Try.prog l x.vals W1 fun e W' =>
      (e = .returned (.bool true) ∧ J (pre ++ [x]) W' ∧ Below n0 W1 W') ∨ (e = .returned (.bool false) ∧ Jx (pre ++ [x]) W'))
    (hB : W.cell? ⟨Bn, 0, none⟩ = some (.slice ad L c)) (hi : ∀ (j : Nat) (e : El w0), es[j]? = some e → e.i = j)
    (hc : ∀ (j : Nat) (e : El w0), es[j]? = some e → ∃ a, ad = some a ∧ a.block < n0 ∧ W.cell? (a.add (j * 2)) = some (.int .i64 e.x.pos) ∧ W.cell? (a.add (j * 2 + 1)) = some e.vb ∧ ∃ B m, e.vb = .slice B 32 m) (h0 : J [] W) :
    CallsIn Fence.wide n Try.prog 47 #[.func (.yield l) #[] #[], .pointer (some ⟨Bn, 0, none⟩)] W fun e W' => (∃ v, e = .returned v) ∧
      ((∃ ys, ys = es.reverse ∧ J ys W') ∨ (∃ pre, pre <+: es.reverse ∧ Jx pre W')) := by
  unfold maxLen at hcm
  have HL := Lib.hid hL
  have HI := Lib.hid hi
  have HC := Lib.hid hc
  have HY := Lib.hid hY
  clear hL hi hc hY
  refine callsIn_of_wp Try.func47 rfl trivial ?_ rfl
  simp only [Try.ntmps47, List.size_toArray, List.length_cons, List.length_nil, Nat.reduceAdd, Nat.reduceSub, Array.replicate_succ, Array.replicate_zero, List.push_toArray, List.append_toArray, List.nil_append, List.cons_append]
  gi_wp2
  gi_loopw [3] (fun p wr => ∃ k : Nat, k ≤ L ∧ p = .int .i64 ((k : Int) - 1) ∧ Below n0 W wr ∧ J ((es.drop k).reverse) wr) (fun p _ => (intOf p + 1).toNat)
  case atStart =>
    exact ⟨L, Nat.le_refl _, rfl, Below.refl _ _, by rw [List.drop_of_length_le (by rw [HL.out]; exact Nat.le_refl _)]; exact h0⟩
  case round =>
    obtain ⟨k, hk, rfl, hbe, hJ⟩ := hrel
    have HJ := Lib.hid hJ
    have HBE := Lib.hid hbe
    have b0 : wr.cell? ⟨Bn, 0, none⟩ = some (.slice ad L c) := (hbe.cell (p := ⟨Bn, 0, none⟩) hBl).trans hB
    clear hJ hbe
    cases k with
    | zero =>
      gi_wp2
      go_end0
      exact ⟨⟨_, rfl⟩, .inl ⟨es.reverse, rfl, HJ.out⟩⟩
    | succ m =>
      have hex : ∃ e, es[m]? = some e := ⟨_, List.getElem?_eq_getElem (by rw [HL.out]; omega)⟩
      obtain ⟨e, he⟩ := hex
      obtain ⟨a, rfl, ha, hc1, hc2, B, mm, hv⟩ := HC.out m e he
      have hdrop : es.drop m = e :: es.drop (m + 1) := by
        rw [List.drop_eq_getElem_cons (by rw [HL.out]; omega)]
        congr 1
        exact (List.getElem?_eq_some_iff.1 he).2
      have hrev : (es.drop m).reverse = (es.drop (m + 1)).reverse ++ [e] := by rw [hdrop, List.reverse_cons]
      obtain ⟨fn, tmps, assign, body, hy, hR⟩ := HY.out ((es.drop (m + 1)).reverse) e wr HJ.out (by rw [List.length_reverse, List.length_drop, HL.out]; omega)
      have hi0 := HI.out m e he
      have c1 : wr.cell? (a.add (m * 2)) = some (.int .i64 e.x.pos) := (HBE.out.cell (by rw [add_block]; exact ha)).trans hc1
      have c2 := cell_next ((HBE.out.cell (p := a.add (m * 2 + 1)) (by rw [add_block]; exact ha)).trans hc2)
      simp only [El.vals, hi0, hv] at hy
      rw [hv] at c2
      rw [show (((m + 1 : Nat) : Int) - 1) = (m : Int) by omega]
      have HE := Lib.hid he
      have HREV := Lib.hid hrev
      have HV := Lib.hid hv
      clear he hrev hdrop hi0 hv hc1 hc2
      gi_wp2
      refine hR.mono ?_
      rintro e' W3 (⟨rfl, hJ3, hk3⟩ | ⟨rfl, hJx3⟩)
      · have HJ3 := Lib.hid hJ3
        have HK3 := Lib.hid hk3
        clear hJ3 hk3
        gi_wp2
        go_roundw
        case rel => exact ⟨m, by omega, rfl, HBE.out.trans HK3.out, by rw [HREV.out]; exact HJ3.out⟩
        case measure => simp [intOf]
      · have HJX := Lib.hid hJx3
        clear hJx3
        gi_wp2
        refine bodyPost_ret (results_none rfl _ _ _) rfl ?_
        refine ⟨⟨_, rfl⟩, .inr ⟨_, ?_, HJX.out⟩⟩
        rw [← HREV.out]
        exact ⟨(es.take m).reverse, by rw [← List.reverse_append, List.take_append_drop]⟩

theorem look_hit {w : World} {d : Disk} {es pre : List (El w)} {x : El w} {at_ : Int} (hw : d.wet = es.map (·.x)) (hp : pre ++ [x] <+: es.reverse) (hn : ∀ y ∈ pre, y.x.pos ≠ at_) (hx : x.x.pos = at_) : d.look at_ = x.x.b := by
  obtain ⟨t, ht⟩ := hp
  have e : d.wet.reverse = pre.map (·.x) ++ (x.x :: t.map (·.x)) := by rw [hw, ← List.map_reverse, ← ht]; simp
  have h1 : (pre.map (·.x)).find? (fun y => y.pos == at_) = none := by
    rw [List.find?_eq_none]
    intro y hy
    obtain ⟨z, hz, rfl⟩ := List.mem_map.1 hy
    simpa using hn z hz
  have h2 : d.wet.reverse.find? (fun y => y.pos == at_) = some x.x := by rw [e, List.find?_append, h1, List.find?_cons]; simp [hx]
  rw [Disk.look, h2]
theorem look_miss {w : World} {d : Disk} {es : List (El w)} {at_ : Int} (hw : d.wet = es.map (·.x)) (hn : ∀ y ∈ es.reverse, y.x.pos ≠ at_) : d.look at_ = (d.dry.drop (at_.toNat * 32)).take 32 := by
  have h2 : d.wet.reverse.find? (fun y => y.pos == at_) = none := by
    rw [List.find?_eq_none]
    intro y hy
    rw [hw, ← List.map_reverse] at hy
    obtain ⟨z, hz, rfl⟩ := List.mem_map.1 hy
    simpa using hn z hz
  rw [Disk.look, h2]

/-- The writes of a disk, each with its slice. -/
theorem els_of {w : World} {wet : List Wr} {xs : List Value} (hl : ∀ x ∈ wet, x.b.length = 32) (hx : WrCells w (fun _ => True) xs wet) :
    ∃ es : List (El w), es.length = wet.length ∧ wet = es.map (·.x) ∧ ∀ (j : Nat) (e : El w), es[j]? = some e → e.i = j ∧ xs[j * 2]? = some (.int .i64 e.x.pos) ∧ xs[j * 2 + 1]? = some e.vb ∧ ∃ B m, e.vb = .slice B 32 m := by
  obtain ⟨es, hes, h⟩ := list_by_index (n := wet.length) (p := fun j (e : El w) => wet[j]? = some e.x ∧ e.i = j ∧ xs[j * 2]? = some (.int .i64 e.x.pos) ∧ xs[j * 2 + 1]? = some e.vb ∧ ∃ B m, e.vb = .slice B 32 m) (fun j hj => by
    obtain ⟨h1, vb, h2, h3⟩ := hx.2 j _ (List.getElem?_eq_getElem hj)
    have hlen := hl _ (List.getElem_mem hj)
    have hb := h3
    obtain ⟨B, m, he, _⟩ := h3
    rw [hlen] at he
    exact ⟨⟨j, wet[j], vb, hlen, hb⟩, List.getElem?_eq_getElem hj, rfl, h1, h2, B, m, he⟩)
  refine ⟨es, hes, List.ext_getElem? fun j => ?_, fun j e he => (h j e he).2⟩
  by_cases hj : j < wet.length
  · have he : es[j]? = some (es[j]'(by omega)) := List.getElem?_eq_getElem (by omega)
    rw [(h j _ he).1, List.getElem?_map, he]
    rfl
  · rw [List.getElem?_eq_none (by omega), List.getElem?_eq_none (by simp; omega)]

theorem own_kept {W W' : World} {base : Nat} {e : TypeId} {size n : Nat} {v : Value} {xs : List Value} {row : Option Nat} (h : W.ownsRow base e size v n xs) (hg : W.grownBy W' row)
    (hrow : ∀ r, row = some r → ∃ o : Obj, W.heap[r]? = some o ∧ o.isCells = false) : W'.ownsRow base e size v n xs := by
  refine h.kept hg ?_
  cases hv : v.ownBlock with
  | none => exact .inl rfl
  | some k =>
    refine .inr fun e => ?_
    obtain ⟨o, h1, h2⟩ := hrow k e.symm
    rcases h.2 with ⟨rfl, _⟩ | ⟨g, cap, cur, rfl, _, hh, _⟩
    · simp [Value.ownBlock] at hv
    · obtain rfl : g = k := by simpa [Value.ownBlock] using hv
      rw [hh] at h1
      injection h1 with h1
      subst h1
      simp [Obj.isCells] at h2

/-- The sector has been found, and lies in the results. -/
def ReadHit (w : World) (at_ : Int) (x : El w) (W : World) : Prop :=
  x.x.pos = at_ ∧ Below w.heap.size w W ∧ (∃ A k, W.ownsRow w.heap.size 5 1 (.slice A 32 k) 32 (octets x.x.b) ∧ W.cell? ⟨w.heap.size + 1 + 1, 0, none⟩ = some (.slice A 32 k)) ∧ W.cell? ⟨w.heap.size + 1 + 1 + 1, 0, none⟩ = some (.int .i64 0)

theorem ReadHit.kept {w W W' : World} {at_ : Int} {x : El w} {row : Option Nat} (h : ReadHit w at_ x W) (hg : W.grownBy W' row) (hrow : ∀ r, row = some r → w.heap.size ≤ r ∧ ∃ o : Obj, W.heap[r]? = some o ∧ o.isCells = false) : ReadHit w at_ x W' := by
  obtain ⟨h1, h2, ⟨A, k, h3, h4⟩, h5⟩ := h
  have hr : ∀ r, row = some r → ∃ o : Obj, W.heap[r]? = some o ∧ o.isCells = false := fun r e => (hrow r e).2
  exact ⟨h1, h2.grown hg h2.size (fun r e => (hrow r e).1), ⟨A, k, own_kept h3 hg hr, cell_kept h4 hg hr⟩, cell_kept h5 hg hr⟩

set_option maxRecDepth 4000 in
set_option maxHeartbeats 1000000 in
theorem read_in (n : Nat) (hn : 3 ≤ n) (v : Value) (d : Disk) (at_ : Int) (w : World) (h : DiskR w (fun _ => True) v d) :
    CallsIn Fence.wide n Try.prog 13 #[v, .int .i64 at_] w (GivesRE w (read d at_)) := by
  have HD := Lib.hid h
  obtain ⟨vd, vw, rfl, ⟨A, c, rfl, hdc, hdm, hdn, hdcell⟩, A', c', xs, rfl, hwc, hwm, _, hx, hcw⟩ := h
  have HX := Lib.hid hx
  have HCW := Lib.hid hcw
  have HDC := Lib.hid hdcell
  clear hx hcw hdcell
  obtain ⟨W0, hW0⟩ : ∃ W0, W0 = (((w.alloc (Obj.cells #[Value.slice A d.dry.length c, Value.slice A' d.wet.length c', .int .i64 d.fuse, .bool d.dead] 25)).alloc (Obj.cells #[.int .i64 at_] 3)).alloc (Obj.cells #[.slice none 0 0] 22)).alloc (Obj.cells #[.int .i64 0] 29) := ⟨_, rfl⟩
  have hb0 : Below w.heap.size w W0 := by rw [hW0]; exact (((below_new _ _).alloc (by simp) _).alloc (by simp; omega) _).alloc (by simp; omega) _
  have hz0 : W0.heap.size = w.heap.size + 4 := by rw [hW0]; simp
  have hres : W0.heap[w.heap.size + 1 + 1]? = some (.cells #[.slice none 0 0] 22 (0, 0)) := by
    rw [hW0, Below.heap_alloc _ _ _ (by simp)]; exact heap_thirdly _ _ _ _
  have hres2 : W0.heap[w.heap.size + 1 + 1 + 1]? = some (.cells #[.int .i64 0] 29 (0, 0)) := by
    have := heap_alloc_new (((w.alloc (Obj.cells #[Value.slice A d.dry.length c, Value.slice A' d.wet.length c', .int .i64 d.fuse, .bool d.dead] 25)).alloc (Obj.cells #[.int .i64 at_] 3)).alloc (Obj.cells #[.slice none 0 0] 22)) (Obj.cells #[.int .i64 0] 29)
    rw [World.size_alloc, World.size_alloc, World.size_alloc] at this
    rw [hW0]
    exact this
  have hbox : W0.heap[w.heap.size]? = some (.cells #[Value.slice A d.dry.length c, Value.slice A' d.wet.length c', .int .i64 d.fuse, .bool d.dead] 25 (0, 0)) := by
    rw [hW0, Below.heap_alloc _ _ _ (by simp; omega), Below.heap_alloc _ _ _ (by simp; omega), Below.heap_alloc _ _ _ (by simp)]; exact heap_first _ _
  have hbox1 : W0.heap[w.heap.size + 1]? = some (.cells #[.int .i64 at_] 3 (0, 0)) := by
    rw [hW0, Below.heap_alloc _ _ _ (by simp), Below.heap_alloc _ _ _ (by simp)]; exact heap_second _ _ _
  have h1 : 1 ≤ n := by omega
  have HRD := Lib.hid (ready_any _ d true W0 (HD.out.below hb0))
  have HRES := Lib.hid hres
  have HRES2 := Lib.hid hres2
  have HBOX := Lib.hid hbox
  have HBOX1 := Lib.hid hbox1
  have HB0 := Lib.hid hb0
  clear hres hres2 hb0 hbox hbox1
  generalize hrr : ready d true = rr at *
  have HRR := Lib.hid hrr
  clear hrr
  by_cases h0 : rr = 0
  · subst h0
    obtain ⟨hok, _, hdead⟩ := ready_zero HRR.out
    have HOK := Lib.hid hok
    have HTH := Lib.hid (fun W1 (hb1 : Below W0.heap.size W0 W1) => isThere_any _ d at_ W1 ((HD.out.below HB0.out).below hb1))
    clear hok hdead
    generalize hh : d.has at_ = hs at *
    have HH := Lib.hid hh
    clear hh
    cases hs
    · refine callsIn_of_wp_marks Try.func13 rfl trivial ?_ rfl
      simp only [Try.ntmps13, List.size_toArray, List.length_cons, List.length_nil, Nat.reduceAdd, Nat.reduceSub, Array.replicate_succ, Array.replicate_zero, List.push_toArray, List.append_toArray, List.nil_append, List.cons_append]
      gi_wp2_with fail
      rw [← hW0]
      clear hW0
      refine ⟨trivial, (callsIn_wide.2 HRD.out).mono ?_⟩
      rintro e w1 ⟨rfl, hbe⟩
      have hbx := (hbe.block w.heap.size (by omega)).trans HBOX.out
      have hbx1 := (hbe.block (w.heap.size + 1) (by omega)).trans HBOX1.out
      have b1 : ∀ i, w1.cell? ⟨w.heap.size, i, none⟩ = #[Value.slice A d.dry.length c, Value.slice A' d.wet.length c', .int .i64 d.fuse, .bool d.dead][i]? := fun i => cell_of_row w1 _ i _ _ _ hbx
      have b2 : ∀ i, w1.cell? ⟨w.heap.size + 1, i, none⟩ = #[.int .i64 at_][i]? := fun i => cell_of_row w1 _ i _ _ _ hbx1
      have HBE := Lib.hid hbe
      clear hbx hbx1 hbe
      gi_wp2_with fail
      refine ⟨trivial, (callsIn_wide.2 (HTH.out w1 HBE.out)).mono ?_⟩
      rintro e w2 ⟨rfl, hbe2⟩
      have hbe : Below W0.heap.size W0 w2 := HBE.out.trans (hbe2.mono HBE.out.size)
      have hr1 := (hbe.block (w.heap.size + 1 + 1) (by omega)).trans HRES.out
      have r1 : ∀ i, w2.cell? ⟨w.heap.size + 1 + 1, i, none⟩ = #[.slice none 0 0][i]? := fun i => cell_of_row w2 _ i _ _ _ hr1
      have r2 : ∀ i, w2.frozen? ⟨w.heap.size + 1 + 1, i, none⟩ = false := fun i => by simp [World.frozen?, hr1]
      have hr3 := (hbe.block (w.heap.size + 1 + 1 + 1) (by omega)).trans HRES2.out
      have r3 : ∀ i, w2.cell? ⟨w.heap.size + 1 + 1 + 1, i, none⟩ = #[.int .i64 0][i]? := fun i => cell_of_row w2 _ i _ _ _ hr3
      have r4 : ∀ i, w2.frozen? ⟨w.heap.size + 1 + 1 + 1, i, none⟩ = false := fun i => by simp [World.frozen?, hr3]
      have hz1 := hbe.size
      have hlt1 : w.heap.size + 1 + 1 + 1 < w2.heap.size := by omega
      have hlt2 : w.heap.size + 1 + 1 < w2.heap.size := by omega
      have hbl : Below w.heap.size w ((w2.setCell ⟨w.heap.size + 1 + 1, 0, none⟩ (.slice none 0 0)).setCell ⟨w.heap.size + 1 + 1 + 1, 0, none⟩ (.int .i64 5)) := ((HB0.out.trans (hbe.mono (by omega))).setCell (p := ⟨w.heap.size + 1 + 1, 0, none⟩) (by simp; omega) _).setCell (p := ⟨w.heap.size + 1 + 1 + 1, 0, none⟩) (by simp; omega) _
      have HBL := Lib.hid hbl
      clear hr1 hr3 hbe hbl hbe2 b1 b2
      gi_wp2_with fail
      have hfl : Dk.read d at_ = ([], 5) := by simp [Dk.read, HRR.out, HH.out]
      rw [hfl]
      refine ⟨.tuple #[.slice none 0 0, .int .i64 5], ?_, _, rfl, World.ownsRow_nil _ _ _ _, HBL.out⟩
      simp [results, Try.f13, go_sem, r1, r2, r3, r4, hlt1, hlt2]
    · refine callsIn_of_wp_marks Try.func13 rfl trivial ?_ rfl
      simp only [Try.ntmps13, List.size_toArray, List.length_cons, List.length_nil, Nat.reduceAdd, Nat.reduceSub, Array.replicate_succ, Array.replicate_zero, List.push_toArray, List.append_toArray, List.nil_append, List.cons_append]
      gi_wp2_with fail
      rw [← hW0]
      clear hW0
      refine ⟨trivial, (callsIn_wide.2 HRD.out).mono ?_⟩
      rintro e w1 ⟨rfl, hbe⟩
      have hbx := (hbe.block w.heap.size (by omega)).trans HBOX.out
      have hbx1 := (hbe.block (w.heap.size + 1) (by omega)).trans HBOX1.out
      have b1 : ∀ i, w1.cell? ⟨w.heap.size, i, none⟩ = #[Value.slice A d.dry.length c, Value.slice A' d.wet.length c', .int .i64 d.fuse, .bool d.dead][i]? := fun i => cell_of_row w1 _ i _ _ _ hbx
      have b2 : ∀ i, w1.cell? ⟨w.heap.size + 1, i, none⟩ = #[.int .i64 at_][i]? := fun i => cell_of_row w1 _ i _ _ _ hbx1
      have HBE := Lib.hid hbe
      clear hbx hbx1 hbe
      gi_wp2_with fail
      refine ⟨trivial, (callsIn_wide.2 (HTH.out w1 HBE.out)).mono ?_⟩
      rintro e w2 ⟨rfl, hbe2⟩
      have hbe3 : Below W0.heap.size W0 w2 := HBE.out.trans (hbe2.mono HBE.out.size)
      have hbx := (hbe3.block w.heap.size (by omega)).trans HBOX.out
      have hbx1 := (hbe3.block (w.heap.size + 1) (by omega)).trans HBOX1.out
      have b3 : ∀ i, w2.cell? ⟨w.heap.size, i, none⟩ = #[Value.slice A d.dry.length c, Value.slice A' d.wet.length c', .int .i64 d.fuse, .bool d.dead][i]? := fun i => cell_of_row w2 _ i _ _ _ hbx
      have b4 : ∀ i, w2.cell? ⟨w.heap.size + 1, i, none⟩ = #[.int .i64 at_][i]? := fun i => cell_of_row w2 _ i _ _ _ hbx1
      have HBE3 := Lib.hid hbe3
      clear hbe2 hbe3 b1 b2 hbx hbx1
      gi_wp2_with fail
      refine ⟨trivial, (callsIn_wide.2 (backward_any _ _ _ _)).mono ?_⟩
      rintro e w3 ⟨rfl, rfl⟩
      gi_wp2_with fail
      have hz2 := HBE3.out.size
      have hb4 : Below W0.heap.size W0 (w2.alloc (Obj.cells #[Value.slice A' d.wet.length c'] 23)) := HBE3.out.alloc hz2 _
      obtain ⟨w3, hw3⟩ : ∃ w3, w3 = w2.alloc (Obj.cells #[Value.slice A' d.wet.length c'] 23) := ⟨_, rfl⟩
      rw [← hw3]
      rw [← hw3] at hb4
      have hz3 : w3.heap.size = w2.heap.size + 1 := by rw [hw3]; simp
      have hbox3 : w3.cell? ⟨w2.heap.size, 0, none⟩ = some (.slice A' d.wet.length c') := by rw [hw3]; simp [go_sem]
      have hww : Below w.heap.size w w3 := HB0.out.trans (hb4.mono (by omega))
      have hr1 := (hb4.block (w.heap.size + 1 + 1) (by omega)).trans HRES.out
      have hr3 := (hb4.block (w.heap.size + 1 + 1 + 1) (by omega)).trans HRES2.out
      have hbxx := (hb4.block w.heap.size (by omega)).trans HBOX.out
      have hbxx1 := (hb4.block (w.heap.size + 1) (by omega)).trans HBOX1.out
      have HW3 := Lib.hid hw3
      clear hw3 b3 b4
      obtain ⟨es, hesl, hesw, hes⟩ := els_of (fun x hx => (Disk.ok_small HOK.out).1.2.2 x hx) HX.out
      have hseq : SeqStopsK Fence.wide (n - 1) Try.prog 47 #[.pointer (some ⟨w2.heap.size, 0, none⟩)] (El.vals (w := w)) (Below w3.heap.size) (fun ys => ys = es.reverse) (fun pre => pre <+: es.reverse) d.wet.length w3 := by
        intro l J Jx W hW _ _ hY hj
        refine back_in (n - 1) (by omega) w l w2.heap.size w3.heap.size A' d.wet.length c' es J Jx W hesl hwc hwm (by omega) hY ((hW.cell (p := ⟨w2.heap.size, 0, none⟩) (by show w2.heap.size < _; omega)).trans hbox3) (fun j e he => (hes j e he).1) (fun j e he => ?_) hj
        obtain ⟨_, e1, e2, hv⟩ := hes j e he
        obtain ⟨a, rfl, _, hcell⟩ := HCW.out (by have := (List.getElem?_eq_some_iff.1 e1).1; omega)
        have q1 := hcell _ _ e1
        have q2 := hcell _ _ e2
        have hbl := World.block_lt_of_cell? w _ q1
        rw [add_block] at hbl
        have hwW := hww.trans (hW.mono (by have := hww.size; omega))
        exact ⟨a, rfl, by have := hww.size; omega, (hwW.cell (by rw [add_block]; exact hbl)).trans q1, (hwW.cell (by rw [add_block]; exact hbl)).trans q2, hv⟩
      have HWW := Lib.hid hww
      have HB4 := Lib.hid hb4
      have HES := Lib.hid hesw
      have hw3l : w.heap.size + 4 ≤ w3.heap.size := by omega
      have r1 : ∀ W, Below w3.heap.size w3 W → W.heap[w.heap.size + 1 + 1]? = some (.cells #[.slice none 0 0] 22 (0, 0)) ∧ W.heap[w.heap.size + 1 + 1 + 1]? = some (.cells #[.int .i64 0] 29 (0, 0)) ∧
          W.heap[w.heap.size]? = some (.cells #[Value.slice A d.dry.length c, Value.slice A' d.wet.length c', .int .i64 d.fuse, .bool d.dead] 25 (0, 0)) ∧ W.heap[w.heap.size + 1]? = some (.cells #[.int .i64 at_] 3 (0, 0)) :=
        fun W hb => ⟨(hb.block _ (by omega)).trans hr1, (hb.block _ (by omega)).trans hr3, (hb.block _ (by omega)).trans hbxx, (hb.block _ (by omega)).trans hbxx1⟩
      have R1 := Lib.hid r1
      clear hww hb4 hesw hr1 hr3 hbxx hbxx1 r1 hes
      refine range_box h1 (gf := 47) (lb := #[.pointer (some ⟨w2.heap.size, 0, none⟩)]) rfl (enters_of Try.func47 (by kernel_rfl) rfl)
        hseq (fun _ => rfl) (fun e => e.x.pos ≠ at_) (ReadHit w at_) (fun e => .cells #[.int .i64 e.x.pos, e.vb] 56) (fun _ => rfl)
        (fun x l b b' W hl hb hc hR => hR.kept (grownBy_putObj' W l b') (fun r e => by cases e; exact ⟨by omega, _, hb, hc⟩))
        (fun x W W' row hR hg hr => hR.kept hg (fun r e => ⟨by have := (hr r e).1; omega, let ⟨o, h1, h2⟩ := (hr r e).2; ⟨o, h1, Obj.not_cells_of_walk h2⟩⟩))
        (fun e b => { tmps := #[.agg #[Value.slice A d.dry.length c, Value.slice A' d.wet.length c', Value.int IntKind.i64 d.fuse, Value.bool d.dead], .int .i64 at_, .pointer (some ⟨w.heap.size, 0, none⟩), .pointer (some ⟨w.heap.size + 1, 0, none⟩),
            .pointer (some ⟨w.heap.size + 1 + 1, 0, none⟩), .pointer (some ⟨w.heap.size + 1 + 1 + 1, 0, none⟩), .int .i64 0, undef, .pointer (some ⟨b, 0, none⟩),
            .agg #[Value.slice A d.dry.length c, Value.slice A' d.wet.length c', Value.int IntKind.i64 d.fuse, Value.bool d.dead], .int .i64 0, .int .i64 0, .bool false, undef,
            .agg #[Value.slice A d.dry.length c, Value.slice A' d.wet.length c', Value.int IntKind.i64 d.fuse, Value.bool d.dead], .int .i64 at_, .bool true, .bool false, .pointer (some ⟨w.heap.size, 1, none⟩), .slice A' d.wet.length c',
            .func (.func 47) #[] #[.pointer (some ⟨w2.heap.size, 0, none⟩)], .int .i64 (e.i : Int), .agg #[.int .i64 e.x.pos, e.vb], undef, undef, undef, undef, undef, undef, undef, undef, undef, undef, undef, undef, undef, undef, undef, undef], defers := [] }) ?assign ?body ?done ?stop
      case assign =>
        intro l x W K hK
        obtain ⟨i, y, vb, hl, hbs⟩ := x
        obtain ⟨B, cb, rfl, _⟩ := hbs
        dsimp only [El.vals] at hK ⊢
        rw [hl] at hK
        gi_wp2
        exact hK
      case body =>
        rintro l b ⟨i, y, vb, hlen, hbs⟩ W hB hb hblk
        dsimp only at hblk ⊢
        have hbs2 := hbs
        obtain ⟨B, cb, rfl, _⟩ := hbs
        obtain ⟨q1, q2, q3, q4⟩ := R1.out W hB
        have x1 : ∀ i, W.cell? ⟨b, i, none⟩ = #[.int .i64 y.pos, .slice B y.b.length cb][i]? := fun i => cell_of_row W _ i _ _ _ hblk
        have x2 : ∀ i, W.cell? ⟨w.heap.size + 1, i, none⟩ = #[.int .i64 at_][i]? := fun i => cell_of_row W _ i _ _ _ q4
        have HBLK := Lib.hid hblk
        have HBB := Lib.hid hB
        have HBS := Lib.hid hbs2
        clear hblk hB hbs2
        by_cases hp : y.pos = at_
        · have t1 : (y.pos == at_) = true := by simp [hp]
          have HP := Lib.hid hp
          clear hp
          gi_wp2_with fail
          refine ⟨trivial, (fun h => by cases h), CallsIn.inRound l ((callsIn_wide.2 (bclone_any _ y.b _ (by rw [hlen] at HBS; exact HBS.out.below (HWW.out.trans (HBB.out.mono (by omega)))) (by omega))).mono ?_)⟩
          rintro e W4 ⟨v4, rfl, hown, hbe4⟩
          rw [hlen] at hown
          obtain ⟨A4, k4, rfl⟩ := own_slice hown
          have hz4 := hbe4.size
          have hzW := HBB.out.size
          have y1 := (hbe4.block (w.heap.size + 1 + 1) (by omega)).trans q1
          have y2 := (hbe4.block (w.heap.size + 1 + 1 + 1) (by omega)).trans q2
          have z1 : ∀ i, W4.cell? ⟨w.heap.size + 1 + 1, i, none⟩ = #[.slice none 0 0][i]? := fun i => cell_of_row W4 _ i _ _ _ y1
          have z2 : ∀ i, W4.frozen? ⟨w.heap.size + 1 + 1, i, none⟩ = false := fun i => by simp [World.frozen?, y1]
          have z3 : ∀ i, W4.cell? ⟨w.heap.size + 1 + 1 + 1, i, none⟩ = #[.int .i64 0][i]? := fun i => cell_of_row W4 _ i _ _ _ y2
          have z4 : ∀ i, W4.frozen? ⟨w.heap.size + 1 + 1 + 1, i, none⟩ = false := fun i => by simp [World.frozen?, y2]
          have hko : KeepsOthers W ((W4.setCell ⟨w.heap.size + 1 + 1, 0, none⟩ (.slice A4 32 k4)).setCell ⟨w.heap.size + 1 + 1 + 1, 0, none⟩ (.int .i64 0)) :=
            (KeepsOthers.trans ⟨hbe4.size, fun k o hk _ => (hbe4.block k (Array.getElem?_eq_some_iff.1 hk).1).trans hk⟩ (KeepsOthers.setCell _ _ _)).trans (KeepsOthers.setCell _ _ _)
          have hown2 : ((W4.setCell ⟨w.heap.size + 1 + 1, 0, none⟩ (.slice A4 32 k4)).setCell ⟨w.heap.size + 1 + 1 + 1, 0, none⟩ (.int .i64 0)).ownsRow w.heap.size 5 1 (.slice A4 32 k4) 32 (octets y.b) :=
            own_mono (own_far (own_far hown (fun k hk e => by have := (hown.lt k hk).1; simp at e; omega) _) (fun k hk e => by have := (hown.lt k hk).1; simp at e; omega) _) (by omega)
          have hcl : ((W4.setCell ⟨w.heap.size + 1 + 1, 0, none⟩ (.slice A4 32 k4)).setCell ⟨w.heap.size + 1 + 1 + 1, 0, none⟩ (.int .i64 0)).cell? ⟨w.heap.size + 1 + 1, 0, none⟩ = some (.slice A4 32 k4) := by simp [go_sem, z1, z3]
          have hcl2 : ((W4.setCell ⟨w.heap.size + 1 + 1, 0, none⟩ (.slice A4 32 k4)).setCell ⟨w.heap.size + 1 + 1 + 1, 0, none⟩ (.int .i64 0)).cell? ⟨w.heap.size + 1 + 1 + 1, 0, none⟩ = some (.int .i64 0) := by simp [go_sem, z1, z3]
          have hbl : Below w.heap.size w ((W4.setCell ⟨w.heap.size + 1 + 1, 0, none⟩ (.slice A4 32 k4)).setCell ⟨w.heap.size + 1 + 1 + 1, 0, none⟩ (.int .i64 0)) :=
            ((HWW.out.trans ((HBB.out.mono (by omega)).trans (hbe4.mono (by omega)))).setCell (p := ⟨w.heap.size + 1 + 1, 0, none⟩) (by simp; omega) _).setCell (p := ⟨w.heap.size + 1 + 1 + 1, 0, none⟩) (by simp; omega) _
          have HFIN : Hid (KeepsOthers W _ ∧ ReadHit w at_ ⟨i, y, .slice B y.b.length cb, hlen, HBS.out⟩ _) := ⟨hko, HP.out, hbl, ⟨A4, k4, hown2, hcl⟩, hcl2⟩
          clear hko hown2 hcl hcl2 hbl hown hbe4 y1 y2
          gi_wp2_with fail
          exact HFIN.out
        · have t1 : (y.pos == at_) = false := by simp [hp]
          have HP := Lib.hid hp
          clear hp
          gi_wp2_with fail
          exact ⟨KeepsOthers.refl _, Below.refl _ _, HP.out⟩
      case done =>
        rintro D ys W hD rfl hgo hB hK
        have hlook := look_miss HES.out hgo
        have hbb := Disk.ok_small HOK.out
        have hN : 32 ≤ d.dry.length ∧ d.dry.length % 32 = 0 ∧ d.dry.length ≤ 262144 := by
          have := HOK.out
          simp only [Disk.ok, Bool.and_eq_true, decide_eq_true_eq] at this
          omega
        have hat : 0 ≤ at_ ∧ at_ < (d.dry.length : Int) / 32 := by
          have := HH.out
          simpa [Disk.has] using this
        obtain ⟨q, rfl⟩ : ∃ q : Nat, at_ = (q : Int) := ⟨at_.toNat, by omega⟩
        obtain ⟨a, hA, _, hcell⟩ := HDC.out (by rw [octets_length]; omega)
        subst hA
        obtain ⟨q1, q2, q3, q4⟩ := R1.out W hB
        have x1 : ∀ i, W.cell? ⟨w.heap.size, i, none⟩ = #[.slice (some a) d.dry.length c, .slice A' d.wet.length c', .int .i64 d.fuse, .bool d.dead][i]? := fun i => cell_of_row W _ i _ _ _ q3
        have x2 : ∀ i, W.cell? ⟨w.heap.size + 1, i, none⟩ = #[.int .i64 (q : Int)][i]? := fun i => cell_of_row W _ i _ _ _ q4
        have hqn : q * 32 + 32 ≤ d.dry.length := by omega
        have hsec : ((d.dry.drop (q * 32)).take 32).length = 32 := by rw [List.length_take, List.length_drop]; omega
        have hwW := HWW.out.trans (hB.mono (by omega))
        have hbs : Bs W (fun _ => True) (.slice (some (a.add (q * 32))) 32 (c - q * 32)) ((d.dry.drop (q * 32)).take 32) := by
          refine ⟨some (a.add (q * 32)), c - q * 32, by rw [hsec], by omega, by omega, (fun h => by cases h), fun _ => ⟨_, rfl, trivial, fun j u hu => ?_⟩⟩
          rw [add_add]
          have hj : j < 32 := by have := (List.getElem?_eq_some_iff.1 hu).1; rw [octets_length, hsec] at this; exact this
          have hu2 : (octets d.dry)[q * 32 + j]? = some u := by
            simp only [octets, List.getElem?_map] at hu ⊢
            rwa [List.getElem?_take_of_lt hj, List.getElem?_drop] at hu
          have hc0 := hcell _ _ hu2
          exact (hwW.cell (World.block_lt_of_cell? w _ hc0)).trans hc0
        have HBS := Lib.hid hbs
        have HSEC := Lib.hid hsec
        have HLOOK := Lib.hid hlook
        have HKD := Lib.hid hK
        have HBB := Lib.hid hB
        have e32 : (q + 1) * 32 - q * 32 = 32 := by omega
        generalize hN' : d.dry.length = N at *
        have HN := Lib.hid hN'
        have hwW0 := Lib.hid hwW
        unfold maxLen at hdm
        clear hbs hsec hlook hK hB hgo hN' hwW hcell hbb
        gi_wp2_with fail
        refine ⟨trivial, (callsIn_wide.2 (bclone_any _ _ _ HBS.out (by rw [HSEC.out]; omega))).mono ?_⟩
        rintro e W4 ⟨v4, rfl, hown, hbe4⟩
        rw [HSEC.out] at hown
        obtain ⟨A4, k4, rfl⟩ := own_slice hown
        have hz4 := hbe4.size
        have hzW := HBB.out.size
        have y1 := (hbe4.block (w.heap.size + 1 + 1) (by omega)).trans q1
        have y2 := (hbe4.block (w.heap.size + 1 + 1 + 1) (by omega)).trans q2
        have z1 : ∀ i, W4.cell? ⟨w.heap.size + 1 + 1, i, none⟩ = #[.slice none 0 0][i]? := fun i => cell_of_row W4 _ i _ _ _ y1
        have z2 : ∀ i, W4.frozen? ⟨w.heap.size + 1 + 1, i, none⟩ = false := fun i => by simp [World.frozen?, y1]
        have z3 : ∀ i, W4.cell? ⟨w.heap.size + 1 + 1 + 1, i, none⟩ = #[.int .i64 0][i]? := fun i => cell_of_row W4 _ i _ _ _ y2
        have z4 : ∀ i, W4.frozen? ⟨w.heap.size + 1 + 1 + 1, i, none⟩ = false := fun i => by simp [World.frozen?, y2]
        have hown2 : ((W4.setCell ⟨w.heap.size + 1 + 1, 0, none⟩ (.slice A4 32 k4)).setCell ⟨w.heap.size + 1 + 1 + 1, 0, none⟩ (.int .i64 0)).ownsRow w.heap.size 5 1 (.slice A4 32 k4) 32 (octets ((d.dry.drop (q * 32)).take 32)) :=
          own_mono (own_far (own_far hown (fun k hk e => by have := (hown.lt k hk).1; simp at e; omega) _) (fun k hk e => by have := (hown.lt k hk).1; simp at e; omega) _) (by omega)
        have hcl : ((W4.setCell ⟨w.heap.size + 1 + 1, 0, none⟩ (.slice A4 32 k4)).setCell ⟨w.heap.size + 1 + 1 + 1, 0, none⟩ (.int .i64 0)).cell? ⟨w.heap.size + 1 + 1, 0, none⟩ = some (.slice A4 32 k4) := by simp [go_sem, z1, z3]
        have hcl2 : ((W4.setCell ⟨w.heap.size + 1 + 1, 0, none⟩ (.slice A4 32 k4)).setCell ⟨w.heap.size + 1 + 1 + 1, 0, none⟩ (.int .i64 0)).cell? ⟨w.heap.size + 1 + 1 + 1, 0, none⟩ = some (.int .i64 0) := by simp [go_sem, z1, z3]
        have hbl : Below w.heap.size w ((W4.setCell ⟨w.heap.size + 1 + 1, 0, none⟩ (.slice A4 32 k4)).setCell ⟨w.heap.size + 1 + 1 + 1, 0, none⟩ (.int .i64 0)) :=
          ((HWW.out.trans ((HBB.out.mono (by omega)).trans (hbe4.mono (by omega)))).setCell (p := ⟨w.heap.size + 1 + 1, 0, none⟩) (by simp; omega) _).setCell (p := ⟨w.heap.size + 1 + 1 + 1, 0, none⟩) (by simp; omega) _
        have hkd4 : ((W4.setCell ⟨w.heap.size + 1 + 1, 0, none⟩ (.slice A4 32 k4)).setCell ⟨w.heap.size + 1 + 1 + 1, 0, none⟩ (.int .i64 0)).heap[D]? = some (.deferred (some [])) :=
          ((KeepsOthers.setCell W4 _ _).trans (KeepsOthers.setCell _ _ _)).same D _ ((hbe4.block D (Array.getElem?_eq_some_iff.1 HKD.out).1).trans HKD.out) rfl
        have HKD4 := Lib.hid hkd4
        have HO2 := Lib.hid hown2
        have HC1 := Lib.hid hcl
        have HC2 := Lib.hid hcl2
        have HBL := Lib.hid hbl
        clear hown2 hcl hcl2 hbl hown hbe4 y1 y2 hkd4
        gi_wp2_with fail
        have hrd : Dk.read d (q : Int) = ((d.dry.drop (q * 32)).take 32, 0) := by
          have := HLOOK.out
          rw [Int.toNat_natCast] at this
          simp [Dk.read, HRR.out, HH.out, this]
        rw [hrd]
        refine ⟨by simp, .inl ⟨_, _, rfl, run_takeDeferred HKD4.out, ?_⟩⟩
        have hk4 := cell_kept HC1.out (grownBy_putObj' _ D (.deferred none)) (fun r e => by cases e; exact ⟨_, HKD4.out, rfl⟩)
        have hk5 := cell_kept HC2.out (grownBy_putObj' _ D (.deferred none)) (fun r e => by cases e; exact ⟨_, HKD4.out, rfl⟩)
        have hko := own_kept HO2.out (grownBy_putObj' _ D (.deferred none)) (fun r e => by cases e; exact ⟨_, HKD4.out, rfl⟩)
        refine ⟨.tuple #[.slice A4 32 k4, .int .i64 0], ?_, _, rfl, by rw [HSEC.out]; exact hko, below_put HBL.out (by omega) HKD4.out⟩
        simp [results, Try.f13, go_sem, hk4, hk5]
      case stop =>
        rintro D pre x W hD hpre hgo hhit hK
        obtain ⟨h1, h2, ⟨A4, k4, h3, h4⟩, h5⟩ := hhit
        have hlook := look_hit HES.out hpre hgo h1
        have hlen := x.len
        have HLOOK := Lib.hid hlook
        have H3 := Lib.hid h3
        have H2 := Lib.hid h2
        have HKD := Lib.hid hK
        clear hlook h3 h1 h2 hgo hpre hK hlen
        gi_wp2_with fail
        have hrd : Dk.read d at_ = (x.x.b, 0) := by simp [Dk.read, HRR.out, HH.out, HLOOK.out]
        rw [hrd]
        refine ⟨by simp, .inl ⟨_, _, rfl, run_takeDeferred HKD.out, ?_⟩⟩
        have hk4 := cell_kept h4 (grownBy_putObj' W D (.deferred none)) (fun r e => by cases e; exact ⟨_, HKD.out, rfl⟩)
        have hk5 := cell_kept h5 (grownBy_putObj' W D (.deferred none)) (fun r e => by cases e; exact ⟨_, HKD.out, rfl⟩)
        have hko := own_kept H3.out (grownBy_putObj' W D (.deferred none)) (fun r e => by cases e; exact ⟨_, HKD.out, rfl⟩)
        refine ⟨.tuple #[.slice A4 32 k4, .int .i64 0], ?_, _, rfl, by rw [x.len]; exact hko, below_put H2.out (by omega) HKD.out⟩
        simp [results, Try.f13, go_sem, hk4, hk5]
  · have t0 : (rr != 0) = true := by simpa using h0
    refine callsIn_of_wp_marks Try.func13 rfl trivial ?_ rfl
    simp only [Try.ntmps13, List.size_toArray, List.length_cons, List.length_nil, Nat.reduceAdd, Nat.reduceSub, Array.replicate_succ, Array.replicate_zero, List.push_toArray, List.append_toArray, List.nil_append, List.cons_append]
    gi_wp2_with fail
    rw [← hW0]
    clear hW0
    refine ⟨trivial, (callsIn_wide.2 HRD.out).mono ?_⟩
    rintro e w1 ⟨rfl, hbe⟩
    have hr1 := (hbe.block (w.heap.size + 1 + 1) (by omega)).trans HRES.out
    have r1 : ∀ i, w1.cell? ⟨w.heap.size + 1 + 1, i, none⟩ = #[.slice none 0 0][i]? := fun i => cell_of_row w1 _ i _ _ _ hr1
    have r2 : ∀ i, w1.frozen? ⟨w.heap.size + 1 + 1, i, none⟩ = false := fun i => by simp [World.frozen?, hr1]
    have hr3 := (hbe.block (w.heap.size + 1 + 1 + 1) (by omega)).trans HRES2.out
    have r3 : ∀ i, w1.cell? ⟨w.heap.size + 1 + 1 + 1, i, none⟩ = #[.int .i64 0][i]? := fun i => cell_of_row w1 _ i _ _ _ hr3
    have r4 : ∀ i, w1.frozen? ⟨w.heap.size + 1 + 1 + 1, i, none⟩ = false := fun i => by simp [World.frozen?, hr3]
    have hz1 := hbe.size
    have hlt1 : w.heap.size + 1 + 1 + 1 < w1.heap.size := by omega
    have hlt2 : w.heap.size + 1 + 1 < w1.heap.size := by omega
    have hbl : Below w.heap.size w ((w1.setCell ⟨w.heap.size + 1 + 1, 0, none⟩ (.slice none 0 0)).setCell ⟨w.heap.size + 1 + 1 + 1, 0, none⟩ (.int .i64 rr)) := ((HB0.out.trans (hbe.mono (by omega))).setCell (p := ⟨w.heap.size + 1 + 1, 0, none⟩) (by simp; omega) _).setCell (p := ⟨w.heap.size + 1 + 1 + 1, 0, none⟩) (by simp; omega) _
    have HBL := Lib.hid hbl
    clear hr1 hr3 hbe hbl
    gi_wp2_with fail
    have hfl : Dk.read d at_ = ([], rr) := by simp [Dk.read, HRR.out, h0]
    rw [hfl]
    refine ⟨.tuple #[.slice none 0 0, .int .i64 rr], ?_, _, rfl, World.ownsRow_nil _ _ _ _, HBL.out⟩
    simp [results, Try.f13, go_sem, r1, r2, r3, r4, hlt1, hlt2]

theorem read_any (v : Value) (d : Disk) (at_ : Int) (w : World) (h : DiskR w (fun _ => True) v d) : Calls Try.prog 13 #[v, .int .i64 at_] w (GivesRE w (Dk.read d at_)) :=
  callsIn_wide.1 (read_in 3 (Nat.le_refl _) v d at_ w h)

end Go.Proofs.Ytdbioekmhlgolaa
