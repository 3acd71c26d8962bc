/- Contract: clone. -/
import Derived.Test.YtdbioekmhlgolaaA
import Derived.Deep.RegionHeld3
import Derived.Deep.DeepCutAuto
namespace Go.Proofs.Ytdbioekmhlgolaa
open Go.RowKit Dk

/-- What stands behind the first statement: a disk in a block g of its own, its list of writes still nil. -/
def CloneMid (W : World) (B : Nat) (d : Disk) (s3 : Value) (wx : World) : Prop :=
  ∃ g A k, s3 = .pointer (some ⟨g, 0, none⟩) ∧ B ≤ g ∧ wx.heap[g]? = some (.cells #[.slice A d.dry.length k, .slice none 0 0, .int .i64 d.fuse, .bool d.dead] 25 (0, 0)) ∧
    wx.ownsRow B 5 1 (.slice A d.dry.length k) d.dry.length (octets d.dry) ∧ Below B W wx

/-- The first k writes lie as they should in the room R and in the list Wc. -/
def CloneTo (d : Disk) (gr k : Nat) (R : List Value) (Wc : Array Value) : Prop :=
  ∀ j x, j < k → d.wet[j]? = some x → Wc[j * 2]? = some (.int .i64 x.pos) ∧ Wc[j * 2 + 1]? = some (.slice (some ⟨gr, j * 32, none⟩) 32 32) ∧ ∀ i y, x.b[i]? = some y → R[j * 32 + i]? = some (.int .u8 (y.toNat : Int))

def CloneInv (d : Disk) (gr : Nat) (W1 : World) (L : Nat) (i : Value) (wr : World) : Prop :=
  ∃ (k : Nat) (R : List Value) (Wc : Array Value), k ≤ L ∧ i = .int .i64 (k : Int) ∧ Below gr W1 wr ∧ gr + 2 ≤ wr.heap.size ∧ wr.heap[gr]? = some (.cells R.toArray 5 (0, 0)) ∧ R.length = L * 32 ∧
    wr.heap[gr + 1]? = some (.cells Wc 56 (0, 0)) ∧ Wc.size = (L + 1) * 2 ∧ CloneTo d gr k R Wc

theorem CloneTo.step {d : Disk} {gr k : Nat} {R : List Value} {Wc : Array Value} {x : Wr} (h : CloneTo d gr k R Wc) (hx : d.wet[k]? = some x) (hl : ∀ y ∈ d.wet, y.b.length = 32)
    (hR : k * 32 + 32 ≤ R.length) (hW : k * 2 + 1 < Wc.size) :
    CloneTo d gr (k + 1) (splice R (k * 32) (octets x.b)) ((Wc.setIfInBounds (k * 2) (.int .i64 x.pos)).setIfInBounds (k * 2 + 1) (.slice (some ⟨gr, k * 32, none⟩) 32 32)) := by
  have hxl := hl x (List.mem_of_getElem? hx)
  have hol : (octets x.b).length = 32 := by rw [octets_length, hxl]
  intro j y hj hy
  by_cases hjk : j < k
  · obtain ⟨h1, h2, h3⟩ := h j y hjk hy
    refine ⟨?_, ?_, fun i z hz => ?_⟩
    · rw [Array.getElem?_setIfInBounds_ne (by omega), Array.getElem?_setIfInBounds_ne (by omega)]; exact h1
    · rw [Array.getElem?_setIfInBounds_ne (by omega), Array.getElem?_setIfInBounds_ne (by omega)]; exact h2
    · have hi : i < 32 := by rw [← hl y (List.mem_of_getElem? hy)]; exact (List.getElem?_eq_some_iff.1 hz).1
      rw [splice_at _ _ _ (by omega), if_neg (by omega)]
      exact h3 i z hz
  · obtain rfl : j = k := by omega
    rw [hx] at hy
    injection hy with hy
    subst hy
    refine ⟨?_, ?_, fun i z hz => ?_⟩
    · rw [Array.getElem?_setIfInBounds_ne (by omega), Array.getElem?_setIfInBounds_self_of_lt (by omega)]
    · rw [Array.getElem?_setIfInBounds_self_of_lt (by simp; omega)]
    · have hi : i < 32 := by rw [← hxl]; exact (List.getElem?_eq_some_iff.1 hz).1
      rw [splice_at _ _ _ (by omega), if_pos (by omega), show j * 32 + i - j * 32 = i by omega]
      exact octets_at hz

/-- What stands behind the last round is the disk, in blocks of its own. -/
theorem clone_end {d : Disk} {gr base N kd L : Nat} {R : List Value} {Wc : Array Value} {Ad : Option Addr} {wr : World} (hN : d.dry.length = N) (hL : d.wet.length = L) (hl : ∀ y ∈ d.wet, y.b.length = 32)
    (hown : wr.ownsRow base 5 1 (.slice Ad N kd) N (octets d.dry)) (hlt : ∀ b, (Value.slice Ad N kd).ownBlock = some b → b < gr) (hb : base ≤ gr) (hR : wr.heap[gr]? = some (.cells R.toArray 5 (0, 0)))
    (hW : wr.heap[gr + 1]? = some (.cells Wc 56 (0, 0))) (hWl : Wc.size = (L + 1) * 2) (hm : L ≤ 65536) (hto : CloneTo d gr L R Wc) :
    DiskOwn wr base (.agg #[.slice Ad N kd, .slice (some ⟨gr + 1, 0, none⟩) L (L + 1), .int .i64 d.fuse, .bool d.dead]) d := by
  subst hN hL
  refine ⟨_, _, Wc.toList.take (d.wet.length * 2), rfl, hown, ⟨by simp; omega, .inr ⟨gr + 1, d.wet.length + 1, Wc, rfl, by omega, hW, by omega, by unfold maxLen; omega, hWl, rfl⟩⟩, by simp; omega, fun j x hx => ?_⟩
  have hj : j < d.wet.length := (List.getElem?_eq_some_iff.1 hx).1
  obtain ⟨h1, h2, h3⟩ := hto j x hj hx
  refine ⟨?_, .slice (some ⟨gr, j * 32, none⟩) 32 32, ?_, ?_⟩
  · rw [List.getElem?_take_of_lt (by omega)]; simpa using h1
  · rw [List.getElem?_take_of_lt (by omega)]; simpa using h2
  · have hxl := hl x (List.mem_of_getElem? hx)
    refine ⟨some ⟨gr, j * 32, none⟩, 32, by rw [hxl], by omega, by simp [maxLen], (fun h => by cases h), fun _ => ⟨_, rfl, ⟨hb, fun e => ?_, by simp [Value.ownBlock]⟩, fun i u hu => ?_⟩⟩
    · have := hlt gr e.symm
      omega
    · have e : (⟨gr, j * 32, none⟩ : Addr).add i = ⟨gr, j * 32 + i, none⟩ := by unfold Addr.add; split <;> simp_all
      rw [e, cell_of_row wr gr _ _ _ _ hR]
      simp only [octets, List.getElem?_map, Option.map_eq_some_iff] at hu
      obtain ⟨y, hy, rfl⟩ := hu
      simpa using h3 i y hy

def Small (d : Disk) : Prop := d.dry.length ≤ 1048576 ∧ d.wet.length ≤ 65536 ∧ ∀ x ∈ d.wet, x.b.length = 32

set_option maxRecDepth 4000 in
set_option maxHeartbeats 4000000 in
theorem clone_any (v : Value) (d : Disk) (w : World) (h : DiskR w (fun _ => True) v d) (hs : Small d) :
    Calls Try.prog 42 #[v] w fun e w' => ∃ v', e = .returned v' ∧ DiskOwn w' w.heap.size v' d ∧ Below w.heap.size w w' := by
  obtain ⟨hs1, hs2, hs3⟩ := hs
  obtain ⟨vd, vw, rfl, ⟨A, c, rfl, hc1, hc2, hA, hcd⟩, A', c', xs, rfl, hc1', hc2', hA', hx, hcw⟩ := h
  have HB : Hid (Bs w (fun _ => True) (.slice A d.dry.length c) d.dry) := ⟨A, c, rfl, hc1, hc2, hA, hcd⟩
  clear hA hcd
  have HX := Lib.hid hx
  have HCW := Lib.hid hcw
  have HA' := Lib.hid hA'
  clear hx hcw hA'
  go_enter Try.func42, Try.ntmps42
  go_upto_region 1 with fail
  go_cut [3] (fun s3 wx => CloneMid ((w.alloc (Obj.cells #[Value.slice A d.dry.length c, Value.slice A' d.wet.length c', .int .i64 d.fuse, .bool d.dead] 25)).alloc (Obj.cells #[.slice none 0 0, .slice none 0 0, .int .i64 0, .bool false] 25)) (w.heap.size + 2) d s3 wx)
  case first =>
    have KS : ∀ w', Below (w.heap.size + 2) ((w.alloc (Obj.cells #[Value.slice A d.dry.length c, Value.slice A' d.wet.length c', .int .i64 d.fuse, .bool d.dead] 25)).alloc (Obj.cells #[.slice none 0 0, .slice none 0 0, .int .i64 0, .bool false] 25)) w' →
        w'.cell? ⟨w.heap.size, 0, none⟩ = some (.slice A d.dry.length c) ∧ w'.cell? ⟨w.heap.size, 2, none⟩ = some (.int .i64 d.fuse) ∧ w'.cell? ⟨w.heap.size, 3, none⟩ = some (.bool d.dead) := by
      intro w' hb
      refine ⟨(hb.cell (by simp)).trans ?_, (hb.cell (by simp)).trans ?_, (hb.cell (by simp)).trans ?_⟩ <;> simp [go_sem]
    have HKS := Lib.hid KS
    clear KS
    go_region_held3 (fun w' => w'.cell? ⟨w.heap.size, 0, none⟩ = some (.slice A d.dry.length c) ∧ w'.cell? ⟨w.heap.size, 2, none⟩ = some (.int .i64 d.fuse) ∧ w'.cell? ⟨w.heap.size, 3, none⟩ = some (.bool d.dead))
      ((refine HKS.out _ ?_; repeat (first | exact Below.refl _ _ | assumption | refine Below.drew ?_ | (refine Below.alloc ?_ (by first | omega | (simp; done) | (simp; omega)) _) | (refine Below.setCell ?_ (by first | omega | (simp; done) | (simp; omega)) _))))
      (first | (go_at_call 34; refine (bclone_any _ d.dry _ ?_ ?_).mono ?_; (exact HB.out.below (by repeat (first | exact Below.refl _ _ | refine Below.drew ?_ | (refine Below.alloc ?_ (by first | omega | (simp; done) | (simp; omega)) _)))); (exact hs1); (rintro e w1 ⟨v1, rfl, hown, hbe⟩; obtain ⟨A1, k1, rfl⟩ := own_slice hown; have HO := Lib.hid hown; clear hown; have hB1 : Below (w.heap.size + 2) ((w.alloc (Obj.cells #[Value.slice A d.dry.length c, Value.slice A' d.wet.length c', .int .i64 d.fuse, .bool d.dead] 25)).alloc (Obj.cells #[.slice none 0 0, .slice none 0 0, .int .i64 0, .bool false] 25)) w1 := Below.trans (by repeat (first | exact Below.refl _ _ | refine Below.drew ?_ | (refine Below.alloc ?_ (by first | omega | (simp; done) | (simp; omega)) _))) (hbe.mono (by first | omega | (simp; done) | (simp; omega))); have hsz := hB1.size; simp only [World.size_alloc] at hsz; obtain ⟨hcl, hfr⟩ := old_cells hbe; (try simp only [World.size_drew, World.size_alloc] at hcl hfr); have hs2 := hbe.size; (try simp only [World.size_drew, World.size_alloc] at hs2))))
    · have hO := own_mono HO.out (base' := w.heap.size + 2) (by first | omega | (simp; done) | (simp; omega))
      have hfin := (⟨w1.heap.size, A1, k1, rfl, hsz, heap_alloc_new w1 _, hO.alloc _, hB1.alloc hsz _⟩ : CloneMid _ (w.heap.size + 2) d (.pointer (some ⟨w1.heap.size, 0, none⟩)) (w1.alloc (Obj.cells #[Value.slice A1 d.dry.length k1, Value.slice none 0 0, Value.int IntKind.i64 d.fuse, Value.bool d.dead] 25)))
      have HF := Lib.hid hfin
      clear hfin hO
      go_wp2_with fail
      go_meet
      exact HF.out
    · have h0 : w1.heap[w.heap.size + 1 + 1]? = some (.cells #[.slice none 0 0, .slice none 0 0, .int .i64 0, .bool false] 25 (0, 0)) := (hbe.block _ (by first | omega | (simp; done) | (simp; omega))).trans (heap_third w _ _ _)
      have h4 := blk_set (blk_set (blk_set (blk_set h0 0 (Value.slice A1 d.dry.length k1)) 1 (Value.slice none 0 0)) 2 (Value.int IntKind.i64 d.fuse)) 3 (Value.bool d.dead)
      have hne : ∀ b, (Value.slice A1 d.dry.length k1).ownBlock = some b → b ≠ w.heap.size + 1 + 1 := by
        intro b hb
        have := (HO.out.lt b hb).1
        simp at this
        omega
      have hO := own_mono HO.out (base' := w.heap.size + 2) (by first | omega | (simp; done) | (simp; omega))
      have hfin : CloneMid ((w.alloc (Obj.cells #[Value.slice A d.dry.length c, Value.slice A' d.wet.length c', .int .i64 d.fuse, .bool d.dead] 25)).alloc (Obj.cells #[.slice none 0 0, .slice none 0 0, .int .i64 0, .bool false] 25)) (w.heap.size + 2) d (.pointer (some ⟨w.heap.size + 1 + 1, 0, none⟩)) ((((w1.setCell { block := w.heap.size + 1 + 1, off := 0 } (Value.slice A1 d.dry.length k1)).setCell { block := w.heap.size + 1 + 1, off := 1 } (Value.slice none 0 0)).setCell { block := w.heap.size + 1 + 1, off := 2 } (Value.int IntKind.i64 d.fuse)).setCell { block := w.heap.size + 1 + 1, off := 3 } (Value.bool d.dead)) :=
        ⟨w.heap.size + 1 + 1, A1, k1, rfl, by omega, h4, own_far (own_far (own_far (own_far hO hne _) hne _) hne _) hne _, (((hB1.setCell (by simp) _).setCell (by simp) _).setCell (by simp) _).setCell (by simp) _⟩
      have HF := Lib.hid hfin
      clear hfin hO hne h4 h0
      go_wp2_with fail
      go_meet
      exact HF.out
  case rest =>
    obtain ⟨g, Ad, kd, rfl, hg, hblk, hown, hbc⟩ := hcut
    generalize hL : d.wet.length = L at *
    have HL := Lib.hid hL
    clear hL
    generalize hN : d.dry.length = N at *
    have HN := Lib.hid hN
    clear hN
    obtain ⟨i8, hi8, hz8, hs8, hb8⟩ := info_parts info8
    obtain ⟨iw, hiw, hzw, hsw, hbw⟩ := info_parts infoW
    obtain ⟨R0, hR0⟩ : ∃ R0, R0 = madeCells (Value.int .u8 0).cells (L * 32) := ⟨_, rfl⟩
    obtain ⟨W0, hW0⟩ : ∃ W0, W0 = madeCells (Value.agg #[.int .i64 0, .slice none 0 0]).cells ((L + 1) * 2) := ⟨_, rfl⟩
    have hmk1 : ∀ W : World, (Instr.makeSlice 22 (.int .i64 ((L : Int) * 32)) (.int .i64 ((L : Int) * 32))).run Try.prog W = .ok (.slice (some ⟨W.heap.size, 0, none⟩) (L * 32) (L * 32)) (W.alloc (.cells R0 5)) := by
      intro W
      have := run_make (P := Try.prog) W 22 5 i8 _ Try.underlying22 hi8 hz8 .i64 .i64 ((L : Int) * 32) ((L : Int) * 32) (by omega) (by omega) (by rw [hb8]; omega) (by omega)
      rw [this, hs8, hR0, show ((L : Int) * 32).toNat = L * 32 by omega, Nat.mul_one]
    have hmk2 : ∀ W : World, (Instr.makeSlice 23 (.int .i64 (L : Int)) (.int .i64 ((L : Int) + 1))).run Try.prog W = .ok (.slice (some ⟨W.heap.size, 0, none⟩) L (L + 1)) (W.alloc (.cells W0 56)) := by
      intro W
      have := run_make (P := Try.prog) W 23 56 iw _ Try.underlying23 hiw hzw .i64 .i64 (L : Int) ((L : Int) + 1) (by omega) (by omega) (by rw [hbw]; omega) (by omega)
      rw [this, hsw, hW0, show ((L : Int) + 1).toNat = L + 1 by omega, Int.toNat_natCast]
    have HR0 := Lib.hid hR0
    have HW0 := Lib.hid hW0
    clear hR0 hW0 hi8 hz8 hs8 hb8 hiw hzw hsw hbw
    have HBLK := Lib.hid hblk
    have HOWN := Lib.hid hown
    have HBC := Lib.hid hbc
    clear hblk hown
    obtain ⟨hcl, hfr⟩ := old_cells hbc
    clear hbc
    have e0 : wc.cell? ⟨w.heap.size, 1, none⟩ = some (Value.slice A' L c') := (hcl _ _ (by omega)).trans (by simp [go_sem, HL.out])
    have hgl : g < wc.heap.size := by
      rcases Nat.lt_or_ge g wc.heap.size with h | h
      · exact h
      · have := HBLK.out; rw [Array.getElem?_eq_none h] at this; cases this
    have e1 : ∀ i, wc.cell? ⟨g, i, none⟩ = #[.slice Ad N kd, .slice none 0 0, .int .i64 d.fuse, .bool d.dead][i]? := fun i => cell_of_row wc g i _ _ _ HBLK.out
    have e2 : ∀ i, wc.frozen? ⟨g, i, none⟩ = false := fun i => by have := HBLK.out; simp [World.frozen?, this]
    have hwl : w.heap.size < wc.heap.size := by omega
    clear hcl hfr
    go_wp2_with fail
    obtain ⟨W1, hW1⟩ : ∃ W1, W1 = (((wc.setCell { block := g, off := 1 } (Value.slice (some { block := wc.heap.size + 1, off := 0 }) L (L + 1))).alloc (Obj.cells R0 5)).alloc (Obj.cells W0 56)) := ⟨_, rfl⟩
    rw [← hW1]
    have HW1 := Lib.hid hW1
    have hg1 : (((wc.setCell { block := g, off := 1 } (Value.slice (some { block := wc.heap.size + 1, off := 0 }) L (L + 1))).alloc (Obj.cells R0 5)).alloc (Obj.cells W0 56)).heap[g]? =
        some (.cells #[.slice Ad N kd, .slice (some ⟨wc.heap.size + 1, 0, none⟩) L (L + 1), .int .i64 d.fuse, .bool d.dead] 25 (0, 0)) := by
      rw [Below.heap_alloc _ _ _ (by simp [World.setCell]; omega), Below.heap_alloc _ _ _ (by simp [World.setCell]; omega)]
      exact blk_set HBLK.out 1 _
    have HG1 := Lib.hid hg1
    have hres : (((wc.setCell { block := g, off := 1 } (Value.slice (some { block := wc.heap.size + 1, off := 0 }) L (L + 1))).alloc (Obj.cells R0 5)).alloc (Obj.cells W0 56)).heap[w.heap.size + 1]? =
        some (.cells #[.slice none 0 0, .slice none 0 0, .int .i64 0, .bool false] 25 (0, 0)) := by
      rw [Below.heap_alloc _ _ _ (by simp [World.setCell]; omega), Below.heap_alloc _ _ _ (by simp [World.setCell]; omega), blk_far (by simp; omega) _, HBC.out.block _ (by omega)]
      have h := heap_alloc_new (w.alloc (Obj.cells #[Value.slice A N c, Value.slice A' L c', Value.int IntKind.i64 d.fuse, Value.bool d.dead] 25)) (Obj.cells #[.slice none 0 0, .slice none 0 0, .int .i64 0, .bool false] 25)
      rw [World.size_alloc] at h
      exact h
    have HRES := Lib.hid hres
    have hbl0 : Below w.heap.size w (((wc.setCell { block := g, off := 1 } (Value.slice (some { block := wc.heap.size + 1, off := 0 }) L (L + 1))).alloc (Obj.cells R0 5)).alloc (Obj.cells W0 56)) :=
      ((((((below_new _ _).alloc (by simp) _).trans (HBC.out.mono (by omega))).setCell (by simp; omega) _).alloc (by simp [World.setCell]; omega) _).alloc (by simp [World.setCell]; omega) _)
    rw [← hW1] at hbl0
    have HBLW := Lib.hid hbl0
    clear hbl0
    have hO1 : W1.ownsRow (w.heap.size + 2) 5 1 (.slice Ad N kd) N (octets d.dry) := by
      rw [hW1]
      exact ((own_far HOWN.out (own_blk_ne HOWN.out HBLK.out (by decide)) _).alloc _).alloc _
    have HO1 := Lib.hid hO1
    clear hO1 hW1
    clear e0 e1 e2 hg1 hres
    have hdl : ∀ b u, w.cell? b = some u → b.block < wc.heap.size := fun b u h => by have := World.block_lt_of_cell? w b h; omega
    have HDL := Lib.hid hdl
    clear hdl
    generalize hgr : wc.heap.size = gr at *
    have HGR := Lib.hid hgr
    clear hgr
    go_loopw [33] (fun i wr => CloneInv d gr W1 L i wr) (fun i _ => L - (intOf i).toNat)
    case atStart =>
      have hz : (wc.setCell { block := g, off := 1 } (Value.slice (some { block := gr + 1, off := 0 }) L (L + 1))).heap.size = gr := by simpa [World.setCell] using HGR.out
      have h1 := heap_alloc_new (wc.setCell { block := g, off := 1 } (Value.slice (some { block := gr + 1, off := 0 }) L (L + 1))) (Obj.cells R0 5)
      have h2 := heap_alloc_new ((wc.setCell { block := g, off := 1 } (Value.slice (some { block := gr + 1, off := 0 }) L (L + 1))).alloc (Obj.cells R0 5)) (Obj.cells W0 56)
      rw [World.size_alloc, hz] at h2
      rw [hz] at h1
      refine ⟨0, R0.toList, W0, by omega, rfl, Below.refl _ _, ?_, ?_, ?_, ?_, ?_, fun j x hj _ => absurd hj (by omega)⟩
      · rw [HW1.out, World.size_alloc, World.size_alloc, hz]; exact Nat.le_refl _
      · rw [HW1.out, Below.heap_alloc _ _ _ (by rw [World.size_alloc, hz]; omega), h1]
      · rw [HR0.out, Array.length_toList, size_madeCells]
      · rw [HW1.out, h2]
      · rw [HW0.out, size_madeCells]
    case round =>
      obtain ⟨k, R, Wc, hk, rfl, hbe, hsz, hR, hRl, hWc, hWl, hto⟩ := hrel
      have HRR := Lib.hid hR
      have HRL := Lib.hid hRl
      have HWC := Lib.hid hWc
      have HWL := Lib.hid hWl
      have HTO := Lib.hid hto
      clear hR hRl hWc hWl hto
      by_cases hlt : k < L
      · have hkx : ∃ x, d.wet[k]? = some x := ⟨_, List.getElem?_eq_getElem (by rw [HL.out]; exact hlt)⟩
        obtain ⟨x, hkx⟩ := hkx
        obtain ⟨e1, vb, e2, B, cb, rfl, hb1, hb2, hb3, hcb⟩ := HX.out.2 k x hkx
        obtain ⟨ad, hA, _, hcell⟩ := HCW.out (by rw [HX.out.1, HL.out]; omega)
        subst hA
        have hxl : x.b.length = 32 := hs3 x (List.mem_of_getElem? hkx)
        rw [hxl] at hb1 e2
        have HKX := Lib.hid hkx
        have HCB := Lib.hid hcb
        have HXL := Lib.hid hxl
        have HB3 := Lib.hid hb3
        clear hkx hcb hb3 hxl
        have ho : ∀ p u, w.cell? p = some u → wr.cell? p = some u := fun p u h => (((HBLW.out.trans (hbe.mono (by omega))).cell (World.block_lt_of_cell? w p h))).trans h
        have c1 : wr.cell? (ad.add (k * 2)) = some (.int .i64 x.pos) := ho _ _ (hcell _ _ e1)
        have c2 := cell_next (ho _ _ (hcell _ _ e2))
        have HHO := Lib.hid ho
        clear ho e1 e2 hcell
        have h32 : (k + 1) * 32 - k * 32 = 32 := by omega
        have hBn : ∀ b : Addr, b.block < w.heap.size → True := fun _ _ => trivial
        clear hBn
        have hc8 : (Try.prog.info? 5).map (·.size) = some 1 := by kernel_rfl
        have HC8 := Lib.hid hc8
        clear hc8
        go_upto_region 8 with fail
        go_wp2_with (refine wpList_copy_only (o := ⟨some 51, _, _, _, _, _⟩) rfl (.tmp 48) (.tmp 50) 22 22 rfl 5 Try.underlying22 HC8.out (some ⟨gr, k * 32, none⟩) B ((k + 1) * 32 - k * 32) ((k + 1) * 32 - k * 32) 32 cb rfl rfl gr (k * 32) R 5 ?d1 (octets x.b) ?d2 ?d3 ?d4 octets_one ?_)
        case d1 => rw [show (wr.alloc _).heap[gr]? = wr.heap[gr]? from Below.heap_alloc _ _ _ (by omega)]; exact HRR.out
        case d2 => rw [octets_length, HXL.out, h32]; rfl
        case d3 =>
          intro _
          obtain ⟨adb, hadb, _, hcells⟩ := HCB.out (by rw [octets_length, HXL.out]; omega)
          subst hadb
          exact ⟨adb, rfl, fun j u hu => by
            have h1 := HHO.out _ _ (hcells j u hu)
            exact (World.cell?_alloc_lt wr _ _ (World.block_lt_of_cell? wr _ h1)).trans h1⟩
        case d4 => rw [octets_length, HXL.out, HRL.out]; omega
        intro w2 hsp hgr2 hsz2
        have hne : gr ≠ gr + 1 := by omega
        have hW2 : w2.heap[gr + 1]? = some (.cells Wc 56 (0, 0)) := by
          rw [hgr2.block (gr + 1) (by simp; omega) (by simp), show (wr.alloc _).heap[gr + 1]? = wr.heap[gr + 1]? from Below.heap_alloc _ _ _ (by omega)]
          exact HWC.out
        have hcW : ∀ i, w2.cell? ⟨gr + 1, i, none⟩ = Wc[i]? := fun i => cell_of_row w2 (gr + 1) i _ _ _ hW2
        have hfW : ∀ i, w2.frozen? ⟨gr + 1, i, none⟩ = false := fun i => by simp [World.frozen?, hW2]
        have hk1 : k * 2 < Wc.size := by rw [HWL.out]; omega
        have hk2 : k * 2 + 1 < Wc.size := by rw [HWL.out]; omega
        have q1 : w2.cell? ⟨gr + 1, k * 2, none⟩ = some Wc[k * 2] := (hcW _).trans (Array.getElem?_eq_getElem hk1)
        have q2 : w2.cell? ⟨gr + 1, k * 2 + 1, none⟩ = some Wc[k * 2 + 1] := (hcW _).trans (Array.getElem?_eq_getElem hk2)
        have hg1 : wr.heap[g]? = some (.cells #[.slice Ad N kd, .slice (some ⟨gr + 1, 0, none⟩) L (L + 1), .int .i64 d.fuse, .bool d.dead] 25 (0, 0)) := by
          rw [hbe.block g hgl, HW1.out]
          exact HG1.out
        have q3 : w2.cell? ⟨g, 1, none⟩ = some (.slice (some ⟨gr + 1, 0, none⟩) L (L + 1)) := by
          have e : w2.heap[g]? = wr.heap[g]? := by rw [hgr2.block g (by simp; omega) (by simp; omega), show (wr.alloc _).heap[g]? = wr.heap[g]? from Below.heap_alloc _ _ _ (by omega)]
          rw [cell_of_row w2 g 1 _ _ _ (e.trans hg1)]
          rfl
        have hx2 : w2.heap[wr.heap.size]? = some (.cells #[.int .i64 x.pos, .slice B 32 cb] 56 (0, 0)) := by
          rw [hgr2.block wr.heap.size (by simp) (by simp; omega)]
          exact heap_alloc_new wr _
        have q4 : w2.cell? ⟨wr.heap.size, 0, none⟩ = some (.int .i64 x.pos) := by rw [cell_of_row w2 _ 0 _ _ _ hx2]; rfl
        have hf1 := hfW (k * 2)
        have hf2 := hfW (k * 2 + 1)
        have HW2 := Lib.hid hW2
        have HGR2 := Lib.hid hgr2
        have HSZ2 := Lib.hid hsz2
        clear hW2 hcW hfW hg1 hx2 hsz2 c1 c2 hgr2
        go_wp2_with fail
        have hA : Below gr W1 (wr.alloc (Obj.cells #[.int .i64 x.pos, .slice B 32 cb] 56)) := hbe.alloc (by omega) _
        have hB : Below gr W1 w2 := hA.grown HGR2.out (by simp; omega) (by simp)
        have hsA : w2.heap.size = wr.heap.size + 1 := HSZ2.out
        refine ⟨⟨k + 1, splice R (k * 32) (octets x.b), _, by omega, by go_num, (hB.setCell (by simp) _).setCell (by simp) _, by simpa [World.setCell] using (show gr + 2 ≤ w2.heap.size by omega), ?_, ?_, blk_set (blk_set HW2.out _ _) _ _, ?_, HTO.out.step HKX.out hs3 (by rw [HRL.out]; omega) hk2⟩, by simp [intOf]; omega⟩
        · rw [blk_far (by simp) _, blk_far (by simp) _]; exact hsp.out
        · rw [length_splice _ _ _ (by rw [octets_length, HXL.out, HRL.out]; omega)]; exact HRL.out
        · simp [HWL.out]
      · obtain rfl : k = L := by omega
        have hg1 : wr.heap[g]? = some (.cells #[.slice Ad N kd, .slice (some ⟨gr + 1, 0, none⟩) k (k + 1), .int .i64 d.fuse, .bool d.dead] 25 (0, 0)) := by
          rw [hbe.block g hgl, HW1.out]
          exact HG1.out
        have e1 : ∀ i, wr.cell? ⟨g, i, none⟩ = #[.slice Ad N kd, .slice (some ⟨gr + 1, 0, none⟩) k (k + 1), .int .i64 d.fuse, .bool d.dead][i]? := fun i => cell_of_row wr g i _ _ _ hg1
        have hrs : wr.heap[w.heap.size + 1]? = some (.cells #[.slice none 0 0, .slice none 0 0, .int .i64 0, .bool false] 25 (0, 0)) := by
          rw [hbe.block _ (by omega), HW1.out]
          exact HRES.out
        have r1 : ∀ i, wr.cell? ⟨w.heap.size + 1, i, none⟩ = #[.slice none 0 0, .slice none 0 0, .int .i64 0, .bool false][i]? := fun i => cell_of_row wr _ i _ _ _ hrs
        have r2 : ∀ i, wr.frozen? ⟨w.heap.size + 1, i, none⟩ = false := fun i => by simp [World.frozen?, hrs]
        have hwr : w.heap.size + 1 < wr.heap.size := by omega
        clear hg1 hrs
        go_wp2_with fail
        have hOwr : wr.ownsRow (w.heap.size + 2) 5 1 (.slice Ad N kd) N (octets d.dry) :=
          own_below HO1.out hbe fun b hb => by rw [← HGR.out]; exact (HOWN.out.lt b hb).2
        have hfin := clone_end (base := w.heap.size + 2) HN.out HL.out hs3 hOwr (fun b hb => by rw [← HGR.out]; exact (HOWN.out.lt b hb).2) (by omega) HRR.out HWC.out HWL.out (by omega) HTO.out
        have hfin4 := ((((hfin.far (p := ⟨w.heap.size + 1, 0, none⟩) (by simp) (Value.slice Ad N kd)).far (p := ⟨w.heap.size + 1, 1, none⟩) (by simp) (Value.slice (some { block := gr + 1, off := 0 }) k (k + 1))).far (p := ⟨w.heap.size + 1, 2, none⟩) (by simp) (Value.int IntKind.i64 d.fuse)).far (p := ⟨w.heap.size + 1, 3, none⟩) (by simp) (Value.bool d.dead)).mono (base' := w.heap.size) (by omega)
        have hbl : Below w.heap.size w wr := HBLW.out.trans (hbe.mono (by omega))
        refine bodyPost_ret (v := .agg #[.slice Ad N kd, .slice (some ⟨gr + 1, 0, none⟩) k (k + 1), .int .i64 d.fuse, .bool d.dead]) (by simp [results, Try.results42, go_sem, r1, r2, hwr]) rfl ⟨_, rfl, hfin4, (((hbl.setCell (by simp) _).setCell (by simp) _).setCell (by simp) _).setCell (by simp) _⟩

end Go.Proofs.Ytdbioekmhlgolaa
