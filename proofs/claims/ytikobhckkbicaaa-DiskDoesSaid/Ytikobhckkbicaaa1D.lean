/- The law DiskDoes, walked. -/
import Derived.Test.Ytikobhckkbicaaa1K
import Derived.Test.Ytikobhckkbicaaa1R
import Derived.Test.YtikobhckkbicaaaY
import Derived.Test.YtikobhckkbicaaaT
namespace Go.Proofs.Ytikobhckkbicaaa
open Go.RowKit Dk

/-- The octets of a slice of the call's own, each of which may be written, none of them in block G. -/
def Bump (B G : Nat) (wr : World) (A : Option Addr) (n : Nat) : Prop := ∀ j, j < n → ∃ ad y, A = some ad ∧ B ≤ ad.block ∧ ad.block ≠ G ∧ wr.cell? (ad.add j) = some (.int .u8 y) ∧ wr.frozen? (ad.add j) = false

theorem Bump.set {B G : Nat} {wr : World} {A : Option Addr} {n : Nat} (h : Bump B G wr A n) (p : Addr) (y : Int) : Bump B G (wr.setCell p (.int .u8 y)) A n := fun j hj => by
  obtain ⟨ad, z, h1, h2, h0, h3, h4⟩ := h j hj
  by_cases hp : p = ad.add j
  · exact ⟨ad, y, h1, h2, h0, by rw [hp]; exact World.cell?_setCell_same _ _ _ h3, by simpa using h4⟩
  · exact ⟨ad, z, h1, h2, h0, by rw [World.cell?_setCell_other _ _ _ _ hp]; exact h3, by simpa using h4⟩
theorem Bump.below {B G : Nat} {wr w' : World} {A : Option Addr} {n : Nat} (h : Bump B G wr A n) (hb : Below wr.heap.size wr w') : Bump B G w' A n := fun j hj => by
  obtain ⟨ad, z, h1, h2, h0, h3, h4⟩ := h j hj
  have hl := World.block_lt_of_cell? wr _ h3
  exact ⟨ad, z, h1, h2, h0, (hb.cell hl).trans h3, (hb.frozen hl).trans h4⟩
theorem Bump.of_own {B G n c : Nat} {wr : World} {A : Option Addr} {l : List UInt8} (h : wr.ownsRow B 5 1 (.slice A n c) n (octets l)) (hG : wr.heap.size ≤ G) : Bump B G wr A n := fun j hj => by
  rcases h.2 with ⟨_, h0⟩ | ⟨g, cap, cur, he, hg, hh, hc, hm, hs, ht⟩
  · omega
  · injection he with e1
    subst e1
    obtain ⟨ad, e, _, hcell⟩ := own_cells (S := fun _ => True) h (fun _ _ => trivial) (by have := h.1; omega)
    injection e with e
    subst e
    have hl : j < l.length := by have := h.1; rw [octets_length] at this; omega
    have hgl := (Array.getElem?_eq_some_iff.1 hh).1
    refine ⟨_, _, rfl, hg, by simp; omega, hcell j _ (octets_at (List.getElem?_eq_getElem hl)), ?_⟩
    have e : (⟨g, 0, none⟩ : Addr).add j = ⟨g, j, none⟩ := by unfold Addr.add; split <;> simp_all
    rw [e]
    simp [World.frozen?, hh]
theorem Bump.mono {B B' G : Nat} {wr : World} {A : Option Addr} {n : Nat} (h : Bump B G wr A n) (hb : B' ≤ B) : Bump B' G wr A n := fun j hj => by
  obtain ⟨ad, z, h1, h2, h0, h3, h4⟩ := h j hj
  exact ⟨ad, z, h1, by omega, h0, h3, h4⟩

theorem same_one (d : Disk) : same d d = true := by
  have h : sameWs d.wet d.wet = true := sameWs_yes d.wet d.wet rfl fun j x y hx hy => by
    rw [hx] at hy
    injection hy with hy
    subst hy
    simp [sameWr]
  simp [same, h]

theorem few_modest {d : Disk} (h : few d = true) : Modest d := by
  simp only [few, Bool.and_eq_true, decide_eq_true_eq, List.all_eq_true] at h
  refine ⟨by omega, by omega, fun x hx => ?_⟩
  have := h.2 x hx
  (try simp at this)
  omega

set_option maxRecDepth 10000 in
set_option maxHeartbeats 8000000 in
theorem diskDoes_any (v vb vk : Value) (d : Disk) (at_ fuse : Int) (b keep : List UInt8) (w : World) (h : DiskR w (fun _ => True) v d) (hb : Bs w (fun _ => True) vb b) (hk : Bs w (fun _ => True) vk keep) :
    Calls Try.prog 3 #[v, .int .i64 at_, vb, .int .i64 fuse, vk] w (True_ w) := by
  have HD := Lib.hid h
  have HBS := Lib.hid hb
  have HKS := Lib.hid hk
  obtain ⟨vd, vw, rfl, ⟨A, c, rfl, hdc, hdm, _⟩, A', c', xs, rfl, hwc, hwm, _⟩ := h
  obtain ⟨A0, c0, rfl, hbc, hbm, _⟩ := hb
  obtain ⟨Ak, ck, rfl, hkc, hkm, _⟩ := hk
  unfold maxLen at hdm hwm hbm hkm
  obtain ⟨W0, hW0⟩ : ∃ W0, W0 = w.alloc (Obj.cells #[Value.slice A d.dry.length c, Value.slice A' d.wet.length c', .int .i64 d.fuse, .bool d.dead] 25) := ⟨_, rfl⟩
  have hb0 : Below w.heap.size w W0 := by rw [hW0]; exact below_new _ _
  have hz0 : W0.heap.size = w.heap.size + 1 := by rw [hW0]; simp
  have hbox : W0.heap[w.heap.size]? = some (.cells #[Value.slice A d.dry.length c, Value.slice A' d.wet.length c', .int .i64 d.fuse, .bool d.dead] 25 (0, 0)) := by rw [hW0]; exact heap_first _ _
  have HLIVE := Lib.hid (live_any W0)
  have HRR := Lib.hid (fun W (hb : Below W0.heap.size W0 W) => (HD.out.below hb0).below hb)
  have HFEW := Lib.hid (fun W (hb : Below W0.heap.size W0 W) => few_any _ d W (HRR.out W hb))
  have HBOX := Lib.hid (fun W (hb : Below W0.heap.size W0 W) => fun i => cell_of_row W w.heap.size i _ _ _ (below_past hbox hb))
  have HLT := Lib.hid (fun W (hb : Below W0.heap.size W0 W) => (show w.heap.size < W.heap.size by have := hb.size; omega))
  have HB0 := Lib.hid hb0
  have HZ0 := Lib.hid hz0
  cases hf : few d
  · rw [hf] at HFEW
    clear hf hb0 hz0 hbox
    go_enter Try.func3, Try.ntmps3
    go_wp2_with fail
    rw [← hW0]
    clear hW0
    refine HLIVE.out.mono ?_
    rintro e w1 ⟨rfl, hb1⟩
    have b1 := HBOX.out w1 hb1
    have HB1 := Lib.hid hb1
    clear hb1
    go_wp2_with fail
    refine (HFEW.out w1 HB1.out).mono ?_
    rintro e w2 ⟨rfl, hb2⟩
    have HB2 := Lib.hid (HB1.out.trans (hb2.mono HB1.out.size))
    clear hb2 b1
    go_wp2_with fail
    go_ret
    exact ⟨rfl, HB0.out.trans (HB2.out.mono (by have := HZ0.out; omega))⟩
  · rw [hf] at HFEW
    have hmod := few_modest hf
    clear hf
    by_cases hbl : (b.length : Int) ≤ 100
    · have t1 : decide (100 < (b.length : Int)) = false := by simp; omega
      by_cases hkl : (keep.length : Int) ≤ 1000
      · have t2 : decide (1000 < (keep.length : Int)) = false := by simp; omega
        have HCP := Lib.hid (fun W (hb : Below W0.heap.size W0 W) => refCopy_any _ d W (HRR.out W hb) hmod)
        have HC4 := Lib.hid (fun W (hb : Below W0.heap.size W0 W) => read_any _ d at_ W (HRR.out W hb))
        have HC5 := Lib.hid (fun W (hb : Below W0.heap.size W0 W) => refRead_any _ d at_ W (HRR.out W hb))
        have HC6 := Lib.hid (fun W (hb : Below W0.heap.size W0 W) => write_any _ _ d at_ b W (HRR.out W hb) ((HBS.out.below hb0).below hb))
        have HC7 := Lib.hid (fun W (hb : Below W0.heap.size W0 W) => refWrite_any _ _ d at_ b W (HRR.out W hb) ((HBS.out.below hb0).below hb))
        have HC8 := Lib.hid (fun W (hb : Below W0.heap.size W0 W) => flush_any _ d W (HRR.out W hb))
        have HC9 := Lib.hid (fun W (hb : Below W0.heap.size W0 W) => refFlush_any _ d W (HRR.out W hb))
        have HC10 := Lib.hid (fun W (hb : Below W0.heap.size W0 W) => lit_any _ d fuse W (HRR.out W hb))
        have HC11 := Lib.hid (fun W (hb : Below W0.heap.size W0 W) => refLit_any _ d fuse W (HRR.out W hb))
        have HC12 := Lib.hid (fun W (hb : Below W0.heap.size W0 W) => crash_any _ _ d keep W (HRR.out W hb) ((HKS.out.below hb0).below hb))
        have HC13 := Lib.hid (fun W (hb : Below W0.heap.size W0 W) => refCrash_any _ _ d keep W (HRR.out W hb) ((HKS.out.below hb0).below hb))
        generalize Dk.read d at_ = r1 at *
        generalize write d at_ b = r2 at *
        generalize flush d = r3 at *
        generalize lit d fuse = r4 at *
        generalize crash d keep = r5 at *
        obtain ⟨R, e1⟩ := r1
        obtain ⟨X, e2⟩ := r2
        obtain ⟨Y, e3⟩ := r3
        obtain ⟨L, e4⟩ := r4
        obtain ⟨C, e5⟩ := r5
        clear hb0 hz0 hbox hmod
        go_enter Try.func3, Try.ntmps3
        go_wp2_with fail
        rw [← hW0]
        clear hW0
        refine HLIVE.out.mono ?_
        rintro e w1 ⟨rfl, hb1⟩
        have b1 := HBOX.out w1 hb1
        have HB1 := Lib.hid hb1
        clear hb1
        go_wp2_with fail
        refine (HFEW.out w1 HB1.out).mono ?_
        rintro e w2 ⟨rfl, hb2⟩
        have HB2 := Lib.hid (HB1.out.trans (hb2.mono HB1.out.size))
        have hl2 := HLT.out w2 HB2.out
        have b2 := HBOX.out w2 HB2.out
        clear hb2 b1
        go_wp2_with fail
        refine (HCP.out w2 HB2.out).mono ?_
        rintro e w3 ⟨v3, rfl, ho3, hb3⟩
        obtain ⟨vd3, vw3, ys3, rfl, hp3, hq3, hr3⟩ := ho3
        obtain ⟨A3, c3, rfl⟩ := own_slice hp3
        obtain ⟨A3', c3', rfl⟩ := own_slice hq3
        obtain ⟨V3, hV3⟩ : ∃ V3, V3 = w3.alloc (.cells #[.slice A3 d.dry.length c3, .slice A3' d.wet.length c3', .int .i64 d.fuse, .bool d.dead] 25) := ⟨_, rfl⟩
        have HV3 := Lib.hid (show DV V3 (fun _ => True) w3.heap.size d by rw [hV3]; exact (DV.new ⟨_, _, ys3, rfl, hp3, hq3, hr3⟩).more fun _ _ _ => trivial)
        have hbw := HB2.out.trans (hb3.mono HB2.out.size)
        have HBV3 := Lib.hid (show Below W0.heap.size W0 V3 by rw [hV3]; exact hbw.alloc hbw.size _)
        have b3 := HBOX.out w3 hbw
        have hl3 := HLT.out w3 hbw
        clear hbw hp3 hq3 hr3 hb3 b2 hl2
        go_wp2_with fail
        rw [← hV3]
        clear hV3
        clear b3 hl3
        refine (HC4.out V3 HBV3.out).mono ?_
        rintro e w4 ⟨v4, he4, ho4, hb4⟩
        dsimp only at he4 ho4
        subst he4
        obtain ⟨A4, c4, rfl⟩ := own_slice ho4
        have HO4 := Lib.hid ho4
        have HBV4 := Lib.hid (HBV3.out.trans (hb4.mono HBV3.out.size))
        have HST4 := Lib.hid hb4
        have b4 := HBOX.out w4 HBV4.out
        have hl4 := HLT.out w4 HBV4.out
        clear ho4 hb4
        go_wp2_with fail
        clear b4 hl4
        refine (HC5.out w4 HBV4.out).mono ?_
        rintro e w5 ⟨v5, he5, ho5, hb5⟩
        dsimp only at he5 ho5
        subst he5
        obtain ⟨A5, c5, rfl⟩ := own_slice ho5
        have HO5 := Lib.hid ho5
        have HBV5 := Lib.hid (HBV4.out.trans (hb5.mono HBV4.out.size))
        have HST5 := Lib.hid hb5
        have b5 := HBOX.out w5 HBV5.out
        have hl5 := HLT.out w5 HBV5.out
        clear ho5 hb5
        go_wp2_with fail
        clear b5 hl5
        refine (HC6.out w5 HBV5.out).mono ?_
        intro e w6 hg
        obtain ⟨A6, c6, A6', c6', rfl, ho6, hb6⟩ := gives_disk hg
        dsimp only at ho6 ⊢
        obtain ⟨V6, hV6⟩ : ∃ V6, V6 = w6.alloc (.cells #[.slice A6 X.dry.length c6, .slice A6' X.wet.length c6', .int .i64 X.fuse, .bool X.dead] 25) := ⟨_, rfl⟩
        have HV6 := Lib.hid (show V6.heap[w6.heap.size]? = some (.cells #[.slice A6 X.dry.length c6, .slice A6' X.wet.length c6', .int .i64 X.fuse, .bool X.dead] 25 (0, 0)) by rw [hV6]; exact heap_first _ _)
        have HR6 := Lib.hid (show DiskR V6 (fun _ => True) (.agg #[.slice A6 X.dry.length c6, .slice A6' X.wet.length c6', .int .i64 X.fuse, .bool X.dead]) X by rw [hV6]; exact (ho6.reads fun _ => trivial).below (below_new w6 _))
        have HST6 := Lib.hid (show Below w5.heap.size w5 V6 by rw [hV6]; exact hb6.alloc hb6.size _)
        have hbw := HBV5.out.trans (hb6.mono HBV5.out.size)
        have HBV6 := Lib.hid (HBV5.out.trans (HST6.out.mono HBV5.out.size))
        have b6 := HBOX.out w6 hbw
        have hl6 := HLT.out w6 hbw
        have HU6 := Lib.hid (show Bump w5.heap.size w6.heap.size V6 A6 X.dry.length by rw [hV6]; exact (Bump.of_own (split_own ho6).choose_spec.1 (Nat.le_refl _)).below (below_new w6 _))
        clear hg ho6 hb6 hbw
        go_wp2_with fail
        rw [← hV6]
        clear hV6 b6 hl6
        refine (HC7.out V6 HBV6.out).mono ?_
        intro e w7 hg
        obtain ⟨A7, c7, A7', c7', rfl, ho7, hb7⟩ := gives_disk hg
        dsimp only at ho7 ⊢
        obtain ⟨V7, hV7⟩ : ∃ V7, V7 = w7.alloc (.cells #[.slice A7 X.dry.length c7, .slice A7' X.wet.length c7', .int .i64 X.fuse, .bool X.dead] 25) := ⟨_, rfl⟩
        have HV7 := Lib.hid (show V7.heap[w7.heap.size]? = some (.cells #[.slice A7 X.dry.length c7, .slice A7' X.wet.length c7', .int .i64 X.fuse, .bool X.dead] 25 (0, 0)) by rw [hV7]; exact heap_first _ _)
        have HR7 := Lib.hid (show DiskR V7 (fun _ => True) (.agg #[.slice A7 X.dry.length c7, .slice A7' X.wet.length c7', .int .i64 X.fuse, .bool X.dead]) X by rw [hV7]; exact (ho7.reads fun _ => trivial).below (below_new w7 _))
        have HST7 := Lib.hid (show Below V6.heap.size V6 V7 by rw [hV7]; exact hb7.alloc hb7.size _)
        have hbw := HBV6.out.trans (hb7.mono HBV6.out.size)
        have HBV7 := Lib.hid (HBV6.out.trans (HST7.out.mono HBV6.out.size))
        have b7 := HBOX.out w7 hbw
        have hl7 := HLT.out w7 hbw
        clear hg ho7 hb7 hbw
        go_wp2_with fail
        rw [← hV7]
        clear hV7 b7 hl7
        refine (HC8.out V7 HBV7.out).mono ?_
        intro e w8 hg
        obtain ⟨A8, c8, A8', c8', rfl, ho8, hb8⟩ := gives_disk hg
        dsimp only at ho8 ⊢
        obtain ⟨V8, hV8⟩ : ∃ V8, V8 = w8.alloc (.cells #[.slice A8 Y.dry.length c8, .slice A8' Y.wet.length c8', .int .i64 Y.fuse, .bool Y.dead] 25) := ⟨_, rfl⟩
        have HV8 := Lib.hid (show V8.heap[w8.heap.size]? = some (.cells #[.slice A8 Y.dry.length c8, .slice A8' Y.wet.length c8', .int .i64 Y.fuse, .bool Y.dead] 25 (0, 0)) by rw [hV8]; exact heap_first _ _)
        have HR8 := Lib.hid (show DiskR V8 (fun _ => True) (.agg #[.slice A8 Y.dry.length c8, .slice A8' Y.wet.length c8', .int .i64 Y.fuse, .bool Y.dead]) Y by rw [hV8]; exact (ho8.reads fun _ => trivial).below (below_new w8 _))
        have HST8 := Lib.hid (show Below V7.heap.size V7 V8 by rw [hV8]; exact hb8.alloc hb8.size _)
        have hbw := HBV7.out.trans (hb8.mono HBV7.out.size)
        have HBV8 := Lib.hid (HBV7.out.trans (HST8.out.mono HBV7.out.size))
        have b8 := HBOX.out w8 hbw
        have hl8 := HLT.out w8 hbw
        clear hg ho8 hb8 hbw
        go_wp2_with fail
        rw [← hV8]
        clear hV8 b8 hl8
        refine (HC9.out V8 HBV8.out).mono ?_
        intro e w9 hg
        obtain ⟨A9, c9, A9', c9', rfl, ho9, hb9⟩ := gives_disk hg
        dsimp only at ho9 ⊢
        obtain ⟨V9, hV9⟩ : ∃ V9, V9 = w9.alloc (.cells #[.slice A9 Y.dry.length c9, .slice A9' Y.wet.length c9', .int .i64 Y.fuse, .bool Y.dead] 25) := ⟨_, rfl⟩
        have HV9 := Lib.hid (show V9.heap[w9.heap.size]? = some (.cells #[.slice A9 Y.dry.length c9, .slice A9' Y.wet.length c9', .int .i64 Y.fuse, .bool Y.dead] 25 (0, 0)) by rw [hV9]; exact heap_first _ _)
        have HR9 := Lib.hid (show DiskR V9 (fun _ => True) (.agg #[.slice A9 Y.dry.length c9, .slice A9' Y.wet.length c9', .int .i64 Y.fuse, .bool Y.dead]) Y by rw [hV9]; exact (ho9.reads fun _ => trivial).below (below_new w9 _))
        have HST9 := Lib.hid (show Below V8.heap.size V8 V9 by rw [hV9]; exact hb9.alloc hb9.size _)
        have hbw := HBV8.out.trans (hb9.mono HBV8.out.size)
        have HBV9 := Lib.hid (HBV8.out.trans (HST9.out.mono HBV8.out.size))
        have b9 := HBOX.out w9 hbw
        have hl9 := HLT.out w9 hbw
        clear hg ho9 hb9 hbw
        go_wp2_with fail
        rw [← hV9]
        clear hV9 b9 hl9
        refine (HC10.out V9 HBV9.out).mono ?_
        intro e w10 hg
        obtain ⟨A10, c10, A10', c10', rfl, ho10, hb10⟩ := gives_disk hg
        dsimp only at ho10 ⊢
        obtain ⟨V10, hV10⟩ : ∃ V10, V10 = w10.alloc (.cells #[.slice A10 L.dry.length c10, .slice A10' L.wet.length c10', .int .i64 L.fuse, .bool L.dead] 25) := ⟨_, rfl⟩
        have HV10 := Lib.hid (show V10.heap[w10.heap.size]? = some (.cells #[.slice A10 L.dry.length c10, .slice A10' L.wet.length c10', .int .i64 L.fuse, .bool L.dead] 25 (0, 0)) by rw [hV10]; exact heap_first _ _)
        have HR10 := Lib.hid (show DiskR V10 (fun _ => True) (.agg #[.slice A10 L.dry.length c10, .slice A10' L.wet.length c10', .int .i64 L.fuse, .bool L.dead]) L by rw [hV10]; exact (ho10.reads fun _ => trivial).below (below_new w10 _))
        have HST10 := Lib.hid (show Below V9.heap.size V9 V10 by rw [hV10]; exact hb10.alloc hb10.size _)
        have hbw := HBV9.out.trans (hb10.mono HBV9.out.size)
        have HBV10 := Lib.hid (HBV9.out.trans (HST10.out.mono HBV9.out.size))
        have b10 := HBOX.out w10 hbw
        have hl10 := HLT.out w10 hbw
        clear hg ho10 hb10 hbw
        go_wp2_with fail
        rw [← hV10]
        clear hV10 b10 hl10
        refine (HC11.out V10 HBV10.out).mono ?_
        intro e w11 hg
        obtain ⟨A11, c11, A11', c11', rfl, ho11, hb11⟩ := gives_disk hg
        dsimp only at ho11 ⊢
        obtain ⟨V11, hV11⟩ : ∃ V11, V11 = w11.alloc (.cells #[.slice A11 L.dry.length c11, .slice A11' L.wet.length c11', .int .i64 L.fuse, .bool L.dead] 25) := ⟨_, rfl⟩
        have HV11 := Lib.hid (show V11.heap[w11.heap.size]? = some (.cells #[.slice A11 L.dry.length c11, .slice A11' L.wet.length c11', .int .i64 L.fuse, .bool L.dead] 25 (0, 0)) by rw [hV11]; exact heap_first _ _)
        have HR11 := Lib.hid (show DiskR V11 (fun _ => True) (.agg #[.slice A11 L.dry.length c11, .slice A11' L.wet.length c11', .int .i64 L.fuse, .bool L.dead]) L by rw [hV11]; exact (ho11.reads fun _ => trivial).below (below_new w11 _))
        have HST11 := Lib.hid (show Below V10.heap.size V10 V11 by rw [hV11]; exact hb11.alloc hb11.size _)
        have hbw := HBV10.out.trans (hb11.mono HBV10.out.size)
        have HBV11 := Lib.hid (HBV10.out.trans (HST11.out.mono HBV10.out.size))
        have b11 := HBOX.out w11 hbw
        have hl11 := HLT.out w11 hbw
        clear hg ho11 hb11 hbw
        go_wp2_with fail
        rw [← hV11]
        clear hV11 b11 hl11
        refine (HC12.out V11 HBV11.out).mono ?_
        intro e w12 hg
        obtain ⟨A12, c12, A12', c12', rfl, ho12, hb12⟩ := gives_disk hg
        dsimp only at ho12 ⊢
        obtain ⟨V12, hV12⟩ : ∃ V12, V12 = w12.alloc (.cells #[.slice A12 C.dry.length c12, .slice A12' C.wet.length c12', .int .i64 C.fuse, .bool C.dead] 25) := ⟨_, rfl⟩
        have HV12 := Lib.hid (show V12.heap[w12.heap.size]? = some (.cells #[.slice A12 C.dry.length c12, .slice A12' C.wet.length c12', .int .i64 C.fuse, .bool C.dead] 25 (0, 0)) by rw [hV12]; exact heap_first _ _)
        have HR12 := Lib.hid (show DiskR V12 (fun _ => True) (.agg #[.slice A12 C.dry.length c12, .slice A12' C.wet.length c12', .int .i64 C.fuse, .bool C.dead]) C by rw [hV12]; exact (ho12.reads fun _ => trivial).below (below_new w12 _))
        have HST12 := Lib.hid (show Below V11.heap.size V11 V12 by rw [hV12]; exact hb12.alloc hb12.size _)
        have hbw := HBV11.out.trans (hb12.mono HBV11.out.size)
        have HBV12 := Lib.hid (HBV11.out.trans (HST12.out.mono HBV11.out.size))
        have b12 := HBOX.out w12 hbw
        have hl12 := HLT.out w12 hbw
        clear hg ho12 hb12 hbw
        go_wp2_with fail
        rw [← hV12]
        clear hV12 b12 hl12
        refine (HC13.out V12 HBV12.out).mono ?_
        intro e w13 hg
        obtain ⟨A13, c13, A13', c13', rfl, ho13, hb13⟩ := gives_disk hg
        dsimp only at ho13 ⊢
        obtain ⟨V13, hV13⟩ : ∃ V13, V13 = w13.alloc (.cells #[.slice A13 C.dry.length c13, .slice A13' C.wet.length c13', .int .i64 C.fuse, .bool C.dead] 25) := ⟨_, rfl⟩
        have HV13 := Lib.hid (show V13.heap[w13.heap.size]? = some (.cells #[.slice A13 C.dry.length c13, .slice A13' C.wet.length c13', .int .i64 C.fuse, .bool C.dead] 25 (0, 0)) by rw [hV13]; exact heap_first _ _)
        have HR13 := Lib.hid (show DiskR V13 (fun _ => True) (.agg #[.slice A13 C.dry.length c13, .slice A13' C.wet.length c13', .int .i64 C.fuse, .bool C.dead]) C by rw [hV13]; exact (ho13.reads fun _ => trivial).below (below_new w13 _))
        have HST13 := Lib.hid (show Below V12.heap.size V12 V13 by rw [hV13]; exact hb13.alloc hb13.size _)
        have hbw := HBV12.out.trans (hb13.mono HBV12.out.size)
        have HBV13 := Lib.hid (HBV12.out.trans (HST13.out.mono HBV12.out.size))
        have b13 := HBOX.out w13 hbw
        have hl13 := HLT.out w13 hbw
        have HW13 := Lib.hid hV13
        clear hg ho13 hb13 hbw hV13 b13 hl13
        have HE13 := Lib.hid (Below.refl V13.heap.size V13)
        have HE12 := Lib.hid (HST13.out.trans (HE13.out.mono HST13.out.size))
        have HE11 := Lib.hid (HST12.out.trans (HE12.out.mono HST12.out.size))
        have HE10 := Lib.hid (HST11.out.trans (HE11.out.mono HST11.out.size))
        have HE9 := Lib.hid (HST10.out.trans (HE10.out.mono HST10.out.size))
        have HE8 := Lib.hid (HST9.out.trans (HE9.out.mono HST9.out.size))
        have HE7 := Lib.hid (HST8.out.trans (HE8.out.mono HST8.out.size))
        have HE6 := Lib.hid (HST7.out.trans (HE7.out.mono HST7.out.size))
        have HE5 := Lib.hid (HST6.out.trans (HE6.out.mono HST6.out.size))
        have HE4 := Lib.hid (HST5.out.trans (HE5.out.mono HST5.out.size))
        have HE3 := Lib.hid (HST4.out.trans (HE4.out.mono HST4.out.size))
        go_wp2_with fail
        rw [← HW13.out]
        refine (sameBytes_any _ _ R R _ ((Bs.of_own HO4.out fun _ _ => trivial).below HE4.out) ((Bs.of_own HO5.out fun _ _ => trivial).below HE5.out)).mono ?_
        rw [decide_eq_true rfl]
        rintro e wz ⟨rfl, rfl⟩
        have HG0 := Lib.hid (Below.refl V13.heap.size V13)
        have f1 : ∀ i, V13.cell? ⟨w6.heap.size, i, none⟩ = _ := fun i => cell_of_row V13 _ i _ _ _ (below_past HV6.out (HE6.out.trans (HG0.out.mono HE6.out.size)))
        have f2 : ∀ i, V13.cell? ⟨w7.heap.size, i, none⟩ = _ := fun i => cell_of_row V13 _ i _ _ _ (below_past HV7.out (HE7.out.trans (HG0.out.mono HE7.out.size)))
        have f3 : w6.heap.size < V13.heap.size := (Array.getElem?_eq_some_iff.1 (below_past HV6.out (HE6.out.trans (HG0.out.mono HE6.out.size)))).1
        have f4 : w7.heap.size < V13.heap.size := (Array.getElem?_eq_some_iff.1 (below_past HV7.out (HE7.out.trans (HG0.out.mono HE7.out.size)))).1
        go_wp2_with fail
        clear f1 f2 f3 f4
        refine (refSame_any _ _ X X _ (HR6.out.below (HE6.out.trans (HG0.out.mono HE6.out.size))) (HR7.out.below (HE7.out.trans (HG0.out.mono HE7.out.size)))).mono ?_
        rw [same_one]
        rintro e u1 ⟨rfl, hu⟩
        have HG1 := Lib.hid (HG0.out.trans (hu.mono HG0.out.size))
        clear hu
        have f1 : ∀ i, u1.cell? ⟨w8.heap.size, i, none⟩ = _ := fun i => cell_of_row u1 _ i _ _ _ (below_past HV8.out (HE8.out.trans (HG1.out.mono HE8.out.size)))
        have f2 : ∀ i, u1.cell? ⟨w9.heap.size, i, none⟩ = _ := fun i => cell_of_row u1 _ i _ _ _ (below_past HV9.out (HE9.out.trans (HG1.out.mono HE9.out.size)))
        have f3 : w8.heap.size < u1.heap.size := (Array.getElem?_eq_some_iff.1 (below_past HV8.out (HE8.out.trans (HG1.out.mono HE8.out.size)))).1
        have f4 : w9.heap.size < u1.heap.size := (Array.getElem?_eq_some_iff.1 (below_past HV9.out (HE9.out.trans (HG1.out.mono HE9.out.size)))).1
        go_wp2_with fail
        clear f1 f2 f3 f4
        refine (refSame_any _ _ Y Y _ (HR8.out.below (HE8.out.trans (HG1.out.mono HE8.out.size))) (HR9.out.below (HE9.out.trans (HG1.out.mono HE9.out.size)))).mono ?_
        rw [same_one]
        rintro e u2 ⟨rfl, hu⟩
        have HG2 := Lib.hid (HG1.out.trans (hu.mono HG1.out.size))
        clear hu
        have f1 : ∀ i, u2.cell? ⟨w10.heap.size, i, none⟩ = _ := fun i => cell_of_row u2 _ i _ _ _ (below_past HV10.out (HE10.out.trans (HG2.out.mono HE10.out.size)))
        have f2 : ∀ i, u2.cell? ⟨w11.heap.size, i, none⟩ = _ := fun i => cell_of_row u2 _ i _ _ _ (below_past HV11.out (HE11.out.trans (HG2.out.mono HE11.out.size)))
        have f3 : w10.heap.size < u2.heap.size := (Array.getElem?_eq_some_iff.1 (below_past HV10.out (HE10.out.trans (HG2.out.mono HE10.out.size)))).1
        have f4 : w11.heap.size < u2.heap.size := (Array.getElem?_eq_some_iff.1 (below_past HV11.out (HE11.out.trans (HG2.out.mono HE11.out.size)))).1
        go_wp2_with fail
        clear f1 f2 f3 f4
        refine (refSame_any _ _ L L _ (HR10.out.below (HE10.out.trans (HG2.out.mono HE10.out.size))) (HR11.out.below (HE11.out.trans (HG2.out.mono HE11.out.size)))).mono ?_
        rw [same_one]
        rintro e u3 ⟨rfl, hu⟩
        have HG3 := Lib.hid (HG2.out.trans (hu.mono HG2.out.size))
        clear hu
        have f1 : ∀ i, u3.cell? ⟨w12.heap.size, i, none⟩ = _ := fun i => cell_of_row u3 _ i _ _ _ (below_past HV12.out (HE12.out.trans (HG3.out.mono HE12.out.size)))
        have f2 : ∀ i, u3.cell? ⟨w13.heap.size, i, none⟩ = _ := fun i => cell_of_row u3 _ i _ _ _ (below_past HV13.out (HE13.out.trans (HG3.out.mono HE13.out.size)))
        have f3 : w12.heap.size < u3.heap.size := (Array.getElem?_eq_some_iff.1 (below_past HV12.out (HE12.out.trans (HG3.out.mono HE12.out.size)))).1
        have f4 : w13.heap.size < u3.heap.size := (Array.getElem?_eq_some_iff.1 (below_past HV13.out (HE13.out.trans (HG3.out.mono HE13.out.size)))).1
        go_wp2_with fail
        clear f1 f2 f3 f4
        refine (refSame_any _ _ C C _ (HR12.out.below (HE12.out.trans (HG3.out.mono HE12.out.size))) (HR13.out.below (HE13.out.trans (HG3.out.mono HE13.out.size)))).mono ?_
        rw [same_one]
        rintro e u4 ⟨rfl, hu⟩
        have HG4 := Lib.hid (HG3.out.trans (hu.mono HG3.out.size))
        clear hu
        have HU6 := Lib.hid ((HU6.out.below (HE6.out.trans (HG4.out.mono HE6.out.size))).mono (B' := V3.heap.size) (by have := HST4.out.size; have := HST5.out.size; omega))
        have HU4 := Lib.hid (((Bump.of_own HO4.out (G := V13.heap.size) HE4.out.size).below (HE4.out.trans (HG4.out.mono HE4.out.size))).mono (B' := V3.heap.size) (Nat.le_refl _))
        have HB3 := Lib.hid (HE3.out.trans (HG4.out.mono HE3.out.size))
        have f1 : u4.cell? ⟨w6.heap.size, 0, none⟩ = some (.slice A6 X.dry.length c6) := (cell_of_row u4 _ 0 _ _ _ (below_past HV6.out (HE6.out.trans (HG4.out.mono HE6.out.size)))).trans rfl
        have F1 := Lib.hid f1
        obtain ⟨_, _, _, ⟨_, cx, _, x1, x2, _⟩, _⟩ := HR6.out
        obtain ⟨_, cr, _, x3, x4, _⟩ := Bs.of_own (S := fun _ => True) HO4.out (fun _ _ => trivial)
        unfold maxLen at x2 x4
        have hxl : X.dry.length ≤ 9223372036854775807 := by omega
        have hrl : R.length ≤ 9223372036854775807 := by omega
        clear x1 x2 x3 x4 HR6 HR7 HR8 HR9 HR10 HR11 HR12 HR13 HV7 HV8 HV9 HV10 HV11 HV12 HV13 HO4 HO5 HV6 HC4 HC5 HC6 HC7 HC8 HC9 HC10 HC11 HC12 HC13 HCP
        clear HST4 HST5 HST6 HST7 HST8 HST9 HST10 HST11 HST12 HST13 HBV4 HBV5 HBV6 HBV7 HBV8 HBV9 HBV10 HBV11 HBV12 HBV13
        generalize X.dry.length = NX at *
        generalize R.length = NR at *
        go_wp2_with fail
        go_loopw [166] (fun i wr => ∃ k : Nat, k ≤ NX ∧ i = .int .i64 (k : Int) ∧ Below V3.heap.size V3 wr ∧ Bump V3.heap.size w6.heap.size wr A6 NX ∧ Bump V3.heap.size V13.heap.size wr A4 NR ∧ wr.cell? ⟨w6.heap.size, 0, none⟩ = some (.slice A6 NX c6)) (fun i _ => NX - (intOf i).toNat)
        case atStart => exact ⟨0, by omega, rfl, HB3.out, HU6.out, HU4.out, F1.out⟩
        case round =>
          clear f1
          obtain ⟨k, hk, rfl, hbe, hu6, hu4, hcx⟩ := hrel
          have HBE := Lib.hid hbe
          have HU4 := Lib.hid hu4
          have HU6 := Lib.hid hu6
          have HCX := Lib.hid hcx
          clear hbe hu4 hu6
          by_cases hlt : k < NX
          · obtain ⟨ad, y, rfl, had, hag, hc, hf⟩ := HU6.out k hlt
            have HAD := Lib.hid had
            have HAG := Lib.hid hag
            clear had hag
            go_wp2_with fail
            refine ⟨⟨k + 1, by omega, by go_num, HBE.out.setCell (by rw [add_block]; exact HAD.out) _, HU6.out.set _ _, HU4.out.set _ _, ?_⟩, by simp [intOf]; omega⟩
            rw [World.cell?_setCell_other _ _ _ _ (fun e => HAG.out (by have := congrArg Addr.block e; rw [add_block] at this; exact this))]
            exact HCX.out
          · clear hcx HU6
            obtain ⟨wo, rfl⟩ : ∃ wo : World, wo = wr := ⟨_, rfl⟩
            go_wp2_with fail
            go_loopw [179] (fun i wr => ∃ k : Nat, k ≤ NR ∧ i = .int .i64 (k : Int) ∧ Below V3.heap.size V3 wr ∧ Bump V3.heap.size V13.heap.size wr A4 NR) (fun i _ => NR - (intOf i).toNat)
            case atStart => exact ⟨0, by omega, rfl, HBE.out, HU4.out⟩
            case round =>
              obtain ⟨k, hk, rfl, hbe, hu4⟩ := hrel
              have HBE := Lib.hid hbe
              have HU4 := Lib.hid hu4
              clear hbe hu4
              by_cases hlt : k < NR
              · obtain ⟨ad, y, rfl, had, _, hc, hf⟩ := HU4.out k hlt
                have HAD := Lib.hid had
                clear had
                go_wp2_with fail
                refine ⟨⟨k + 1, by omega, by go_num, HBE.out.setCell (by rw [add_block]; exact HAD.out) _, HU4.out.set _ _⟩, by simp [intOf]; omega⟩
              · have hbz := HBV3.out.trans (HBE.out.mono HBV3.out.size)
                have f1 := HBOX.out wr hbz
                have f3 := HLT.out wr hbz
                obtain ⟨Bq, q1, Bq', q2, hdv, hdr⟩ := HV3.out.below HBE.out
                have f2 : ∀ i, wr.cell? ⟨w3.heap.size, i, none⟩ = _ := fun i => cell_of_row wr _ i _ _ _ hdv
                have f4 : w3.heap.size < wr.heap.size := (Array.getElem?_eq_some_iff.1 hdv).1
                have HSA := Lib.hid (refSame_any _ _ d d wr (HRR.out wr hbz) hdr)
                have HBZ := Lib.hid hbz
                clear hdv hdr hbz
                go_wp2_with fail
                have hsa := HSA.out
                rw [same_one] at hsa
                refine hsa.mono ?_
                rintro e uz ⟨rfl, hu⟩
                have HUZ := Lib.hid (HB0.out.trans ((HBZ.out.trans (hu.mono HBZ.out.size)).mono (by have := HZ0.out; omega)))
                clear hu f1 f2 f3 f4
                go_wp2_with fail
                go_ret
                exact ⟨rfl, HUZ.out⟩
      · have t2 : decide (1000 < (keep.length : Int)) = true := by simp; omega
        clear hb0 hz0 hbox hmod
        go_enter Try.func3, Try.ntmps3
        go_wp2_with fail
        rw [← hW0]
        clear hW0
        refine HLIVE.out.mono ?_
        rintro e w1 ⟨rfl, hb1⟩
        have b1 := HBOX.out w1 hb1
        have HB1 := Lib.hid hb1
        clear hb1
        go_wp2_with fail
        refine (HFEW.out w1 HB1.out).mono ?_
        rintro e w2 ⟨rfl, hb2⟩
        have HB2 := Lib.hid (HB1.out.trans (hb2.mono HB1.out.size))
        clear hb2 b1
        go_wp2_with fail
        go_ret
        exact ⟨rfl, HB0.out.trans (HB2.out.mono (by have := HZ0.out; omega))⟩
    · have t1 : decide (100 < (b.length : Int)) = true := by simp; omega
      clear hb0 hz0 hbox hmod
      go_enter Try.func3, Try.ntmps3
      go_wp2_with fail
      rw [← hW0]
      clear hW0
      refine HLIVE.out.mono ?_
      rintro e w1 ⟨rfl, hb1⟩
      have b1 := HBOX.out w1 hb1
      have HB1 := Lib.hid hb1
      clear hb1
      go_wp2_with fail
      refine (HFEW.out w1 HB1.out).mono ?_
      rintro e w2 ⟨rfl, hb2⟩
      have HB2 := Lib.hid (HB1.out.trans (hb2.mono HB1.out.size))
      clear hb2 b1
      go_wp2_with fail
      go_ret
      exact ⟨rfl, HB0.out.trans (HB2.out.mono (by have := HZ0.out; omega))⟩

end Go.Proofs.Ytikobhckkbicaaa
