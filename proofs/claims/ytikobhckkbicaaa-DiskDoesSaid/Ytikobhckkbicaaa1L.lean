/- Contracts of the reference's Lit and burn. -/
import Derived.Test.Ytikobhckkbicaaa1C
namespace Go.Proofs.Ytikobhckkbicaaa
open Go.RowKit Dk

theorem two_new (w : World) (x y : Obj) (W0 : World) (h : W0 = (w.alloc x).alloc y) :
    Below w.heap.size w W0 ∧ W0.heap.size = w.heap.size + 2 ∧ W0.heap[w.heap.size]? = some x ∧ W0.heap[w.heap.size + 1]? = some y := by
  subst h
  exact ⟨((Below.refl _ _).alloc (Nat.le_refl _) _).alloc (by simp) _, by simp, by rw [Below.heap_alloc _ _ _ (by simp)]; exact heap_first _ _, heap_second _ _ _⟩

theorem Disk.ok_modest {d : Disk} (h : d.ok = true) : Modest d := by
  obtain ⟨⟨h1, h2, h3⟩, _⟩ := Disk.ok_small h
  exact ⟨h1, h2, fun x hx => by rw [h3 x hx]; omega⟩

theorem res_block {w : World} {n : Nat} {a0 a1 a2 a3 : Value} {t : TypeId} {fr : Nat × Nat} (h : w.heap[n]? = some (.cells #[a0, a1, a2, a3] t fr)) (x0 x1 x2 x3 : Value) :
    (resCells w n x0 x1 x2 x3).heap[n]? = some (.cells #[x0, x1, x2, x3] t fr) := blk_set (blk_set (blk_set (blk_set h 0 x0) 1 x1) 2 x2) 3 x3

theorem res_far {w : World} {n g : Nat} (h : g ≠ n) (x0 x1 x2 x3 : Value) : (resCells w n x0 x1 x2 x3).heap[g]? = w.heap[g]? := by
  unfold resCells
  rw [blk_far (by simpa using h), blk_far (by simpa using h), blk_far (by simpa using h), blk_far (by simpa using h)]

/-- A disk that a call made is stored into the box that the argument lay in. -/
theorem in_var {w W0 w2 : World} {D : Disk} {B1 B2 : Option Addr} {n1 n2 k1 k2 : Nat} {a0 a1 a2 a3 : Value} {o : Obj} (hz0 : W0.heap.size = w.heap.size + 2) (hb0 : Below w.heap.size w W0) (hb2 : Below W0.heap.size W0 w2)
    (hbox : W0.heap[w.heap.size]? = some (.cells #[a0, a1, a2, a3] 25 (0, 0))) (hres : W0.heap[w.heap.size + 1]? = some o)
    (ho : DiskOwn w2 W0.heap.size (.agg #[.slice B1 n1 k1, .slice B2 n2 k2, .int .i64 D.fuse, .bool D.dead]) D) (W3 : World)
    (hW : W3 = resCells w2 w.heap.size (.slice B1 n1 k1) (.slice B2 n2 k2) (.int .i64 D.fuse) (.bool D.dead)) :
    DiskOwn W3 W0.heap.size (.agg #[.slice B1 n1 k1, .slice B2 n2 k2, .int .i64 D.fuse, .bool D.dead]) D ∧ Below w.heap.size w W3 ∧
      W3.heap[w.heap.size]? = some (.cells #[.slice B1 n1 k1, .slice B2 n2 k2, .int .i64 D.fuse, .bool D.dead] 25 (0, 0)) ∧ W3.heap[w.heap.size + 1]? = some o := by
  subst hW
  exact ⟨ho.res (by omega) _ _ _ _, below_res (hb0.trans (hb2.mono (by omega))) (Nat.le_refl _) _ _ _ _, res_block (below_past hbox hb2) _ _ _ _, by rw [res_far (by omega)]; exact below_past hres hb2⟩

set_option maxRecDepth 4000 in
set_option maxHeartbeats 1000000 in
theorem refBurn_any (v : Value) (d : Disk) (w : World) (h : DiskR w (fun _ => True) v d) (hm : Modest d) (hf1 : -1 ≤ d.fuse) (hf2 : d.fuse ≤ 1073741824) :
    Calls Try.prog 54 #[v] w fun e w' => ∃ v', e = .returned (.tuple #[v', .bool (burn d).2]) ∧ DiskOwn w' w.heap.size v' (burn d).1 ∧ Below w.heap.size w w' := by
  have HD := Lib.hid h
  obtain ⟨vd, vw, rfl, ⟨A, c, rfl, hac, ham, _⟩, A', c', xs, rfl, hac', ham', _⟩ := h
  unfold maxLen at ham ham'
  obtain ⟨W0, hW0⟩ : ∃ W0, W0 = (w.alloc (Obj.cells #[Value.slice A d.dry.length c, Value.slice A' d.wet.length c', .int .i64 d.fuse, .bool d.dead] 25)).alloc (Obj.cells #[.slice none 0 0, .slice none 0 0, .int .i64 0, .bool false] 25) := ⟨_, rfl⟩
  obtain ⟨hb0, hz0, hbox, hres⟩ := two_new w _ _ W0 hW0
  have HB0 := Lib.hid hb0
  have HRES := Lib.hid (fun W (hb : Below W0.heap.size W0 W) => below_past hres hb)
  have HBOX := Lib.hid (fun W (hb : Below W0.heap.size W0 W) => below_past hbox hb)
  have HX0 := Lib.hid hbox
  have HX1 := Lib.hid hres
  have HCP := Lib.hid (refCopy_any _ d W0 (HD.out.below hb0) hm)
  clear hb0 hbox hres HRES
  by_cases h0 : d.fuse = 0
  · have t0 : (d.fuse == 0) = true := by simp [h0]
    have H0 := Lib.hid h0
    clear h0
    go_enter Try.func54, Try.ntmps54
    go_wp2_with fail
    rw [← hW0]
    clear hW0
    refine HCP.out.mono ?_
    rintro e w2 ⟨v2, rfl, hown, hb2⟩
    obtain ⟨vd1, vw1, ys, rfl, ho1, ho2, hy⟩ := hown
    obtain ⟨B1, k1, rfl⟩ := own_slice ho1
    obtain ⟨B2, k2, rfl⟩ := own_slice ho2
    obtain ⟨W3, hW3⟩ : ∃ W3, W3 = resCells w2 w.heap.size (.slice B1 d.dry.length k1) (.slice B2 d.wet.length k2) (.int .i64 d.fuse) (.bool d.dead) := ⟨_, rfl⟩
    have HV := Lib.hid (in_var hz0 HB0.out hb2 HX0.out HX1.out ⟨_, _, ys, rfl, ho1, ho2, hy⟩ W3 hW3)
    simp only [resCells] at hW3
    have br1 := HX0.out.trans rfl
    have b0 := HBOX.out w2 hb2
    have b1 : ∀ i, w2.cell? ⟨w.heap.size, i, none⟩ = _ := fun i => cell_of_row w2 _ i _ _ _ b0
    have b2 : ∀ i, w2.frozen? ⟨w.heap.size, i, none⟩ = false := fun i => by simp [World.frozen?, b0]
    have hl1 : w.heap.size < w2.heap.size := by have := (hb2).size; omega
    clear b0 br1 ho1 ho2 hy
    go_upto_region 2 with fail
    rw [← hW3]
    clear b1 b2 hl1 hW3
    obtain ⟨HOWN, HBW, hs0, hs1⟩ := HV.out
    have HOWN := Lib.hid HOWN
    have HBW := Lib.hid HBW
    have b1 : ∀ i, W3.cell? ⟨w.heap.size, i, none⟩ = _ := fun i => cell_of_row W3 _ i _ _ _ hs0
    have b2 : ∀ i, W3.frozen? ⟨w.heap.size, i, none⟩ = false := fun i => by simp [World.frozen?, hs0]
    have r1 : ∀ i, W3.cell? ⟨w.heap.size + 1, i, none⟩ = _ := fun i => cell_of_row W3 _ i _ _ _ hs1
    have r2 : ∀ i, W3.frozen? ⟨w.heap.size + 1, i, none⟩ = false := fun i => by simp [World.frozen?, hs1]
    have hl1 : w.heap.size < W3.heap.size := (Array.getElem?_eq_some_iff.1 hs0).1
    have hl2 : w.heap.size + 1 < W3.heap.size := (Array.getElem?_eq_some_iff.1 hs1).1
    clear hs0 hs1
    clear hb2
    go_wp2_with fail
    have HBR := show burn d = ({ d with fuse := d.fuse, dead := true }, false) by simp [burn, H0.out]
    rw [HBR]
    refine bodyPost_ret (v := .tuple #[.agg #[.slice B1 d.dry.length k1, .slice B2 d.wet.length k2, .int .i64 d.fuse, .bool true], .bool false]) ?_ rfl ?_
    · simp [results, Try.results54, go_sem, b1, b2, r1, r2, hl1, hl2]
    · refine ⟨_, rfl, DiskOwn.mono (base := W0.heap.size) ?_ (by omega), ?_⟩
      · repeat (refine DiskOwn.far ?_ (by simp; omega) _)
        exact HOWN.out.parts (d.fuse) true
      · repeat (refine Below.setCell ?_ (by simp) _)
        exact HBW.out
  · have t0 : (d.fuse == 0) = false := by simp [h0]
    by_cases h1 : d.fuse = -1
    · have t1 : decide (0 < d.fuse) = false := by simp; omega
      have hbu : burn d = ({ d with fuse := d.fuse, dead := d.dead }, true) := by
        simp [burn, h0, h1]
      have HBU := Lib.hid hbu
      clear hbu h0 h1
      go_enter Try.func54, Try.ntmps54
      go_wp2_with fail
      rw [← hW0]
      clear hW0
      refine HCP.out.mono ?_
      rintro e w2 ⟨v2, rfl, hown, hb2⟩
      obtain ⟨vd1, vw1, ys, rfl, ho1, ho2, hy⟩ := hown
      obtain ⟨B1, k1, rfl⟩ := own_slice ho1
      obtain ⟨B2, k2, rfl⟩ := own_slice ho2
      obtain ⟨W3, hW3⟩ : ∃ W3, W3 = resCells w2 w.heap.size (.slice B1 d.dry.length k1) (.slice B2 d.wet.length k2) (.int .i64 d.fuse) (.bool d.dead) := ⟨_, rfl⟩
      have HV := Lib.hid (in_var hz0 HB0.out hb2 HX0.out HX1.out ⟨_, _, ys, rfl, ho1, ho2, hy⟩ W3 hW3)
      simp only [resCells] at hW3
      have br1 := HX0.out.trans rfl
      have b0 := HBOX.out w2 hb2
      have b1 : ∀ i, w2.cell? ⟨w.heap.size, i, none⟩ = _ := fun i => cell_of_row w2 _ i _ _ _ b0
      have b2 : ∀ i, w2.frozen? ⟨w.heap.size, i, none⟩ = false := fun i => by simp [World.frozen?, b0]
      have hl1 : w.heap.size < w2.heap.size := by have := (hb2).size; omega
      clear b0 br1 ho1 ho2 hy
      go_upto_region 2 with fail
      rw [← hW3]
      clear b1 b2 hl1 hW3
      obtain ⟨HOWN, HBW, hs0, hs1⟩ := HV.out
      have HOWN := Lib.hid HOWN
      have HBW := Lib.hid HBW
      have b1 : ∀ i, W3.cell? ⟨w.heap.size, i, none⟩ = _ := fun i => cell_of_row W3 _ i _ _ _ hs0
      have b2 : ∀ i, W3.frozen? ⟨w.heap.size, i, none⟩ = false := fun i => by simp [World.frozen?, hs0]
      have r1 : ∀ i, W3.cell? ⟨w.heap.size + 1, i, none⟩ = _ := fun i => cell_of_row W3 _ i _ _ _ hs1
      have r2 : ∀ i, W3.frozen? ⟨w.heap.size + 1, i, none⟩ = false := fun i => by simp [World.frozen?, hs1]
      have hl1 : w.heap.size < W3.heap.size := (Array.getElem?_eq_some_iff.1 hs0).1
      have hl2 : w.heap.size + 1 < W3.heap.size := (Array.getElem?_eq_some_iff.1 hs1).1
      clear hs0 hs1
      clear hb2
      go_wp2_with fail
      have HBR := HBU.out
      rw [HBR]
      refine bodyPost_ret (v := .tuple #[.agg #[.slice B1 d.dry.length k1, .slice B2 d.wet.length k2, .int .i64 d.fuse, .bool d.dead], .bool true]) ?_ rfl ?_
      · simp [results, Try.results54, go_sem, b1, b2, r1, r2, hl1, hl2]
      · refine ⟨_, rfl, DiskOwn.mono (base := W0.heap.size) ?_ (by omega), ?_⟩
        · repeat (refine DiskOwn.far ?_ (by simp; omega) _)
          exact HOWN.out.parts (d.fuse) d.dead
        · repeat (refine Below.setCell ?_ (by simp) _)
          exact HBW.out
    · have t1 : decide (0 < d.fuse) = true := by simp; omega
      have hbu : burn d = ({ d with fuse := d.fuse - 1, dead := d.dead }, true) := by
        simp [burn, h0, h1]
      have HBU := Lib.hid hbu
      clear hbu h0 h1
      go_enter Try.func54, Try.ntmps54
      go_wp2_with fail
      rw [← hW0]
      clear hW0
      refine HCP.out.mono ?_
      rintro e w2 ⟨v2, rfl, hown, hb2⟩
      obtain ⟨vd1, vw1, ys, rfl, ho1, ho2, hy⟩ := hown
      obtain ⟨B1, k1, rfl⟩ := own_slice ho1
      obtain ⟨B2, k2, rfl⟩ := own_slice ho2
      obtain ⟨W3, hW3⟩ : ∃ W3, W3 = resCells w2 w.heap.size (.slice B1 d.dry.length k1) (.slice B2 d.wet.length k2) (.int .i64 d.fuse) (.bool d.dead) := ⟨_, rfl⟩
      have HV := Lib.hid (in_var hz0 HB0.out hb2 HX0.out HX1.out ⟨_, _, ys, rfl, ho1, ho2, hy⟩ W3 hW3)
      simp only [resCells] at hW3
      have br1 := HX0.out.trans rfl
      have b0 := HBOX.out w2 hb2
      have b1 : ∀ i, w2.cell? ⟨w.heap.size, i, none⟩ = _ := fun i => cell_of_row w2 _ i _ _ _ b0
      have b2 : ∀ i, w2.frozen? ⟨w.heap.size, i, none⟩ = false := fun i => by simp [World.frozen?, b0]
      have hl1 : w.heap.size < w2.heap.size := by have := (hb2).size; omega
      clear b0 br1 ho1 ho2 hy
      go_upto_region 2 with fail
      rw [← hW3]
      clear b1 b2 hl1 hW3
      obtain ⟨HOWN, HBW, hs0, hs1⟩ := HV.out
      have HOWN := Lib.hid HOWN
      have HBW := Lib.hid HBW
      have b1 : ∀ i, W3.cell? ⟨w.heap.size, i, none⟩ = _ := fun i => cell_of_row W3 _ i _ _ _ hs0
      have b2 : ∀ i, W3.frozen? ⟨w.heap.size, i, none⟩ = false := fun i => by simp [World.frozen?, hs0]
      have r1 : ∀ i, W3.cell? ⟨w.heap.size + 1, i, none⟩ = _ := fun i => cell_of_row W3 _ i _ _ _ hs1
      have r2 : ∀ i, W3.frozen? ⟨w.heap.size + 1, i, none⟩ = false := fun i => by simp [World.frozen?, hs1]
      have hl1 : w.heap.size < W3.heap.size := (Array.getElem?_eq_some_iff.1 hs0).1
      have hl2 : w.heap.size + 1 < W3.heap.size := (Array.getElem?_eq_some_iff.1 hs1).1
      clear hs0 hs1
      clear hb2
      go_wp2_with fail
      have HBR := HBU.out
      rw [HBR]
      refine bodyPost_ret (v := .tuple #[.agg #[.slice B1 d.dry.length k1, .slice B2 d.wet.length k2, .int .i64 (d.fuse - 1), .bool d.dead], .bool true]) ?_ rfl ?_
      · simp [results, Try.results54, go_sem, b1, b2, r1, r2, hl1, hl2]
      · refine ⟨_, rfl, DiskOwn.mono (base := W0.heap.size) ?_ (by omega), ?_⟩
        · repeat (refine DiskOwn.far ?_ (by simp; omega) _)
          exact HOWN.out.parts ((d.fuse - 1)) d.dead
        · repeat (refine Below.setCell ?_ (by simp) _)
          exact HBW.out

set_option maxRecDepth 4000 in
set_option maxHeartbeats 2000000 in
theorem refLit_any (v : Value) (d : Disk) (f : Int) (w : World) (h : DiskR w (fun _ => True) v d) :
    Calls Try.prog 26 #[v, .int .i64 f] w (GivesDE w (lit d f)) := by
  have HD := Lib.hid h
  obtain ⟨vd, vw, rfl, ⟨A, c, rfl, hac, ham, _⟩, A', c', xs, rfl, hac', ham', _⟩ := h
  unfold maxLen at ham ham'
  obtain ⟨W0, hW0⟩ : ∃ W0, W0 = (w.alloc (Obj.cells #[Value.slice A d.dry.length c, Value.slice A' d.wet.length c', .int .i64 d.fuse, .bool d.dead] 25)).alloc (Obj.cells #[.slice none 0 0, .slice none 0 0, .int .i64 0, .bool false] 25) := ⟨_, rfl⟩
  obtain ⟨hb0, hz0, hbox, hres⟩ := two_new w _ _ W0 hW0
  have HB0 := Lib.hid hb0
  have HRES := Lib.hid (fun W (hb : Below W0.heap.size W0 W) => below_past hres hb)
  have HBOX := Lib.hid (fun W (hb : Below W0.heap.size W0 W) => below_past hbox hb)
  have HX0 := Lib.hid hbox
  have HX1 := Lib.hid hres
  have HCK := Lib.hid (refCheck_any _ d W0 (HD.out.below hb0))
  clear hbox hres
  cases hok : d.ok
  · have hck : check d = 1 := by simp [check, hok]
    have HL := Lib.hid (show lit d f = (Disk.zero, 1) by simp [lit, ready, hok])
    rw [hck] at HCK
    clear hok hck hb0
    go_enter Try.func26, Try.ntmps26
    go_wp2_with fail
    rw [← hW0]
    clear hW0
    refine HCK.out.mono ?_
    rintro e w1 ⟨rfl, hb1⟩
    have br1 := HBOX.out w1 hb1
    have br2 := HRES.out w1 hb1
    have b1 : ∀ i, w1.cell? ⟨w.heap.size, i, none⟩ = #[Value.slice A d.dry.length c, Value.slice A' d.wet.length c', .int .i64 d.fuse, .bool d.dead][i]? := fun i => cell_of_row w1 _ i _ _ _ br1
    have b2 : ∀ i, w1.frozen? ⟨w.heap.size, i, none⟩ = false := fun i => by simp [World.frozen?, br1]
    have r1 : ∀ i, w1.cell? ⟨w.heap.size + 1, i, none⟩ = #[.slice none 0 0, .slice none 0 0, .int .i64 0, .bool false][i]? := fun i => cell_of_row w1 _ i _ _ _ br2
    have r2 : ∀ i, w1.frozen? ⟨w.heap.size + 1, i, none⟩ = false := fun i => by simp [World.frozen?, br2]
    have hl1 : w.heap.size < w1.heap.size := by have := hb1.size; omega
    have hl2 : w.heap.size + 1 < w1.heap.size := by have := hb1.size; omega
    clear br1 br2
    have HB1 := Lib.hid hb1
    clear hb1
    go_wp2_with fail
    rw [HL.out]
    refine bodyPost_ret (v := .tuple #[.agg #[.slice none 0 0, .slice none 0 0, .int .i64 0, .bool false], .int .i64 1]) ?_ rfl ?_
    · simp [results, Try.results26, go_sem, b1, b2, r1, r2, hl1, hl2]
    · refine ⟨_, rfl, DiskOwn.mono (base := W0.heap.size) ?_ (by omega), ?_⟩
      · repeat (refine DiskOwn.far ?_ (by simp; omega) _)
        exact DiskOwn.zero _ _
      · repeat (refine Below.setCell ?_ (by simp) _)
        exact HB0.out.trans (HB1.out.mono (by omega))
  · have hck : check d = 0 := by simp [check, hok]
    rw [hck] at HCK
    have HCP := Lib.hid (fun W (hb : Below W0.heap.size W0 W) => refCopy_any _ d W ((HD.out.below hb0).below hb) (Disk.ok_modest hok))
    have HOK := Lib.hid hok
    clear hck hb0 hok
    by_cases h1 : f < -1
    · have HL := Lib.hid (show lit d f = (Disk.zero, 1) by
        have : fuseOk f = false := by simp [fuseOk]; omega
        simp [lit, ready, HOK.out, this])
      go_enter Try.func26, Try.ntmps26
      go_wp2_with fail
      rw [← hW0]
      clear hW0
      refine HCK.out.mono ?_
      rintro e w1 ⟨rfl, hb1⟩
      have br1 := HBOX.out w1 hb1
      have br2 := HRES.out w1 hb1
      have b1 : ∀ i, w1.cell? ⟨w.heap.size, i, none⟩ = #[Value.slice A d.dry.length c, Value.slice A' d.wet.length c', .int .i64 d.fuse, .bool d.dead][i]? := fun i => cell_of_row w1 _ i _ _ _ br1
      have b2 : ∀ i, w1.frozen? ⟨w.heap.size, i, none⟩ = false := fun i => by simp [World.frozen?, br1]
      have r1 : ∀ i, w1.cell? ⟨w.heap.size + 1, i, none⟩ = #[.slice none 0 0, .slice none 0 0, .int .i64 0, .bool false][i]? := fun i => cell_of_row w1 _ i _ _ _ br2
      have r2 : ∀ i, w1.frozen? ⟨w.heap.size + 1, i, none⟩ = false := fun i => by simp [World.frozen?, br2]
      have hl1 : w.heap.size < w1.heap.size := by have := hb1.size; omega
      have hl2 : w.heap.size + 1 < w1.heap.size := by have := hb1.size; omega
      clear br1 br2
      have HB1 := Lib.hid hb1
      clear hb1
      go_wp2_with fail
      rw [HL.out]
      refine bodyPost_ret (v := .tuple #[.agg #[.slice none 0 0, .slice none 0 0, .int .i64 0, .bool false], .int .i64 1]) ?_ rfl ?_
      · simp [results, Try.results26, go_sem, b1, b2, r1, r2, hl1, hl2]
      · refine ⟨_, rfl, DiskOwn.mono (base := W0.heap.size) ?_ (by omega), ?_⟩
        · repeat (refine DiskOwn.far ?_ (by simp; omega) _)
          exact DiskOwn.zero _ _
        · repeat (refine Below.setCell ?_ (by simp) _)
          exact HB0.out.trans (HB1.out.mono (by omega))
    · by_cases h2 : 1073741824 < f
      · have HL := Lib.hid (show lit d f = (Disk.zero, 1) by
          have : fuseOk f = false := by simp [fuseOk]; omega
          simp [lit, ready, HOK.out, this])
        go_enter Try.func26, Try.ntmps26
        go_wp2_with fail
        rw [← hW0]
        clear hW0
        refine HCK.out.mono ?_
        rintro e w1 ⟨rfl, hb1⟩
        have br1 := HBOX.out w1 hb1
        have br2 := HRES.out w1 hb1
        have b1 : ∀ i, w1.cell? ⟨w.heap.size, i, none⟩ = #[Value.slice A d.dry.length c, Value.slice A' d.wet.length c', .int .i64 d.fuse, .bool d.dead][i]? := fun i => cell_of_row w1 _ i _ _ _ br1
        have b2 : ∀ i, w1.frozen? ⟨w.heap.size, i, none⟩ = false := fun i => by simp [World.frozen?, br1]
        have r1 : ∀ i, w1.cell? ⟨w.heap.size + 1, i, none⟩ = #[.slice none 0 0, .slice none 0 0, .int .i64 0, .bool false][i]? := fun i => cell_of_row w1 _ i _ _ _ br2
        have r2 : ∀ i, w1.frozen? ⟨w.heap.size + 1, i, none⟩ = false := fun i => by simp [World.frozen?, br2]
        have hl1 : w.heap.size < w1.heap.size := by have := hb1.size; omega
        have hl2 : w.heap.size + 1 < w1.heap.size := by have := hb1.size; omega
        clear br1 br2
        have HB1 := Lib.hid hb1
        clear hb1
        go_wp2_with fail
        rw [HL.out]
        refine bodyPost_ret (v := .tuple #[.agg #[.slice none 0 0, .slice none 0 0, .int .i64 0, .bool false], .int .i64 1]) ?_ rfl ?_
        · simp [results, Try.results26, go_sem, b1, b2, r1, r2, hl1, hl2]
        · refine ⟨_, rfl, DiskOwn.mono (base := W0.heap.size) ?_ (by omega), ?_⟩
          · repeat (refine DiskOwn.far ?_ (by simp; omega) _)
            exact DiskOwn.zero _ _
          · repeat (refine Below.setCell ?_ (by simp) _)
            exact HB0.out.trans (HB1.out.mono (by omega))
      · have hfo : fuseOk f = true := by simp [fuseOk]; omega
        by_cases hd : d.dead = false
        · have HL := Lib.hid (show lit d f = ({ d with fuse := f, dead := false }, 0) by
            simp [lit, ready, HOK.out, hfo, hd])
          have HDD := Lib.hid hd
          clear hfo hd
          go_enter Try.func26, Try.ntmps26
          go_wp2_with fail
          rw [← hW0]
          clear hW0
          refine HCK.out.mono ?_
          rintro e w1 ⟨rfl, hb1⟩
          have br1 := HBOX.out w1 hb1
          have br2 := HRES.out w1 hb1
          have b1 : ∀ i, w1.cell? ⟨w.heap.size, i, none⟩ = #[Value.slice A d.dry.length c, Value.slice A' d.wet.length c', .int .i64 d.fuse, .bool d.dead][i]? := fun i => cell_of_row w1 _ i _ _ _ br1
          have b2 : ∀ i, w1.frozen? ⟨w.heap.size, i, none⟩ = false := fun i => by simp [World.frozen?, br1]
          have r1 : ∀ i, w1.cell? ⟨w.heap.size + 1, i, none⟩ = #[.slice none 0 0, .slice none 0 0, .int .i64 0, .bool false][i]? := fun i => cell_of_row w1 _ i _ _ _ br2
          have r2 : ∀ i, w1.frozen? ⟨w.heap.size + 1, i, none⟩ = false := fun i => by simp [World.frozen?, br2]
          have hl1 : w.heap.size < w1.heap.size := by have := hb1.size; omega
          have hl2 : w.heap.size + 1 < w1.heap.size := by have := hb1.size; omega
          clear br1 br2
          rw [HDD.out] at b1
          have HB1 := Lib.hid hb1
          clear hb1
          go_wp2_with fail
          clear b1 b2 r1 r2 hl1 hl2
          have hcp := HCP.out w1 HB1.out
          rw [HDD.out] at hcp
          refine hcp.mono ?_
          clear hcp
          rintro e w2 ⟨v2, rfl, hown, hb2⟩
          have hown := hown.mono HB1.out.size
          have hb2 := HB1.out.trans (hb2.mono HB1.out.size)
          obtain ⟨vd1, vw1, ys, rfl, ho1, ho2, hy⟩ := hown
          obtain ⟨B1, k1, rfl⟩ := own_slice ho1
          obtain ⟨B2, k2, rfl⟩ := own_slice ho2
          obtain ⟨W3, hW3⟩ : ∃ W3, W3 = resCells w2 w.heap.size (.slice B1 d.dry.length k1) (.slice B2 d.wet.length k2) (.int .i64 d.fuse) (.bool d.dead) := ⟨_, rfl⟩
          have HV := Lib.hid (in_var hz0 HB0.out hb2 HX0.out HX1.out ⟨_, _, ys, rfl, ho1, ho2, hy⟩ W3 hW3)
          simp only [resCells] at hW3
          have br1 := HX0.out.trans rfl
          have b0 := HBOX.out w2 hb2
          have b1 : ∀ i, w2.cell? ⟨w.heap.size, i, none⟩ = _ := fun i => cell_of_row w2 _ i _ _ _ b0
          have b2 : ∀ i, w2.frozen? ⟨w.heap.size, i, none⟩ = false := fun i => by simp [World.frozen?, b0]
          have hl1 : w.heap.size < w2.heap.size := by have := (hb2).size; omega
          clear b0 br1 ho1 ho2 hy
          go_upto_region 6 with fail
          rw [← hW3]
          clear b1 b2 hl1 hW3
          obtain ⟨HOWN, HBW, hs0, hs1⟩ := HV.out
          have HOWN := Lib.hid HOWN
          have HBW := Lib.hid HBW
          have b1 : ∀ i, W3.cell? ⟨w.heap.size, i, none⟩ = _ := fun i => cell_of_row W3 _ i _ _ _ hs0
          have b2 : ∀ i, W3.frozen? ⟨w.heap.size, i, none⟩ = false := fun i => by simp [World.frozen?, hs0]
          have r1 : ∀ i, W3.cell? ⟨w.heap.size + 1, i, none⟩ = _ := fun i => cell_of_row W3 _ i _ _ _ hs1
          have r2 : ∀ i, W3.frozen? ⟨w.heap.size + 1, i, none⟩ = false := fun i => by simp [World.frozen?, hs1]
          have hl1 : w.heap.size < W3.heap.size := (Array.getElem?_eq_some_iff.1 hs0).1
          have hl2 : w.heap.size + 1 < W3.heap.size := (Array.getElem?_eq_some_iff.1 hs1).1
          clear hs0 hs1
          rw [HDD.out] at b1
          clear hb2
          go_wp2_with fail
          rw [HL.out]
          refine bodyPost_ret (v := .tuple #[.agg #[.slice B1 d.dry.length k1, .slice B2 d.wet.length k2, .int .i64 f, .bool false], .int .i64 0]) ?_ rfl ?_
          · simp [results, Try.results26, go_sem, b1, b2, r1, r2, hl1, hl2]
          · refine ⟨_, rfl, DiskOwn.mono (base := W0.heap.size) ?_ (by omega), ?_⟩
            · repeat (refine DiskOwn.far ?_ (by simp; omega) _)
              exact HOWN.out.parts f false
            · repeat (refine Below.setCell ?_ (by simp) _)
              exact HBW.out
        · replace hd : d.dead = true := by simpa using hd
          have HL := Lib.hid (show lit d f = (Disk.zero, 11) by simp [lit, ready, HOK.out, hfo, hd])
          have HDD := Lib.hid hd
          clear hfo hd
          go_enter Try.func26, Try.ntmps26
          go_wp2_with fail
          rw [← hW0]
          clear hW0
          refine HCK.out.mono ?_
          rintro e w1 ⟨rfl, hb1⟩
          have br1 := HBOX.out w1 hb1
          have br2 := HRES.out w1 hb1
          have b1 : ∀ i, w1.cell? ⟨w.heap.size, i, none⟩ = #[Value.slice A d.dry.length c, Value.slice A' d.wet.length c', .int .i64 d.fuse, .bool d.dead][i]? := fun i => cell_of_row w1 _ i _ _ _ br1
          have b2 : ∀ i, w1.frozen? ⟨w.heap.size, i, none⟩ = false := fun i => by simp [World.frozen?, br1]
          have r1 : ∀ i, w1.cell? ⟨w.heap.size + 1, i, none⟩ = #[.slice none 0 0, .slice none 0 0, .int .i64 0, .bool false][i]? := fun i => cell_of_row w1 _ i _ _ _ br2
          have r2 : ∀ i, w1.frozen? ⟨w.heap.size + 1, i, none⟩ = false := fun i => by simp [World.frozen?, br2]
          have hl1 : w.heap.size < w1.heap.size := by have := hb1.size; omega
          have hl2 : w.heap.size + 1 < w1.heap.size := by have := hb1.size; omega
          clear br1 br2
          rw [HDD.out] at b1
          have HB1 := Lib.hid hb1
          clear hb1
          go_wp2_with fail
          rw [HL.out]
          refine bodyPost_ret (v := .tuple #[.agg #[.slice none 0 0, .slice none 0 0, .int .i64 0, .bool false], .int .i64 11]) ?_ rfl ?_
          · simp [results, Try.results26, go_sem, b1, b2, r1, r2, hl1, hl2]
          · refine ⟨_, rfl, DiskOwn.mono (base := W0.heap.size) ?_ (by omega), ?_⟩
            · repeat (refine DiskOwn.far ?_ (by simp; omega) _)
              exact DiskOwn.zero _ _
            · repeat (refine Below.setCell ?_ (by simp) _)
              exact HB0.out.trans (HB1.out.mono (by omega))

end Go.Proofs.Ytikobhckkbicaaa
