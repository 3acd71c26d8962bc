/- Contract of the reference's Flush. -/
import Derived.Test.Ytikobhckkbicaaa1W
namespace Go.Proofs.Ytikobhckkbicaaa
open Go.RowKit Dk

set_option maxRecDepth 4000 in
set_option maxHeartbeats 4000000 in
theorem refFlush_any (v : Value) (d : Disk) (w : World) (h : DiskR w (fun _ => True) v d) :
    Calls Try.prog 24 #[v] w (GivesDE w (flush d)) := by
  have HD := Lib.hid h
  obtain ⟨vd, vw, rfl, ⟨A, c, rfl, hac, ham, _⟩, A', c', xs, rfl, hac', ham', _⟩ := h
  unfold maxLen at ham ham'
  obtain ⟨W0, hW0⟩ : ∃ W0, W0 = (w.alloc (Obj.cells #[Value.slice A d.dry.length c, Value.slice A' d.wet.length c', .int .i64 d.fuse, .bool d.dead] 25)).alloc (Obj.cells #[.slice none 0 0, .slice none 0 0, .int .i64 0, .bool false] 25) := ⟨_, rfl⟩
  obtain ⟨hb0, hz0, hbox, hres⟩ := two_new w _ _ W0 hW0
  have HB0 := Lib.hid hb0
  have HRES := Lib.hid (fun W (hb : Below W0.heap.size W0 W) => below_past hres hb)
  have HBOX := Lib.hid (fun W (hb : Below W0.heap.size W0 W) => below_past hbox hb)
  have HX0 := Lib.hid hbox
  have HX1 := Lib.hid hres
  have HCK := Lib.hid (refCheck_any _ d W0 (HD.out.below hb0))
  clear hbox hres
  cases hok : d.ok
  · have hck : check d = 1 := by simp [check, hok]
    have HL := Lib.hid (show flush d = (Disk.zero, 1) by simp [flush, ready, hok])
    rw [hck] at HCK
    clear hok hck hb0
    go_enter Try.func24, Try.ntmps24
    go_wp2_with fail
    rw [← hW0]
    clear hW0
    refine HCK.out.mono ?_
    rintro e w1 ⟨rfl, hb1⟩
    have br1 := HBOX.out w1 hb1
    have br2 := HRES.out w1 hb1
    have b1 : ∀ i, w1.cell? ⟨w.heap.size, i, none⟩ = #[Value.slice A d.dry.length c, Value.slice A' d.wet.length c', .int .i64 d.fuse, .bool d.dead][i]? := fun i => cell_of_row w1 _ i _ _ _ br1
    have b2 : ∀ i, w1.frozen? ⟨w.heap.size, i, none⟩ = false := fun i => by simp [World.frozen?, br1]
    have r1 : ∀ i, w1.cell? ⟨w.heap.size + 1, i, none⟩ = #[.slice none 0 0, .slice none 0 0, .int .i64 0, .bool false][i]? := fun i => cell_of_row w1 _ i _ _ _ br2
    have r2 : ∀ i, w1.frozen? ⟨w.heap.size + 1, i, none⟩ = false := fun i => by simp [World.frozen?, br2]
    have hl1 : w.heap.size < w1.heap.size := by have := hb1.size; omega
    have hl2 : w.heap.size + 1 < w1.heap.size := by have := hb1.size; omega
    clear br1 br2
    have HB1 := Lib.hid hb1
    clear hb1
    go_wp2_with fail
    rw [HL.out]
    refine bodyPost_ret (v := .tuple #[.agg #[.slice none 0 0, .slice none 0 0, .int .i64 0, .bool false], .int .i64 1]) ?_ rfl ?_
    · simp [results, Try.results24, go_sem, b1, b2, r1, r2, hl1, hl2]
    · refine ⟨_, rfl, DiskOwn.mono (base := W0.heap.size) ?_ (by omega), ?_⟩
      · repeat (refine DiskOwn.far ?_ (by simp; omega) _)
        exact DiskOwn.zero _ _
      · repeat (refine Below.setCell ?_ (by simp) _)
        exact HB0.out.trans (HB1.out.mono (by omega))
  · have hck : check d = 0 := by simp [check, hok]
    rw [hck] at HCK
    obtain ⟨_, hfu, hfl, hw8⟩ := Disk.ok_small hok
    have HBN := Lib.hid (fun W (hb : Below W0.heap.size W0 W) => refBurn_any _ d W ((HD.out.below hb0).below hb) (Disk.ok_modest hok) hfl hfu)
    have HOK := Lib.hid hok
    clear hck hb0 hok
    by_cases hd : d.dead = false
    · have HRY := Lib.hid (show ready d true = 0 by simp [ready, HOK.out, hd])
      have HDD := Lib.hid hd
      clear hd
      have HL := Lib.hid (show flush d = deed d (dryAll fun _ => 32) by rw [flush, if_pos HRY.out])
      rcases hbn : burn d with ⟨D, ok⟩
      have hDok : D.ok = true := by have := burn_ok HOK.out; rw [hbn] at this; exact this
      rw [hbn] at HBN
      have HDOK := Lib.hid hDok
      clear hDok
      cases ok
      · have HE := Lib.hid (show deed d (dryAll fun _ => 32) = (D, 11) by simp [deed, hbn])
        clear hbn
        go_enter Try.func24, Try.ntmps24
        go_wp2_with fail
        rw [← hW0]
        clear hW0
        refine HCK.out.mono ?_
        rintro e w1 ⟨rfl, hb1⟩
        have br1 := HBOX.out w1 hb1
        have br2 := HRES.out w1 hb1
        have b1 : ∀ i, w1.cell? ⟨w.heap.size, i, none⟩ = #[Value.slice A d.dry.length c, Value.slice A' d.wet.length c', .int .i64 d.fuse, .bool d.dead][i]? := fun i => cell_of_row w1 _ i _ _ _ br1
        have b2 : ∀ i, w1.frozen? ⟨w.heap.size, i, none⟩ = false := fun i => by simp [World.frozen?, br1]
        have r1 : ∀ i, w1.cell? ⟨w.heap.size + 1, i, none⟩ = #[.slice none 0 0, .slice none 0 0, .int .i64 0, .bool false][i]? := fun i => cell_of_row w1 _ i _ _ _ br2
        have r2 : ∀ i, w1.frozen? ⟨w.heap.size + 1, i, none⟩ = false := fun i => by simp [World.frozen?, br2]
        have hl1 : w.heap.size < w1.heap.size := by have := hb1.size; omega
        have hl2 : w.heap.size + 1 < w1.heap.size := by have := hb1.size; omega
        clear br1 br2
        rw [HDD.out] at b1
        have HB1 := Lib.hid hb1
        clear hb1
        go_wp2_with fail
        clear b1 b2 r1 r2 hl1 hl2
        have hcp := HBN.out w1 HB1.out
        rw [HDD.out] at hcp
        refine hcp.mono ?_
        clear hcp
        rintro e w2 ⟨v2, rfl, hown, hb2⟩
        have hown := hown.mono HB1.out.size
        have hb2 := HB1.out.trans (hb2.mono HB1.out.size)
        have HWZ : w2.heap.size ≥ W0.heap.size := hb2.size
        obtain ⟨vd1, vw1, ys, rfl, ho1, ho2, hy⟩ := hown
        obtain ⟨B1, k1, rfl⟩ := own_slice ho1
        obtain ⟨B2, k2, rfl⟩ := own_slice ho2
        obtain ⟨W3, hW3⟩ : ∃ W3, W3 = resCells w2 w.heap.size (.slice B1 D.dry.length k1) (.slice B2 D.wet.length k2) (.int .i64 D.fuse) (.bool D.dead) := ⟨_, rfl⟩
        have HV := Lib.hid (in_var hz0 HB0.out hb2 HX0.out HX1.out ⟨_, _, ys, rfl, ho1, ho2, hy⟩ W3 hW3)
        simp only [resCells] at hW3
        have br1 := HX0.out.trans rfl
        have b0 := HBOX.out w2 hb2
        have b1 : ∀ i, w2.cell? ⟨w.heap.size, i, none⟩ = _ := fun i => cell_of_row w2 _ i _ _ _ b0
        have b2 : ∀ i, w2.frozen? ⟨w.heap.size, i, none⟩ = false := fun i => by simp [World.frozen?, b0]
        have hl1 : w.heap.size < w2.heap.size := by have := (hb2).size; omega
        clear b0 br1 ho1 ho2 hy
        go_upto_region 6 with fail
        rw [← hW3]
        clear b1 b2 hl1 hW3
        obtain ⟨HOWN, HBW, hs0, hs1⟩ := HV.out
        have HOWN := Lib.hid HOWN
        have HBW := Lib.hid HBW
        have b1 : ∀ i, W3.cell? ⟨w.heap.size, i, none⟩ = _ := fun i => cell_of_row W3 _ i _ _ _ hs0
        have b2 : ∀ i, W3.frozen? ⟨w.heap.size, i, none⟩ = false := fun i => by simp [World.frozen?, hs0]
        have r1 : ∀ i, W3.cell? ⟨w.heap.size + 1, i, none⟩ = _ := fun i => cell_of_row W3 _ i _ _ _ hs1
        have r2 : ∀ i, W3.frozen? ⟨w.heap.size + 1, i, none⟩ = false := fun i => by simp [World.frozen?, hs1]
        have hl1 : w.heap.size < W3.heap.size := (Array.getElem?_eq_some_iff.1 hs0).1
        have hl2 : w.heap.size + 1 < W3.heap.size := (Array.getElem?_eq_some_iff.1 hs1).1
        clear hs0 hs1
        clear hb2
        go_wp2_with fail
        rw [HL.out, HE.out]
        refine bodyPost_ret (v := .tuple #[.agg #[.slice B1 D.dry.length k1, .slice B2 D.wet.length k2, .int .i64 D.fuse, .bool D.dead], .int .i64 11]) ?_ rfl ?_
        · simp [results, Try.results24, go_sem, b1, b2, r1, r2, hl1, hl2]
        · refine ⟨_, rfl, DiskOwn.mono (base := W0.heap.size) ?_ (by omega), ?_⟩
          · repeat (refine DiskOwn.far ?_ (by simp; omega) _)
            exact HOWN.out
          · repeat (refine Below.setCell ?_ (by simp) _)
            exact HBW.out
      · have HE := Lib.hid (show deed d (dryAll fun _ => 32) = (dryAll (fun _ => 32) D, 0) by simp [deed, hbn])
        clear hbn
        go_enter Try.func24, Try.ntmps24
        go_wp2_with fail
        rw [← hW0]
        clear hW0
        refine HCK.out.mono ?_
        rintro e w1 ⟨rfl, hb1⟩
        have br1 := HBOX.out w1 hb1
        have br2 := HRES.out w1 hb1
        have b1 : ∀ i, w1.cell? ⟨w.heap.size, i, none⟩ = #[Value.slice A d.dry.length c, Value.slice A' d.wet.length c', .int .i64 d.fuse, .bool d.dead][i]? := fun i => cell_of_row w1 _ i _ _ _ br1
        have b2 : ∀ i, w1.frozen? ⟨w.heap.size, i, none⟩ = false := fun i => by simp [World.frozen?, br1]
        have r1 : ∀ i, w1.cell? ⟨w.heap.size + 1, i, none⟩ = #[.slice none 0 0, .slice none 0 0, .int .i64 0, .bool false][i]? := fun i => cell_of_row w1 _ i _ _ _ br2
        have r2 : ∀ i, w1.frozen? ⟨w.heap.size + 1, i, none⟩ = false := fun i => by simp [World.frozen?, br2]
        have hl1 : w.heap.size < w1.heap.size := by have := hb1.size; omega
        have hl2 : w.heap.size + 1 < w1.heap.size := by have := hb1.size; omega
        clear br1 br2
        rw [HDD.out] at b1
        have HB1 := Lib.hid hb1
        clear hb1
        go_wp2_with fail
        clear b1 b2 r1 r2 hl1 hl2
        have hcp := HBN.out w1 HB1.out
        rw [HDD.out] at hcp
        refine hcp.mono ?_
        clear hcp
        rintro e w2 ⟨v2, rfl, hown, hb2⟩
        have hown := hown.mono HB1.out.size
        have hb2 := HB1.out.trans (hb2.mono HB1.out.size)
        have HWZ : w2.heap.size ≥ W0.heap.size := hb2.size
        obtain ⟨vd1, vw1, ys, rfl, ho1, ho2, hy⟩ := hown
        obtain ⟨B1, k1, rfl⟩ := own_slice ho1
        obtain ⟨B2, k2, rfl⟩ := own_slice ho2
        obtain ⟨W3, hW3⟩ : ∃ W3, W3 = resCells w2 w.heap.size (.slice B1 D.dry.length k1) (.slice B2 D.wet.length k2) (.int .i64 D.fuse) (.bool D.dead) := ⟨_, rfl⟩
        have HV := Lib.hid (in_var hz0 HB0.out hb2 HX0.out HX1.out ⟨_, _, ys, rfl, ho1, ho2, hy⟩ W3 hW3)
        simp only [resCells] at hW3
        have br1 := HX0.out.trans rfl
        have b0 := HBOX.out w2 hb2
        have b1 : ∀ i, w2.cell? ⟨w.heap.size, i, none⟩ = _ := fun i => cell_of_row w2 _ i _ _ _ b0
        have b2 : ∀ i, w2.frozen? ⟨w.heap.size, i, none⟩ = false := fun i => by simp [World.frozen?, b0]
        have hl1 : w.heap.size < w2.heap.size := by have := (hb2).size; omega
        clear b0 br1 ho1 ho2 hy
        go_upto_region 6 with fail
        rw [← hW3]
        clear b1 b2 hl1 hW3
        obtain ⟨HOWN, HBW, hs0, hs1⟩ := HV.out
        have HOWN := Lib.hid HOWN
        have HBW := Lib.hid HBW
        have b1 : ∀ i, W3.cell? ⟨w.heap.size, i, none⟩ = _ := fun i => cell_of_row W3 _ i _ _ _ hs0
        have b2 : ∀ i, W3.frozen? ⟨w.heap.size, i, none⟩ = false := fun i => by simp [World.frozen?, hs0]
        have r1 : ∀ i, W3.cell? ⟨w.heap.size + 1, i, none⟩ = _ := fun i => cell_of_row W3 _ i _ _ _ hs1
        have r2 : ∀ i, W3.frozen? ⟨w.heap.size + 1, i, none⟩ = false := fun i => by simp [World.frozen?, hs1]
        have hl1 : w.heap.size < W3.heap.size := (Array.getElem?_eq_some_iff.1 hs0).1
        have hl2 : w.heap.size + 1 < W3.heap.size := (Array.getElem?_eq_some_iff.1 hs1).1
        clear hs0 hs1
        clear hb2
        obtain ⟨xs, ho1, ho2, hx⟩ := split_own HOWN.out
        have hok := HDOK.out
        obtain ⟨hk, hall⟩ : (32 ≤ D.dry.length ∧ D.dry.length ≤ 262144 ∧ D.dry.length % 32 = 0 ∧ D.wet.length ≤ 8192 ∧ -1 ≤ D.fuse ∧ D.fuse ≤ 1073741824) ∧ ∀ x ∈ D.wet, okWr D.dry.length x = true := by
          simp only [Disk.ok, Bool.and_eq_true, decide_eq_true_eq, List.all_eq_true] at hok
          exact hok
        obtain ⟨j1, j2, j3, j4, j5, j6⟩ := hk
        have hb3 : W0.heap.size ≤ W3.heap.size := by omega
        have hcl := own_cells (S := fun b => some b ≠ (Value.slice B1 D.dry.length k1).ownBlock) ho2 (fun b hb e => by
          rcases ho1.2 with ⟨he, _⟩ | ⟨gd, cap, cur, he, _, hh, _⟩
          · rw [he] at e; simp [Value.ownBlock] at e
          · rw [he] at e
            obtain rfl : b = gd := by simpa [Value.ownBlock] using e
            exact own_blk_ne ho2 hh (by decide) b hb rfl)
        rcases ho1.2 with ⟨_, h0⟩ | ⟨gd, cap, cur0, he, hbgd, hgd, hNc, hcm, hcs, htk⟩
        · omega
        injection he with he1 _ he3
        subst he1 he3
        have hgg : w.heap.size ≠ gd := by omega
        have hgg2 : w.heap.size + 1 ≠ gd := by omega
        have hgdl : gd < W3.heap.size := by
          rcases Nat.lt_or_ge gd W3.heap.size with h | h
          · exact h
          · rw [Array.getElem?_eq_none h] at hgd; cases hgd
        have e1 : ∀ i, W3.cell? ⟨w.heap.size, i, none⟩ = #[.slice (some ⟨gd, 0, none⟩) D.dry.length k1, .slice B2 D.wet.length k2, .int .i64 D.fuse, .bool D.dead][i]? := b1
        have HV1 := Lib.hid HV.out.2.2.1
        have HV2 := Lib.hid HV.out.2.2.2
        clear HV b1 r1 r2 HOWN
        obtain ⟨cap, hcap⟩ : ∃ cap, cap = k1 := ⟨_, rfl⟩
        subst hcap
        generalize hL : D.wet.length = L at *
        generalize hN : D.dry.length = N at *
        have HLW := Lib.hid hL
        have HN := Lib.hid hN
        have HGD := Lib.hid hgd
        have HX := Lib.hid hx
        have HCL := Lib.hid hcl
        have HO2 := Lib.hid ho2
        have HALL := Lib.hid hall
        have HCS := Lib.hid hcs
        have HTK := Lib.hid htk
        have HM := Lib.hid (fun _ : Nat => Nat.le_refl 32)
        have K3 := Lib.hid j3
        clear hL hN hgd hx hcl ho1 ho2 hall hcs htk hok j3
        unfold maxLen at hcm
        go_wp2_with fail
        go_loopw [25] (fun i wr => DryInv D W3 gd L N cap (fun _ => 32) i wr) (fun i _ => L - (intOf i).toNat)
        case atStart =>
          refine ⟨0, cur0.toList, by omega, rfl, World.grownBy.refl _ _, by simpa using HGD.out, by have := HCS.out; simpa using this, ?_, by simpa [pour] using HN.out⟩
          have := HTK.out
          simpa [pour] using this
        case round =>
          obtain ⟨k, cur, hk, rfl, hgr, hcur, hcl, htk, hpl⟩ := hrel
          have HCUR := Lib.hid hcur
          have HCL2 := Lib.hid hcl
          have HTK2 := Lib.hid htk
          have HPL := Lib.hid hpl
          have HGR := Lib.hid hgr
          clear hcur hcl htk hpl hgr
          by_cases hlt : k < L
          · have hkx : ∃ x, D.wet[k]? = some x := ⟨_, List.getElem?_eq_getElem (by rw [HLW.out]; exact hlt)⟩
            obtain ⟨x, hkx⟩ := hkx
            obtain ⟨f1, vb, f2, B, cb, rfl, hb1, hb2, hb3, hcb⟩ := HX.out.2 k x hkx
            obtain ⟨ad, hA, had, hcell⟩ := HCL.out (by rw [HX.out.1, HLW.out]; omega)
            subst hA
            have hxo := HALL.out x (List.mem_of_getElem? hkx)
            simp only [okWr, decide_eq_true_eq] at hxo
            obtain ⟨hxl, hp0, hp1⟩ := hxo
            rw [hxl] at hb1 f2
            obtain ⟨q, hq⟩ : ∃ q : Nat, x.pos = (q : Int) := ⟨x.pos.toNat, by omega⟩
            rw [hq] at f1 hp0 hp1
            have hqn : q * 32 + 32 ≤ N := by have := K3.out; omega
            have hadl := World.block_lt_of_cell? W3 _ (hcell _ _ f1)
            rw [add_block] at hadl
            have hne : some ad.block ≠ some gd := by simpa [Value.ownBlock] using had
            have c1 : wr.cell? (ad.add (k * 2)) = some (.int .i64 (q : Int)) := HGR.out.cell (hcell _ _ f1) (by rw [add_block]; exact hne)
            have c2 := cell_next (HGR.out.cell (hcell _ _ f2) (by rw [add_block]; exact hne))
            have c3 : wr.cell? ⟨w.heap.size, 0, none⟩ = some (.slice (some ⟨gd, 0, none⟩) N cap) := HGR.out.cell ((e1 0).trans rfl) (by simpa using hgg)
            have hwl : W3.heap.size ≤ wr.heap.size := HGR.out.size
            have hgr2 : w.heap.size < wr.heap.size := by omega
            have hgd2 : gd < wr.heap.size := by omega
            have HKX := Lib.hid hkx
            have HXL := Lib.hid hxl
            have HQ := Lib.hid hq
            have HCB := Lib.hid hcb
            have HB3 := Lib.hid hb3
            clear hkx hxl hq hcb hb3 f1 f2 hcell had hadl hne e1
            have hcl8 : (Try.prog.info? 5).map (·.size) = some 1 := by kernel_rfl
            have HC8 := Lib.hid hcl8
            clear hcl8
            have hbase : Below W0.heap.size W3 (wr.alloc (Obj.cells #[.int .i64 (q : Int), .slice B 32 cb] 70)) := ((Below.refl _ _).grown HGR.out (by omega) (by simp; omega)).alloc (by omega) _
            have HBASE := Lib.hid hbase
            clear hbase
            have w1 : IntKind.i64.wrap (32 * (q : Int)) = (q : Int) * 32 := (IntWalk.i64_in _ (by omega)).trans (Int.mul_comm _ _)
            have w2 : (0 : Int) ≤ (q : Int) * 32 := by omega
            have w3 : ((q : Int) * 32).toNat = q * 32 := by omega
            have w4 : (q : Int) * 32 ≤ (N : Int) := by omega
            have w5 : q * 32 < cap := by omega
            have w6 : ¬ cap = q * 32 := by omega
            have w7 : 0 ≤ (32 : Int) := by omega
            have w8 : (32 : Int) ≤ 32 := by have := HM.out k; omega
            have w9 : (32 : Int) ≤ (cb : Int) := by have := HM.out k; omega
            have hW0 : (wr.alloc (Obj.cells #[.int .i64 (q : Int), .slice B 32 cb] 70)).heap[gd]? = some (.cells cur.toArray 5 (0, 0)) := (Below.heap_alloc _ _ _ hgd2).trans HCUR.out
            have hlen : (octets (x.b.take 32)).length = 32 := by rw [octets_length, List.length_take, HXL.out]; have := HM.out k; omega
            have hmin : (octets (x.b.take 32)).length = Nat.min 32 (N - q * 32) := by rw [hlen]; have := HM.out k; exact (Nat.min_eq_left (by omega)).symm
            have hpos : 0 < (octets (x.b.take 32)).length → ∃ ad, B = some ad ∧ ∀ j v, (octets (x.b.take 32))[j]? = some v → (wr.alloc (Obj.cells #[.int .i64 (q : Int), .slice B 32 cb] 70)).cell? (ad.add j) = some v := by
              intro _
              obtain ⟨adb, hadb, hS, hcells⟩ := HCB.out (by rw [octets_length, HXL.out]; omega)
              refine ⟨adb, hadb, fun j u hu => ?_⟩
              have hu2 : (octets x.b)[j]? = some u := by
                simp only [octets, List.getElem?_map, List.getElem?_take] at hu ⊢
                split at hu
                · exact hu
                · cases hu
              have h1 := HGR.out.cell (hcells j u hu2) (by rw [add_block]; simpa [Value.ownBlock] using hS.2.1)
              exact (World.cell?_alloc_lt wr _ _ (World.block_lt_of_cell? wr _ h1)).trans h1
            have hfit : q * 32 + (octets (x.b.take 32)).length ≤ cur.length := by rw [hlen, HCL2.out]; have := HM.out k; omega
            have HW0 := Lib.hid hW0
            have HLEN := Lib.hid hlen
            have HMIN := Lib.hid hmin
            have HPOS := Lib.hid hpos
            have HFIT := Lib.hid hfit
            clear hW0 hlen hmin hpos hfit
            go_wp2_with fail
            go_region_held3 (fun w' => w'.cell? ⟨w.heap.size, 0, none⟩ = some (.slice (some ⟨gd, 0, none⟩) N cap) ∧ w'.cell? ⟨wr.heap.size, 0, none⟩ = some (.int .i64 (q : Int)) ∧ w'.cell? ⟨wr.heap.size, 1, none⟩ = some (.slice B 32 cb))
              (first | go_keep)
              (first
                | (refine step_copy_only rfl (.tmp 34) (.tmp 36) 22 22 rfl 5 Try.underlying22 HC8.out (some ⟨gd, q * 32, none⟩) B (N - q * 32) (cap - q * 32) 32 cb rfl rfl gd (q * 32) cur 5 HW0.out (octets (x.b.take 32)) HMIN.out (fun h => ⟨rfl, HPOS.out h⟩) HFIT.out octets_one ?_; intro w2 hsp2 hgr2 hsz2; have q0 := hgr2.cell_far ⟨w.heap.size, 0, none⟩ (by simp; omega) (by simp; omega); have q1 := hgr2.cell_far ⟨wr.heap.size, 0, none⟩ (by simp) (by simp; omega); have q2 := hgr2.cell_far ⟨wr.heap.size, 1, none⟩ (by simp) (by simp; omega); have HGR2 := Lib.hid hgr2; clear hgr2))
            go_wp2_with fail
            have hpn : x.pos.toNat = q := by rw [HQ.out]; omega
            have hstep := pour_step (fun _ => 32) HKX.out D.dry
            rw [hpn] at hstep
            have htl : (x.b.take 32).length = 32 := by rw [List.length_take, HXL.out]; have := HM.out k; omega
            have hml := HM.out k
            have hgr3 : W3.grownBy w2 (some gd) := by first | exact grown_trans (grown_drew (grown_trans HGR.out (World.grownBy_alloc wr _ _))) HGR2.out | exact grown_trans (grown_trans HGR.out (World.grownBy_alloc wr _ _)) HGR2.out
            refine ⟨⟨k + 1, splice cur (q * 32) (octets (x.b.take 32)), by omega, by go_num, hgr3, hsp2.out, ?_, ?_, ?_⟩, by simp [intOf]; omega⟩
            · rw [length_splice _ _ _ HFIT.out]; exact HCL2.out
            · rw [splice_take _ _ _ _ (by rw [octets_length, htl]; omega) (by rw [HCL2.out]; omega), HTK2.out, hstep, octets_splice]
            · rw [hstep, length_splice _ _ _ (by rw [htl, HPL.out]; omega)]; exact HPL.out
          · obtain rfl : k = L := by omega
            have hblk := (HGR.out.block w.heap.size hl1 (by simpa using hgg)).trans HV1.out
            have hblk2 := (HGR.out.block (w.heap.size + 1) hl2 (by simpa using hgg2)).trans HV2.out
            have c1 : ∀ i, wr.cell? ⟨w.heap.size, i, none⟩ = #[.slice (some ⟨gd, 0, none⟩) N cap, .slice B2 k k2, .int .i64 D.fuse, .bool D.dead][i]? := fun i => cell_of_row wr w.heap.size i _ _ _ hblk
            have c2 : ∀ i, wr.frozen? ⟨w.heap.size, i, none⟩ = false := fun i => by simp [World.frozen?, hblk]
            have hb1 : Below W0.heap.size W3 wr := (Below.refl _ _).grown HGR.out (by omega) (by simp; omega)
            have HB9 := Lib.hid hb1
            have HK1 := Lib.hid hblk
            have HK2 := Lib.hid hblk2
            clear e1 hb1 hblk hblk2
            go_upto_region 14 with fail
            have hwl : D.wet.take k = D.wet := List.take_of_length_le (by rw [HLW.out]; exact Nat.le_refl _)
            have hown4 : DiskOwn (wr.setCell { block := w.heap.size, off := 1 } (Value.slice none 0 0)) W0.heap.size (.agg #[.slice (some ⟨gd, 0, none⟩) N cap, .slice none 0 0, .int .i64 D.fuse, .bool D.dead]) (dryAll (fun _ => 32) D) := by
              have hpl := HPL.out
              have htk := HTK2.out
              rw [hwl] at hpl htk
              refine ⟨_, _, [], rfl, ⟨?_, .inr ⟨gd, cap, cur.toArray, ?_, hbgd, ?_, ?_, by unfold maxLen; omega, by simpa using HCL2.out, ?_⟩⟩, World.ownsRow_nil _ _ _ _, by simp [dryAll], fun j x hx => by simp [dryAll] at hx⟩
              · rw [octets_length]; simp [dryAll]
              · simp only [dryAll, hpl]
              · rw [blk_far (by simpa using fun e => hgg e.symm) _]; exact HCUR.out
              · simp only [dryAll, hpl]; exact hNc
              · simp only [dryAll, hpl]; simpa using htk
            have hs0 := blk_set HK1.out 1 (Value.slice none 0 0)
            have hs1 : (wr.setCell { block := w.heap.size, off := 1 } (Value.slice none 0 0)).heap[w.heap.size + 1]? = _ := (blk_far (by simp) _).trans HK2.out
            have hbw4 : Below w.heap.size w (wr.setCell { block := w.heap.size, off := 1 } (Value.slice none 0 0)) := (HBW.out.trans (HB9.out.mono (by omega))).setCell (Nat.le_refl _) _
            obtain ⟨W4, hW4⟩ : ∃ W4, W4 = wr.setCell { block := w.heap.size, off := 1 } (Value.slice none 0 0) := ⟨_, rfl⟩
            rw [← hW4] at hown4 hs0 hs1 hbw4 ⊢
            have HOWN4 := Lib.hid hown4
            have HBW4 := Lib.hid hbw4
            clear hW4 hown4 hbw4 c1 c2
            have b1 : ∀ i, W4.cell? ⟨w.heap.size, i, none⟩ = #[.slice (some ⟨gd, 0, none⟩) N cap, .slice none 0 0, .int .i64 D.fuse, .bool D.dead][i]? := fun i => cell_of_row W4 _ i _ _ _ hs0
            have b2 : ∀ i, W4.frozen? ⟨w.heap.size, i, none⟩ = false := fun i => by simp [World.frozen?, hs0]
            have r1 : ∀ i, W4.cell? ⟨w.heap.size + 1, i, none⟩ = _ := fun i => cell_of_row W4 _ i _ _ _ hs1
            have r2 : ∀ i, W4.frozen? ⟨w.heap.size + 1, i, none⟩ = false := fun i => by simp [World.frozen?, hs1]
            have hl3 : w.heap.size < W4.heap.size := (Array.getElem?_eq_some_iff.1 hs0).1
            have hl4 : w.heap.size + 1 < W4.heap.size := (Array.getElem?_eq_some_iff.1 hs1).1
            clear hs0 hs1
            go_wp2_with fail
            rw [HL.out, HE.out]
            refine bodyPost_ret (v := .tuple #[.agg #[.slice (some ⟨gd, 0, none⟩) N cap, .slice none 0 0, .int .i64 D.fuse, .bool D.dead], .int .i64 0]) ?_ rfl ?_
            · simp [results, Try.results24, go_sem, b1, b2, r1, r2, hl1, hl2, hl3, hl4]
            · refine ⟨_, rfl, DiskOwn.mono (base := W0.heap.size) ?_ (by omega), ?_⟩
              · repeat (refine DiskOwn.far ?_ (by simp; omega) _)
                exact HOWN4.out
              · repeat (refine Below.setCell ?_ (by simp) _)
                exact HBW4.out
    · replace hd : d.dead = true := by simpa using hd
      have HL := Lib.hid (show flush d = (Disk.zero, 11) by simp [flush, ready, HOK.out, hd])
      have HDD := Lib.hid hd
      clear hd
      go_enter Try.func24, Try.ntmps24
      go_wp2_with fail
      rw [← hW0]
      clear hW0
      refine HCK.out.mono ?_
      rintro e w1 ⟨rfl, hb1⟩
      have br1 := HBOX.out w1 hb1
      have br2 := HRES.out w1 hb1
      have b1 : ∀ i, w1.cell? ⟨w.heap.size, i, none⟩ = #[Value.slice A d.dry.length c, Value.slice A' d.wet.length c', .int .i64 d.fuse, .bool d.dead][i]? := fun i => cell_of_row w1 _ i _ _ _ br1
      have b2 : ∀ i, w1.frozen? ⟨w.heap.size, i, none⟩ = false := fun i => by simp [World.frozen?, br1]
      have r1 : ∀ i, w1.cell? ⟨w.heap.size + 1, i, none⟩ = #[.slice none 0 0, .slice none 0 0, .int .i64 0, .bool false][i]? := fun i => cell_of_row w1 _ i _ _ _ br2
      have r2 : ∀ i, w1.frozen? ⟨w.heap.size + 1, i, none⟩ = false := fun i => by simp [World.frozen?, br2]
      have hl1 : w.heap.size < w1.heap.size := by have := hb1.size; omega
      have hl2 : w.heap.size + 1 < w1.heap.size := by have := hb1.size; omega
      clear br1 br2
      rw [HDD.out] at b1
      have HB1 := Lib.hid hb1
      clear hb1
      go_wp2_with fail
      rw [HL.out]
      refine bodyPost_ret (v := .tuple #[.agg #[.slice none 0 0, .slice none 0 0, .int .i64 0, .bool false], .int .i64 11]) ?_ rfl ?_
      · simp [results, Try.results24, go_sem, b1, b2, r1, r2, hl1, hl2]
      · refine ⟨_, rfl, DiskOwn.mono (base := W0.heap.size) ?_ (by omega), ?_⟩
        · repeat (refine DiskOwn.far ?_ (by simp; omega) _)
          exact DiskOwn.zero _ _
        · repeat (refine Below.setCell ?_ (by simp) _)
          exact HB0.out.trans (HB1.out.mono (by omega))

end Go.Proofs.Ytikobhckkbicaaa
