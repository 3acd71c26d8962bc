/- Contract of the reference's Crash. -/
import Derived.Test.Ytikobhckkbicaaa1F
namespace Go.Proofs.Ytikobhckkbicaaa
open Go.RowKit Dk

set_option maxRecDepth 4000 in
set_option maxHeartbeats 4000000 in
theorem refCrash_any (v v0 : Value) (d : Disk) (keep : List UInt8) (w : World) (h : DiskR w (fun _ => True) v d) (hkp : Bs w (fun _ => True) v0 keep) :
    Calls Try.prog 28 #[v, v0] w (GivesDE w (crash d keep)) := by
  have HD := Lib.hid h
  obtain ⟨vd, vw, rfl, ⟨A, c, rfl, hac, ham, _⟩, A', c', xs, rfl, hac', ham', _, hx, hcw⟩ := h
  obtain ⟨A0, c0, rfl, hc1, hc2, _, hkc⟩ := hkp
  unfold maxLen at ham ham' hc2
  obtain ⟨W0, hW0⟩ : ∃ W0, W0 = (w.alloc (Obj.cells #[Value.slice A d.dry.length c, Value.slice A' d.wet.length c', .int .i64 d.fuse, .bool d.dead] 25)).alloc (Obj.cells #[.slice none 0 0, .slice none 0 0, .int .i64 0, .bool false] 25) := ⟨_, rfl⟩
  obtain ⟨hb0, hz0, hbox, hres⟩ := two_new w _ _ W0 hW0
  have HX := Lib.hid hx
  have HCW := Lib.hid hcw
  have HKC := Lib.hid hkc
  have HB0 := Lib.hid hb0
  have HRES := Lib.hid (fun W (hb : Below W0.heap.size W0 W) => below_past hres hb)
  have HBOX := Lib.hid (fun W (hb : Below W0.heap.size W0 W) => below_past hbox hb)
  have HCK := Lib.hid (refCheck_any _ d W0 (HD.out.below hb0))
  clear hbox hres hx hcw hkc
  cases hok : d.ok
  · have hck : check d = 1 := by simp [check, hok]
    have HL := Lib.hid (show crash d keep = (Disk.zero, 1) by simp [crash, hok])
    rw [hck] at HCK
    clear hok hck hb0
    go_enter Try.func28, Try.ntmps28
    go_wp2_with fail
    rw [← hW0]
    clear hW0
    refine HCK.out.mono ?_
    rintro e w1 ⟨rfl, hb1⟩
    have br1 := HBOX.out w1 hb1
    have br2 := HRES.out w1 hb1
    have b1 : ∀ i, w1.cell? ⟨w.heap.size, i, none⟩ = #[Value.slice A d.dry.length c, Value.slice A' d.wet.length c', .int .i64 d.fuse, .bool d.dead][i]? := fun i => cell_of_row w1 _ i _ _ _ br1
    have b2 : ∀ i, w1.frozen? ⟨w.heap.size, i, none⟩ = false := fun i => by simp [World.frozen?, br1]
    have r1 : ∀ i, w1.cell? ⟨w.heap.size + 1, i, none⟩ = #[.slice none 0 0, .slice none 0 0, .int .i64 0, .bool false][i]? := fun i => cell_of_row w1 _ i _ _ _ br2
    have r2 : ∀ i, w1.frozen? ⟨w.heap.size + 1, i, none⟩ = false := fun i => by simp [World.frozen?, br2]
    have hl1 : w.heap.size < w1.heap.size := by have := hb1.size; omega
    have hl2 : w.heap.size + 1 < w1.heap.size := by have := hb1.size; omega
    clear br1 br2
    have HB1 := Lib.hid hb1
    clear hb1
    go_wp2_with fail
    rw [HL.out]
    refine bodyPost_ret (v := .tuple #[.agg #[.slice none 0 0, .slice none 0 0, .int .i64 0, .bool false], .int .i64 1]) ?_ rfl ?_
    · simp [results, Try.results28, go_sem, b1, b2, r1, r2, hl1, hl2]
    · refine ⟨_, rfl, DiskOwn.mono (base := W0.heap.size) ?_ (by omega), ?_⟩
      · repeat (refine DiskOwn.far ?_ (by simp; omega) _)
        exact DiskOwn.zero _ _
      · repeat (refine Below.setCell ?_ (by simp) _)
        exact HB0.out.trans (HB1.out.mono (by omega))
  · have hck : check d = 0 := by simp [check, hok]
    rw [hck] at HCK
    have HCP := Lib.hid (fun W (hb : Below W0.heap.size W0 W) => refCopy_any _ d W ((HD.out.below hb0).below hb) (Disk.ok_modest hok))
    have HE := Lib.hid (show crash d keep = ({ dryAll (keepOf keep) d with fuse := -1, dead := false }, 0) by rw [crash, if_pos hok])
    obtain ⟨hk, hall⟩ : (32 ≤ d.dry.length ∧ d.dry.length ≤ 262144 ∧ d.dry.length % 32 = 0 ∧ d.wet.length ≤ 8192 ∧ -1 ≤ d.fuse ∧ d.fuse ≤ 1073741824) ∧ ∀ x ∈ d.wet, okWr d.dry.length x = true := by
      simp only [Disk.ok, Bool.and_eq_true, decide_eq_true_eq, List.all_eq_true] at hok
      exact hok
    obtain ⟨j1, j2, j3, j4, j5, j6⟩ := hk
    have HALL := Lib.hid hall
    have K3 := Lib.hid j3
    clear hck hb0 hok hall j3
    go_enter Try.func28, Try.ntmps28
    go_wp2_with fail
    rw [← hW0]
    clear hW0
    refine HCK.out.mono ?_
    rintro e w1 ⟨rfl, hb1⟩
    have br1 := HBOX.out w1 hb1
    have br2 := HRES.out w1 hb1
    have b1 : ∀ i, w1.cell? ⟨w.heap.size, i, none⟩ = #[Value.slice A d.dry.length c, Value.slice A' d.wet.length c', .int .i64 d.fuse, .bool d.dead][i]? := fun i => cell_of_row w1 _ i _ _ _ br1
    have b2 : ∀ i, w1.frozen? ⟨w.heap.size, i, none⟩ = false := fun i => by simp [World.frozen?, br1]
    have r1 : ∀ i, w1.cell? ⟨w.heap.size + 1, i, none⟩ = #[.slice none 0 0, .slice none 0 0, .int .i64 0, .bool false][i]? := fun i => cell_of_row w1 _ i _ _ _ br2
    have r2 : ∀ i, w1.frozen? ⟨w.heap.size + 1, i, none⟩ = false := fun i => by simp [World.frozen?, br2]
    have hl1 : w.heap.size < w1.heap.size := by have := hb1.size; omega
    have hl2 : w.heap.size + 1 < w1.heap.size := by have := hb1.size; omega
    clear br1 br2
    have HB1 := Lib.hid hb1
    clear hb1
    go_wp2_with fail
    clear b1 b2 r1 r2 hl1 hl2
    refine (HCP.out w1 HB1.out).mono ?_
    rintro e w2 ⟨v2, rfl, hown, hb2⟩
    have hown := hown.mono HB1.out.size
    have hb2 := HB1.out.trans (hb2.mono HB1.out.size)
    obtain ⟨vd1, vw1, ys, rfl, ho1, ho2, hy⟩ := hown
    obtain ⟨B1, k1, rfl⟩ := own_slice ho1
    obtain ⟨B2, k2, rfl⟩ := own_slice ho2
    have hz2 : W0.heap.size ≤ w2.heap.size := hb2.size
    obtain ⟨W3, hW3⟩ : ∃ W3, W3 = w2.alloc (Obj.cells #[.slice B1 d.dry.length k1, .slice B2 d.wet.length k2, .int .i64 d.fuse, .bool d.dead] 25) := ⟨_, rfl⟩
    have hb3 : Below W0.heap.size W0 W3 := by rw [hW3]; exact hb2.alloc hz2 _
    have hz3 : W3.heap.size = w2.heap.size + 1 := by rw [hW3]; simp
    have hgb : W3.heap[w2.heap.size]? = some (.cells #[.slice B1 d.dry.length k1, .slice B2 d.wet.length k2, .int .i64 d.fuse, .bool d.dead] 25 (0, 0)) := by rw [hW3]; exact heap_first _ _
    have ho3 : W3.ownsRow W0.heap.size 5 1 (.slice B1 d.dry.length k1) d.dry.length (octets d.dry) := by rw [hW3]; exact ho1.alloc _
    clear ho1 ho2 hy
    go_upto_region 4 with fail
    rw [← hW3]
    clear hW3 hb2
    obtain ⟨gb, hgbs⟩ : ∃ gb, gb = w2.heap.size := ⟨_, rfl⟩
    rw [← hgbs] at hgb hz3 hz2 ⊢
    clear hgbs
    rcases ho3.2 with ⟨_, h0⟩ | ⟨gd, cap, cur0, he, hbgd, hgd, hNc, hcm, hcs, htk⟩
    · omega
    injection he with he1 _ he3
    subst he1 he3
    have hgg : gb ≠ gd := fun e => by
      subst e
      rw [hgb] at hgd
      injection hgd with hgd
      injection hgd with _ h2
      exact absurd h2 (by decide)
    have hgdl : gd < W3.heap.size := by
      rcases Nat.lt_or_ge gd W3.heap.size with h | h
      · exact h
      · rw [Array.getElem?_eq_none h] at hgd; cases hgd
    have hbox := HBOX.out W3 hb3
    have e0 : W3.cell? ⟨w.heap.size, 1, none⟩ = some (.slice A' d.wet.length c') := (cell_of_row W3 _ 1 _ _ _ hbox).trans rfl
    have e1 : ∀ i, W3.cell? ⟨gb, i, none⟩ = #[.slice (some ⟨gd, 0, none⟩) d.dry.length k1, .slice B2 d.wet.length k2, .int .i64 d.fuse, .bool d.dead][i]? := fun i => cell_of_row W3 _ i _ _ _ hgb
    have HB3 := Lib.hid hb3
    have HGB := Lib.hid hgb
    have HBW := Lib.hid (HB0.out.trans (hb3.mono (by omega)))
    have HOO := Lib.hid (fun (p : Addr) u (h : w.cell? p = some u) => (HBW.out.cell (World.block_lt_of_cell? w p h)).trans h)
    obtain ⟨cap, hcap⟩ : ∃ cap, cap = k1 := ⟨_, rfl⟩
    subst hcap
    generalize hL : d.wet.length = L at *
    generalize hN : d.dry.length = N at *
    have HLW := Lib.hid hL
    have HN := Lib.hid hN
    have HGD := Lib.hid hgd
    have HCS := Lib.hid hcs
    have HTK := Lib.hid htk
    have HM := Lib.hid (fun i : Nat => show keepOf keep i ≤ 32 from Nat.min_le_right _ _)
    generalize hK : keep.length = K at *
    have HK := Lib.hid hK
    clear hL hN hgd hcs htk ho3 hgb hbox hK hb3 HCK HCP HBOX HD
    unfold maxLen at hcm
    go_wp2_with fail
    clear e0
    go_loopw [19] (fun i wr => DryInv d W3 gd L N cap (keepOf keep) i wr) (fun i _ => L - (intOf i).toNat)
    case atStart =>
      refine ⟨0, cur0.toList, by omega, rfl, World.grownBy.refl _ _, by simpa using HGD.out, by have := HCS.out; simpa using this, ?_, by simpa [pour] using HN.out⟩
      have := HTK.out
      simpa [pour] using this
    case round =>
      obtain ⟨k, cur, hk, rfl, hgr, hcur, hcl, htk, hpl⟩ := hrel
      have HCUR := Lib.hid hcur
      have HCL2 := Lib.hid hcl
      have HTK2 := Lib.hid htk
      have HPL := Lib.hid hpl
      have HGR := Lib.hid hgr
      clear hcur hcl htk hpl hgr
      by_cases hlt : k < L
      · have hkx : ∃ x, d.wet[k]? = some x := ⟨_, List.getElem?_eq_getElem (by rw [HLW.out]; exact hlt)⟩
        obtain ⟨x, hkx⟩ := hkx
        obtain ⟨f1, vb, f2, B, cb, rfl, hb1, hb2, _, hcb⟩ := HX.out.2 k x hkx
        obtain ⟨ad, hA, _, hcell⟩ := HCW.out (by rw [HX.out.1, HLW.out]; omega)
        subst hA
        have hxo := HALL.out x (List.mem_of_getElem? hkx)
        simp only [okWr, decide_eq_true_eq] at hxo
        obtain ⟨hxl, hp0, hp1⟩ := hxo
        rw [hxl] at hb1 f2
        obtain ⟨q, hq⟩ : ∃ q : Nat, x.pos = (q : Int) := ⟨x.pos.toNat, by omega⟩
        rw [hq] at f1 hp0 hp1
        have hqn : q * 32 + 32 ≤ N := by have := K3.out; omega
        have HO := Lib.hid (fun (p : Addr) u (h : w.cell? p = some u) => HGR.out.cell (HOO.out p u h) (by have := World.block_lt_of_cell? w p h; simp; omega))
        have c1 : wr.cell? (ad.add (k * 2)) = some (.int .i64 (q : Int)) := HO.out _ _ (hcell _ _ f1)
        have c2 := cell_next (HO.out _ _ (hcell _ _ f2))
        have hwl : W3.heap.size ≤ wr.heap.size := HGR.out.size
        have hgr2 : gb < wr.heap.size := by omega
        have hgd2 : gd < wr.heap.size := by omega
        obtain ⟨Wq, hWq⟩ : ∃ Wq, Wq = wr.alloc (Obj.cells #[.int .i64 (q : Int), .slice B 32 cb] 70) := ⟨_, rfl⟩
        have hqb : Below wr.heap.size wr Wq := by rw [hWq]; exact below_new _ _
        have hqz : Wq.heap.size = wr.heap.size + 1 := by rw [hWq]; simp
        have hqx : Wq.heap[wr.heap.size]? = some (.cells #[.int .i64 (q : Int), .slice B 32 cb] 70 (0, 0)) := by rw [hWq]; exact heap_first _ _
        have c3 : Wq.cell? ⟨gb, 0, none⟩ = some (.slice (some ⟨gd, 0, none⟩) N cap) := (hqb.cell (p := ⟨gb, 0, none⟩) hgr2).trans (HGR.out.cell ((e1 0).trans rfl) (by simpa using hgg))
        have c4 : Wq.cell? ⟨wr.heap.size, 0, none⟩ = some (.int .i64 (q : Int)) := (cell_of_row Wq _ 0 _ _ _ hqx).trans rfl
        have c5 : Wq.cell? ⟨wr.heap.size, 1, none⟩ = some (.slice B 32 cb) := (cell_of_row Wq _ 1 _ _ _ hqx).trans rfl
        have HOQ := Lib.hid (fun (p : Addr) u (h : w.cell? p = some u) => (hqb.cell (World.block_lt_of_cell? wr p (HO.out p u h))).trans (HO.out p u h))
        have HGQ := Lib.hid (show W3.grownBy Wq (some gd) by rw [hWq]; exact grown_trans HGR.out (World.grownBy_alloc wr _ _))
        have hW0 : Wq.heap[gd]? = some (.cells cur.toArray 5 (0, 0)) := (hqb.block gd hgd2).trans HCUR.out
        have HKX := Lib.hid hkx
        have HXL := Lib.hid hxl
        have HQ := Lib.hid hq
        have hcl8 : (Try.prog.info? 5).map (·.size) = some 1 := by kernel_rfl
        have HC8 := Lib.hid hcl8
        have w1' : IntKind.i64.wrap (32 * (q : Int)) = (q : Int) * 32 := (IntWalk.i64_in _ (by omega)).trans (Int.mul_comm _ _)
        have w2' : (0 : Int) ≤ (q : Int) * 32 := by omega
        have w3' : ((q : Int) * 32).toNat = q * 32 := by omega
        have w4' : (q : Int) * 32 ≤ (N : Int) := by omega
        have w5' : q * 32 < cap := by omega
        have w6' : ¬ cap = q * 32 := by omega
        have hmk := HM.out k
        have hlen : (octets (x.b.take (keepOf keep k))).length = keepOf keep k := by rw [octets_length, List.length_take, HXL.out]; omega
        have hmin : (octets (x.b.take (keepOf keep k))).length = Nat.min (keepOf keep k) (N - q * 32) := by rw [hlen]; exact (Nat.min_eq_left (by omega)).symm
        have hpos : 0 < (octets (x.b.take (keepOf keep k))).length → ∃ ad, B = some ad ∧ ∀ j v, (octets (x.b.take (keepOf keep k)))[j]? = some v → Wq.cell? (ad.add j) = some v := by
          intro _
          obtain ⟨adb, hadb, _, hcells⟩ := hcb (by rw [octets_length, HXL.out]; omega)
          refine ⟨adb, hadb, fun j u hu => ?_⟩
          have hu2 : (octets x.b)[j]? = some u := by
            simp only [octets, List.getElem?_map, List.getElem?_take] at hu ⊢
            split at hu
            · exact hu
            · cases hu
          exact HOQ.out _ _ (hcells j u hu2)
        have hfit : q * 32 + (octets (x.b.take (keepOf keep k))).length ≤ cur.length := by rw [hlen, HCL2.out]; omega
        have HW0 := Lib.hid hW0
        have HLEN := Lib.hid hlen
        have HMIN := Lib.hid hmin
        have HPOS := Lib.hid hpos
        have HFIT := Lib.hid hfit
        have HWQ := Lib.hid hWq
        clear hW0 hlen hmin hpos hfit hWq hqb hqx hkx hxl hq hcb f1 f2 hcell hcl8
        go_upto_if 27 with fail
        rw [← HWQ.out]
        clear c1 c2
        go_cut [9] (fun s9 wx => s9 = .int .i64 (keepOf keep k : Int) ∧ wx = Wq)
        case first =>
          by_cases hkk : k < K
          · obtain ⟨y, hy⟩ : ∃ y, keep[k]? = some y := ⟨_, List.getElem?_eq_getElem (by rw [HK.out]; exact hkk)⟩
            obtain ⟨ak, hA0, _, hkcell⟩ := HKC.out (by rw [octets_length, HK.out]; omega)
            subst hA0
            have c7 := HOQ.out _ _ (hkcell k _ (octets_at hy))
            have hy8 : y.toNat < 256 := y.toNat_lt
            have HY := Lib.hid hy
            clear hy hkcell
            by_cases h32 : y.toNat ≤ 32
            · go_wp2_with fail
              go_meet
              exact ⟨congrArg _ (by rw [keepOf, HY.out]; simp; omega), rfl⟩
            · go_wp2_with fail
              go_meet
              exact ⟨congrArg _ (by rw [keepOf, HY.out]; simp; omega), rfl⟩
          · go_wp2_with fail
            go_meet
            exact ⟨congrArg _ (by rw [keepOf, List.getElem?_eq_none (by rw [HK.out]; omega)]; rfl), rfl⟩
        case rest =>
          obtain ⟨rfl, rfl⟩ := hcut
          have w7' : (0 : Int) ≤ (keepOf keep k : Int) := by omega
          have w8' : (keepOf keep k : Int) ≤ 32 := by omega
          have w9' : (keepOf keep k : Int) ≤ (cb : Int) := by omega
          go_wp2_with fail
          go_region_held3 (fun w' => w'.cell? ⟨gb, 0, none⟩ = some (.slice (some ⟨gd, 0, none⟩) N cap) ∧ w'.cell? ⟨wr.heap.size, 0, none⟩ = some (.int .i64 (q : Int)) ∧ w'.cell? ⟨wr.heap.size, 1, none⟩ = some (.slice B 32 cb))
            (first | go_keep)
            (first
              | (refine step_copy_only rfl (.tmp 39) (.tmp 43) 22 22 rfl 5 Try.underlying22 HC8.out (some ⟨gd, q * 32, none⟩) B (N - q * 32) (cap - q * 32) (keepOf keep k) cb rfl rfl gd (q * 32) cur 5 HW0.out (octets (x.b.take (keepOf keep k))) HMIN.out (fun h => ⟨rfl, HPOS.out h⟩) HFIT.out octets_one ?_; intro w2 hsp2 hgr2 hsz2; have q0 := hgr2.cell_far ⟨gb, 0, none⟩ (by simp; omega) (by simp; omega); have q1 := hgr2.cell_far ⟨wr.heap.size, 0, none⟩ (by simp; omega) (by simp; omega); have q2 := hgr2.cell_far ⟨wr.heap.size, 1, none⟩ (by simp; omega) (by simp; omega); have HGR2 := Lib.hid hgr2; clear hgr2))
          go_wp2_with fail
          have hpn : x.pos.toNat = q := by rw [HQ.out]; omega
          have hstep := pour_step (keepOf keep) HKX.out d.dry
          rw [hpn] at hstep
          have htl : (x.b.take (keepOf keep k)).length = keepOf keep k := by rw [List.length_take, HXL.out]; omega
          have hgr3 : W3.grownBy w2 (some gd) := by first | exact grown_trans HGQ.out HGR2.out | exact grown_trans (grown_drew HGQ.out) HGR2.out
          refine ⟨⟨k + 1, splice cur (q * 32) (octets (x.b.take (keepOf keep k))), by omega, by go_num, hgr3, hsp2.out, ?_, ?_, ?_⟩, by simp [intOf]; omega⟩
          · rw [length_splice _ _ _ HFIT.out]; exact HCL2.out
          · rw [splice_take _ _ _ _ (by rw [octets_length, htl]; omega) (by rw [HCL2.out]; omega), HTK2.out, hstep, octets_splice]
          · rw [hstep, length_splice _ _ _ (by rw [htl, HPL.out]; omega)]; exact HPL.out
      · obtain rfl : k = L := by omega
        have hblk := (HGR.out.block gb (by omega) (by simpa using hgg)).trans HGB.out
        have hb1 : Below W0.heap.size W3 wr := (Below.refl _ _).grown HGR.out (by omega) (by simp; omega)
        have hb4 : Below W0.heap.size W0 wr := HB3.out.trans hb1
        have hblk2 := HRES.out wr hb4
        have hlt2 : gb < wr.heap.size := (Array.getElem?_eq_some_iff.1 hblk).1
        have c2 : ∀ i, wr.frozen? ⟨gb, i, none⟩ = false := fun i => by simp [World.frozen?, hblk]
        have c1 : ∀ i, wr.cell? ⟨gb, i, none⟩ = #[.slice (some ⟨gd, 0, none⟩) N cap, .slice B2 k k2, .int .i64 d.fuse, .bool d.dead][i]? := fun i => cell_of_row wr gb i _ _ _ hblk
        have HB9 := Lib.hid hb4
        have HK1 := Lib.hid hblk
        have HK2 := Lib.hid hblk2
        clear e1 hb1 hblk hblk2 hb4
        go_upto_region 15 with fail
        have hwl : d.wet.take k = d.wet := List.take_of_length_le (by rw [HLW.out]; exact Nat.le_refl _)
        obtain ⟨W4, hW4⟩ : ∃ W4, W4 = ((wr.setCell { block := gb, off := 1 } (Value.slice none 0 0)).setCell { block := gb, off := 2 } (Value.int IntKind.i64 (-1))).setCell { block := gb, off := 3 } (Value.bool false) := ⟨_, rfl⟩
        rw [← hW4]
        have hown4 : DiskOwn W4 W0.heap.size (.agg #[.slice (some ⟨gd, 0, none⟩) N cap, .slice none 0 0, .int .i64 (-1), .bool false]) { dryAll (keepOf keep) d with fuse := -1, dead := false } := by
          have hpl := HPL.out
          have htk := HTK2.out
          rw [hwl] at hpl htk
          refine ⟨_, _, [], rfl, ⟨?_, .inr ⟨gd, cap, cur.toArray, ?_, hbgd, ?_, ?_, by unfold maxLen; omega, by simpa using HCL2.out, ?_⟩⟩, World.ownsRow_nil _ _ _ _, by simp [dryAll], fun j x hx => by simp [dryAll] at hx⟩
          · rw [octets_length]; simp [dryAll]
          · simp only [dryAll, hpl]
          · rw [hW4, blk_far (by simpa using fun e => hgg e.symm) _, blk_far (by simpa using fun e => hgg e.symm) _, blk_far (by simpa using fun e => hgg e.symm) _]; exact HCUR.out
          · simp only [dryAll, hpl]; exact hNc
          · simp only [dryAll, hpl]; simpa using htk
        have hs0 : W4.heap[gb]? = some (.cells #[.slice (some ⟨gd, 0, none⟩) N cap, .slice none 0 0, .int .i64 (-1), .bool false] 25 (0, 0)) := by
          rw [hW4]
          exact blk_set (blk_set (blk_set HK1.out 1 _) 2 _) 3 _
        have hs1 : W4.heap[w.heap.size + 1]? = some (.cells #[.slice none 0 0, .slice none 0 0, .int .i64 0, .bool false] 25 (0, 0)) := by
          rw [hW4, blk_far (by simp; omega) _, blk_far (by simp; omega) _, blk_far (by simp; omega) _]
          exact HK2.out
        have hbw4 : Below w.heap.size w W4 := by
          rw [hW4]
          exact (((HB0.out.trans (HB9.out.mono (by omega))).setCell (by simp; omega) _).setCell (by simp; omega) _).setCell (by simp; omega) _
        have HOWN4 := Lib.hid hown4
        have HBW4 := Lib.hid hbw4
        clear hW4 hown4 hbw4 c1 c2
        have b1 : ∀ i, W4.cell? ⟨gb, i, none⟩ = #[.slice (some ⟨gd, 0, none⟩) N cap, .slice none 0 0, .int .i64 (-1), .bool false][i]? := fun i => cell_of_row W4 _ i _ _ _ hs0
        have b2 : ∀ i, W4.frozen? ⟨gb, i, none⟩ = false := fun i => by simp [World.frozen?, hs0]
        have r1 : ∀ i, W4.cell? ⟨w.heap.size + 1, i, none⟩ = #[.slice none 0 0, .slice none 0 0, .int .i64 0, .bool false][i]? := fun i => cell_of_row W4 _ i _ _ _ hs1
        have r2 : ∀ i, W4.frozen? ⟨w.heap.size + 1, i, none⟩ = false := fun i => by simp [World.frozen?, hs1]
        have hl1 : gb < W4.heap.size := (Array.getElem?_eq_some_iff.1 hs0).1
        have hl2 : w.heap.size + 1 < W4.heap.size := (Array.getElem?_eq_some_iff.1 hs1).1
        clear hs0 hs1
        go_wp2_with fail
        rw [HE.out]
        refine bodyPost_ret (v := .tuple #[.agg #[.slice (some ⟨gd, 0, none⟩) N cap, .slice none 0 0, .int .i64 (-1), .bool false], .int .i64 0]) ?_ rfl ?_
        · simp [results, Try.results28, go_sem, b1, b2, r1, r2, hl1, hl2]
        · refine ⟨_, rfl, DiskOwn.mono (base := W0.heap.size) ?_ (by omega), ?_⟩
          · repeat (refine DiskOwn.far ?_ (by simp; omega) _)
            exact HOWN4.out
          · repeat (refine Below.setCell ?_ (by simp) _)
            exact HBW4.out

end Go.Proofs.Ytikobhckkbicaaa
