/- Contract of the reference's Copy. -/
import Derived.Test.YtikobhckkbicaaaW
import Derived.Deep.RegionHeld3
import Derived.Deep.DeepCutAuto
namespace Go.Proofs.Ytikobhckkbicaaa
open Go.RowKit Dk

/-- Small enough to be copied. -/
def Modest (d : Disk) : Prop := d.dry.length ≤ 1048576 ∧ d.wet.length ≤ 65536 ∧ ∀ x ∈ d.wet, x.b.length ≤ 1048576

/-- The disk with its first k writes. -/
def upTo (k : Nat) (d : Disk) : Disk := { d with wet := d.wet.take k }

theorem upTo_zero (d : Disk) : upTo 0 d = { d with wet := [] } := by simp [upTo]
theorem upTo_all (d : Disk) : upTo d.wet.length d = d := by simp [upTo]
theorem upTo_next (d : Disk) (k : Nat) (x : Wr) (h : d.wet[k]? = some x) : put x.pos x.b (upTo k d) = upTo (k + 1) d := by
  have e : d.wet.take (k + 1) = d.wet.take k ++ [x] := by rw [List.take_add_one, h]; rfl
  simp only [put, upTo, e]
theorem upTo_length (d : Disk) (k : Nat) (h : k ≤ d.wet.length) : (upTo k d).wet.length = k := by simp [upTo]; omega

set_option maxRecDepth 4000 in
set_option maxHeartbeats 4000000 in
theorem refCopy_any (v : Value) (d : Disk) (w : World) (h : DiskR w (fun _ => True) v d) (hs : Modest d) :
    Calls Try.prog 18 #[v] w fun e w' => ∃ v', e = .returned v' ∧ DiskOwn w' w.heap.size v' d ∧ Below w.heap.size w w' := by
  obtain ⟨hs1, hs2, hs3⟩ := hs
  obtain ⟨i0, hi0, hz0, hz1, hz2⟩ := info_parts info8
  obtain ⟨iw, hiw, hzw, hsw, hbw⟩ := info_parts infoW
  obtain ⟨vd, vw, rfl, ⟨A, c, rfl, hc1, hc2, hA, hcd⟩, A', c', xs, rfl, hc1', hc2', hA', hx, hcw⟩ := h
  unfold maxLen at hc2 hc2'
  have HCD := Lib.hid hcd
  have HX := Lib.hid hx
  have HCW := Lib.hid hcw
  have HS3 := Lib.hid hs3
  clear hx hcw hA' hcd hA hs3
  have HOL := Lib.hid (show (octets d.dry).length = d.dry.length * 1 by rw [octets_length, Nat.mul_one])
  go_enter Try.func18, Try.ntmps18
  go_upto_region 1 with fail
  go_cut [3] (fun s3 wx => CloneMid ((w.alloc (Obj.cells #[Value.slice A d.dry.length c, Value.slice A' d.wet.length c', .int .i64 d.fuse, .bool d.dead] 25)).alloc (Obj.cells #[.slice none 0 0, .slice none 0 0, .int .i64 0, .bool false] 25)) (w.heap.size + 2) d s3 wx)
  case first =>
    have KS : ∀ w', Below (w.heap.size + 2) ((w.alloc (Obj.cells #[Value.slice A d.dry.length c, Value.slice A' d.wet.length c', .int .i64 d.fuse, .bool d.dead] 25)).alloc (Obj.cells #[.slice none 0 0, .slice none 0 0, .int .i64 0, .bool false] 25)) w' →
        w'.cell? ⟨w.heap.size, 0, none⟩ = some (.slice A d.dry.length c) ∧ w'.cell? ⟨w.heap.size, 2, none⟩ = some (.int .i64 d.fuse) ∧ w'.cell? ⟨w.heap.size, 3, none⟩ = some (.bool d.dead) := by
      intro w' hb
      refine ⟨(hb.cell (by simp)).trans ?_, (hb.cell (by simp)).trans ?_, (hb.cell (by simp)).trans ?_⟩ <;> simp [go_sem]
    have HKS := Lib.hid KS
    clear KS
    go_region_held3 (fun w' => w'.cell? ⟨w.heap.size, 0, none⟩ = some (.slice A d.dry.length c) ∧ w'.cell? ⟨w.heap.size, 2, none⟩ = some (.int .i64 d.fuse) ∧ w'.cell? ⟨w.heap.size, 3, none⟩ = some (.bool d.dead))
      (first | (refine HKS.out _ ?_; repeat (first | exact Below.refl _ _ | assumption | refine Below.drew ?_ | (refine Below.alloc ?_ (by first | omega | (simp; done) | (simp; omega)) _) | (refine Below.setCell ?_ (by first | omega | (simp; done) | (simp; omega)) _))))
      (first | (refine step_append_cells _ rfl (.const (.slice none 0 0)) (.tmp 7) 22 rfl (w.heap.size + 2) 5 i0 (.int .u8 0) 1 1 Try.underlying22 hi0 hz0 hz1 hz2 rfl (by decide) (.slice none 0 0) 0 [] rfl (World.ownsRow_nil _ _ _ _) (fun _ => True) A d.dry.length c (octets d.dry) rfl HOL.out ?_ octets_one ?_ ?_ ?_ ?_
                focus (exact HCD.out.below (by repeat (first | exact Below.refl _ _ | refine Below.drew ?_ | (refine Below.alloc ?_ (by first | omega | (simp; done) | (simp; omega)) _))))
                focus (unfold maxLen; omega)
                focus omega
                focus (first | omega | (simp; done) | (simp; omega))
                rintro v1 w1 hown hgr1 -
                have hB1 : Below (w.heap.size + 2) ((w.alloc (Obj.cells #[Value.slice A d.dry.length c, Value.slice A' d.wet.length c', .int .i64 d.fuse, .bool d.dead] 25)).alloc (Obj.cells #[.slice none 0 0, .slice none 0 0, .int .i64 0, .bool false] 25)) w1 := Below.grown (by repeat (first | exact Below.refl _ _ | refine Below.drew ?_ | (refine Below.alloc ?_ (by first | omega | (simp; done) | (simp; omega)) _))) hgr1 (by first | omega | (simp; done) | (simp; omega)) (fun j hj => nomatch (show (none : Option Nat) = some j from hj))
                have hbe := (Below.refl _ _).grown hgr1 (Nat.le_refl _) (fun j hj => nomatch (show (none : Option Nat) = some j from hj))
                simp only [Nat.zero_add, List.nil_append] at hown
                obtain ⟨A1, k1, rfl⟩ := own_slice hown
                have HO := Lib.hid hown
                clear hown hgr1
                have hsz := hB1.size
                simp only [World.size_alloc] at hsz
                obtain ⟨hcl, hfr⟩ := old_cells hbe
                (try simp only [World.size_drew, World.size_alloc] at hcl hfr)
                have hs2 := hbe.size
                (try simp only [World.size_drew, World.size_alloc] at hs2)))
    · have hO := own_mono HO.out (base' := w.heap.size + 2) (by first | omega | (simp; done) | (simp; omega))
      have hfin := (⟨w1.heap.size, A1, k1, rfl, hsz, heap_alloc_new w1 _, hO.alloc _, hB1.alloc hsz _⟩ : CloneMid _ (w.heap.size + 2) d (.pointer (some ⟨w1.heap.size, 0, none⟩)) (w1.alloc (Obj.cells #[Value.slice A1 d.dry.length k1, Value.slice none 0 0, Value.int IntKind.i64 d.fuse, Value.bool d.dead] 25)))
      have HF := Lib.hid hfin
      clear hfin hO
      go_wp2_with fail
      go_meet
      exact HF.out
    · have h0 : w1.heap[w.heap.size + 1 + 1]? = some (.cells #[.slice none 0 0, .slice none 0 0, .int .i64 0, .bool false] 25 (0, 0)) := (hbe.block _ (by first | omega | (simp; done) | (simp; omega))).trans (heap_third w _ _ _)
      have h4 := blk_set (blk_set (blk_set (blk_set h0 0 (Value.slice A1 d.dry.length k1)) 1 (Value.slice none 0 0)) 2 (Value.int IntKind.i64 d.fuse)) 3 (Value.bool d.dead)
      have hne : ∀ b, (Value.slice A1 d.dry.length k1).ownBlock = some b → b ≠ w.heap.size + 1 + 1 := own_blk_ne HO.out h0 (by decide)
      have hO := own_mono HO.out (base' := w.heap.size + 2) (by first | omega | (simp; done) | (simp; omega))
      have hfin : CloneMid ((w.alloc (Obj.cells #[Value.slice A d.dry.length c, Value.slice A' d.wet.length c', .int .i64 d.fuse, .bool d.dead] 25)).alloc (Obj.cells #[.slice none 0 0, .slice none 0 0, .int .i64 0, .bool false] 25)) (w.heap.size + 2) d (.pointer (some ⟨w.heap.size + 1 + 1, 0, none⟩)) ((((w1.setCell { block := w.heap.size + 1 + 1, off := 0 } (Value.slice A1 d.dry.length k1)).setCell { block := w.heap.size + 1 + 1, off := 1 } (Value.slice none 0 0)).setCell { block := w.heap.size + 1 + 1, off := 2 } (Value.int IntKind.i64 d.fuse)).setCell { block := w.heap.size + 1 + 1, off := 3 } (Value.bool d.dead)) :=
        ⟨w.heap.size + 1 + 1, A1, k1, rfl, by omega, h4, own_far (own_far (own_far (own_far hO hne _) hne _) hne _) hne _, (((hB1.setCell (by simp) _).setCell (by simp) _).setCell (by simp) _).setCell (by simp) _⟩
      have HF := Lib.hid hfin
      clear hfin hO hne h4 h0
      go_wp2_with fail
      go_meet
      exact HF.out
  case rest =>
    obtain ⟨g, Ad, kd, rfl, hg, hblk, hown, hbc⟩ := hcut
    obtain ⟨W2, hW2⟩ : ∃ W2, W2 = ((w.alloc (Obj.cells #[Value.slice A d.dry.length c, Value.slice A' d.wet.length c', .int .i64 d.fuse, .bool d.dead] 25)).alloc (Obj.cells #[.slice none 0 0, .slice none 0 0, .int .i64 0, .bool false] 25)) := ⟨_, rfl⟩
    rw [← hW2] at hbc
    have hzW : W2.heap.size = w.heap.size + 2 := by rw [hW2]; simp
    have hbw : Below w.heap.size w W2 := by rw [hW2]; exact ((Below.refl _ _).alloc (Nat.le_refl _) _).alloc (by simp) _
    have hbox : W2.heap[w.heap.size]? = some (.cells #[Value.slice A d.dry.length c, Value.slice A' d.wet.length c', .int .i64 d.fuse, .bool d.dead] 25 (0, 0)) := by
      rw [hW2, Below.heap_alloc _ _ _ (by simp)]; exact heap_first _ _
    have hres : W2.heap[w.heap.size + 1]? = some (.cells #[.slice none 0 0, .slice none 0 0, .int .i64 0, .bool false] 25 (0, 0)) := by
      rw [hW2]; exact heap_second _ _ _
    clear hW2
    have hin : DiskIn wc (w.heap.size + 2) g (upTo 0 d) := by
      rw [upTo_zero]
      exact ⟨_, _, [], hblk, hg, hown, World.ownsRow_nil _ _ _ _, by simp, fun j x hx => by simp at hx⟩
    have HIN := Lib.hid hin
    have HBC := Lib.hid hbc
    have HRES := Lib.hid hres
    have HBW := Lib.hid hbw
    have e0 : wc.cell? ⟨w.heap.size, 1, none⟩ = some (Value.slice A' d.wet.length c') := (hbc.cell (p := ⟨w.heap.size, 1, none⟩) (by simp)).trans ((cell_of_row W2 _ 1 _ _ _ hbox).trans rfl)
    have hwz : w.heap.size + 2 ≤ wc.heap.size := by have := hbc.size; omega
    clear hin hbc hres hbw hbox hblk hown
    generalize hL : d.wet.length = L at *
    have HL := Lib.hid hL
    clear hL
    go_wp2_with fail
    clear e0
    go_loopw [17] (fun i wr => ∃ k : Nat, k ≤ L ∧ i = .int .i64 (k : Int) ∧ DiskIn wr (w.heap.size + 2) g (upTo k d) ∧ Below (w.heap.size + 2) W2 wr) (fun i _ => L - (intOf i).toNat)
    case atStart => exact ⟨0, by omega, rfl, HIN.out, HBC.out⟩
    case round =>
      obtain ⟨k, hk, rfl, hdi, hbe⟩ := hrel
      by_cases hlt : k < L
      · obtain ⟨x, hkx⟩ : ∃ x, d.wet[k]? = some x := ⟨_, List.getElem?_eq_getElem (by rw [HL.out]; exact hlt)⟩
        obtain ⟨e1, vb, e2, B, cb, rfl, hb1, hb2, hb3, hcb⟩ := HX.out.2 k x hkx
        obtain ⟨ad, hA, _, hcell⟩ := HCW.out (by rw [HX.out.1, HL.out]; omega)
        subst hA
        unfold maxLen at hb2
        have hxl : x.b.length ≤ 1048576 := HS3.out x (List.mem_of_getElem? hkx)
        have hwl := upTo_length d k (by rw [HL.out]; exact hk)
        have hnx := upTo_next d k x hkx
        obtain ⟨D, hD⟩ : ∃ D, D = upTo k d := ⟨_, rfl⟩
        rw [← hD] at hdi hwl hnx
        clear hD hkx
        have HNX := Lib.hid hnx
        have HOX := Lib.hid (show (octets x.b).length = x.b.length * 1 by rw [octets_length, Nat.mul_one])
        obtain ⟨v1, v2, ys, hg1, hbg, ho1, ho2, hy⟩ := hdi
        have hbww : Below w.heap.size w wr := HBW.out.trans (hbe.mono (by omega))
        have ho : ∀ p u, w.cell? p = some u → wr.cell? p = some u := fun p u h => (hbww.cell (World.block_lt_of_cell? w p h)).trans h
        have c1 : wr.cell? (ad.add (k * 2)) = some (.int .i64 x.pos) := ho _ _ (hcell _ _ e1)
        have c2 := cell_next (ho _ _ (hcell _ _ e2))
        have hwr : w.heap.size + 2 ≤ wr.heap.size := by have := hbe.size; omega
        have hgl : g < wr.heap.size := by
          rcases Nat.lt_or_ge g wr.heap.size with h | h
          · exact h
          · rw [Array.getElem?_eq_none h] at hg1; cases hg1
        obtain ⟨wq, hwq⟩ : ∃ wq, wq = wr.alloc (Obj.cells #[.int .i64 x.pos, .slice B x.b.length cb] 70) := ⟨_, rfl⟩
        have hq : Below wr.heap.size wr wq := by rw [hwq]; exact below_new _ _
        have hqz : wq.heap.size = wr.heap.size + 1 := by rw [hwq]; simp
        have hbox : wq.heap[wr.heap.size]? = some (.cells #[.int .i64 x.pos, .slice B x.b.length cb] 70 (0, 0)) := by rw [hwq]; exact heap_first _ _
        have HG := Lib.hid ((hq.block g hgl).trans hg1)
        have HO1 := Lib.hid (own_below ho1 hq fun b hb => (ho1.lt b hb).2)
        have HO2 := Lib.hid (own_below ho2 hq fun b hb => (ho2.lt b hb).2)
        have HY := Lib.hid (hy.below hq)
        have HCB := Lib.hid (fun W (h : Below wq.heap.size wq W) => (hcb.below hbww).below (hq.trans (h.mono (by omega))))
        have HBQ := Lib.hid (hbe.trans (hq.mono (by omega)))
        have q4 : wq.cell? ⟨wr.heap.size, 0, none⟩ = some (.int .i64 x.pos) := (cell_of_row wq _ 0 _ _ _ hbox).trans rfl
        have q5 : wq.cell? ⟨wr.heap.size, 1, none⟩ = some (.slice B x.b.length cb) := (cell_of_row wq _ 1 _ _ _ hbox).trans rfl
        obtain ⟨Ad', kd', rfl⟩ := own_slice ho1
        obtain ⟨A2, k2, rfl⟩ := own_slice ho2
        have hgq : g < wq.heap.size := by omega
        have q3 : wq.cell? ⟨g, 1, none⟩ = some (.slice A2 D.wet.length k2) := (cell_of_row wq g 1 _ _ _ HG.out).trans rfl
        have hne : ∀ j, (Value.slice A2 D.wet.length k2).ownBlock = some j → j ≠ g := own_blk_ne HO2.out HG.out (by decide)
        have HNE := Lib.hid hne
        have Q3 := Lib.hid q3
        have Q4 := Lib.hid q4
        have Q5 := Lib.hid q5
        have HWQ := Lib.hid hwq
        clear ho hcell e1 e2 hg1 ho1 ho2 hy hbox hcb hbww hq hbe hb3 hne hnx
        generalize hN : D.wet.length = N at *
        have HN := Lib.hid hN
        clear hN
        go_wp2_with fail
        rw [← HWQ.out]
        have HWZ := Lib.hid hwz
        subst hwl
        clear hwq c1 c2 hwz
        go_region_law (first
          | (refine step_append_cells _ rfl (.tmp 22) (.tmp 29) 23 rfl (w.heap.size + 2) 70 iw _ 2 32 Try.underlying23 hiw hzw hsw hbw rfl (by decide) (.slice A2 N k2) N ys rfl (own_below HO2.out (HBE.out.alloc (by omega) _) fun k hk => (HO2.out.lt k hk).2) (fun _ => True) (some ⟨w1.heap.size, 0, none⟩) 1 1 [.int .i64 x.pos, .slice A1 x.b.length k1] rfl rfl (cells_new (heap_alloc_new w1 _) trivial) (by simp [Value.oneCell']) (by unfold maxLen; omega) (by omega) (by simp; omega) ?_
             intro v2 w2 hown2 hgr2 hat2
             have s1 : w2.heap[g]? = some (.cells #[.slice Ad' D.dry.length kd', .slice A2 N k2, .int .i64 D.fuse, .bool D.dead] 25 (0, 0)) := ((hgr2.block g (by simp; omega) (fun e => HNE.out g e.symm rfl)).trans ((HBE.out.alloc (by omega) _).block g hgq)).trans HG.out
             have s2 : w2.cell? ⟨g, 1, none⟩ = some (.slice A2 N k2) := (cell_of_row w2 g 1 _ _ _ s1).trans rfl
             have s3 : w2.frozen? ⟨g, 1, none⟩ = false := by simp [World.frozen?, s1]
             obtain ⟨A3, k3, rfl⟩ := own_slice hown2
             have HOWN2 := Lib.hid hown2
             have HGR2 := Lib.hid hgr2
             have HAT2 := Lib.hid hat2
             clear s1 hown2 hgr2 hat2)
          | (refine step_append_cells _ rfl (.const (.slice none 0 0)) (.tmp 26) 22 rfl wq.heap.size 5 i0 (.int .u8 0) 1 1 Try.underlying22 hi0 hz0 hz1 hz2 rfl (by decide) (.slice none 0 0) 0 [] rfl (World.ownsRow_nil _ _ _ _) (fun _ => True) B x.b.length cb (octets x.b) rfl HOX.out ?_ octets_one ?_ ?_ ?_ ?_
             focus (first | exact HCB.out _ (Below.refl _ _) | exact HCB.out _ (Below.refl _ _).drew)
             focus (unfold maxLen; omega)
             focus omega
             focus (first | exact Nat.le_refl _ | simp)
             rintro v1 w1 hown1 hgr1 -
             have hb1 : Below wq.heap.size wq w1 := Below.grown (by first | exact Below.refl _ _ | exact (Below.refl _ _).drew) hgr1 (by simp) (fun j hj => nomatch (show (none : Option Nat) = some j from hj))
             simp only [Nat.zero_add, List.nil_append] at hown1
             obtain ⟨A1, k1, rfl⟩ := own_slice hown1
             have q1 : w1.cell? ⟨wr.heap.size, 0, none⟩ = some (.int .i64 x.pos) := (hb1.cell (p := ⟨wr.heap.size, 0, none⟩) (by simp; omega)).trans Q4.out
             have q2 : w1.cell? ⟨wr.heap.size, 1, none⟩ = some (.slice B x.b.length cb) := (hb1.cell (p := ⟨wr.heap.size, 1, none⟩) (by simp; omega)).trans Q5.out
             have q6 : w1.cell? ⟨g, 1, none⟩ = some (.slice A2 N k2) := (hb1.cell (p := ⟨g, 1, none⟩) hgq).trans Q3.out
             have hsz1 : wq.heap.size ≤ w1.heap.size := hb1.size
             have hg1 : g < w1.heap.size := by omega
             have HBE := Lib.hid hb1
             have HOWN := Lib.hid hown1
             clear hown1 hgr1 hb1))
        all_goals (
          have hN := HN.out
          subst hN
          have HFIN := Lib.hid (put_end HG.out hbg (by omega) HO1.out HO2.out HY.out HBE.out HOWN.out HOWN2.out HGR2.out HAT2.out)
          go_wp2_with fail
          refine ⟨⟨D.wet.length + 1, by omega, by go_num, ?_, HBQ.out.trans (HFIN.out.1.mono (by omega))⟩, by simp [intOf]; omega⟩
          rw [← HNX.out]
          exact HFIN.out.2)
      · obtain rfl : k = L := by omega
        have hall : upTo k d = d := by rw [← HL.out]; exact upTo_all d
        rw [hall] at hdi
        obtain ⟨v1, v2, ys, hb, hbg, ho1, ho2, hy⟩ := hdi
        have HB := Lib.hid hb
        have HO1 := Lib.hid ho1
        have HO2 := Lib.hid ho2
        have HY := Lib.hid hy
        have HBE := Lib.hid hbe
        have e1 : ∀ i, wr.cell? ⟨g, i, none⟩ = #[v1, v2, .int .i64 d.fuse, .bool d.dead][i]? := fun i => cell_of_row wr g i _ _ _ hb
        have hrs : wr.heap[w.heap.size + 1]? = some (.cells #[.slice none 0 0, .slice none 0 0, .int .i64 0, .bool false] 25 (0, 0)) := by
          rw [hbe.block _ (by omega)]
          exact HRES.out
        have r1 : ∀ i, wr.cell? ⟨w.heap.size + 1, i, none⟩ = #[.slice none 0 0, .slice none 0 0, .int .i64 0, .bool false][i]? := fun i => cell_of_row wr _ i _ _ _ hrs
        have r2 : ∀ i, wr.frozen? ⟨w.heap.size + 1, i, none⟩ = false := fun i => by simp [World.frozen?, hrs]
        have hwr : w.heap.size + 1 < wr.heap.size := by have := hbe.size; omega
        obtain ⟨A1, k1, rfl⟩ := own_slice ho1
        obtain ⟨A2, k2, rfl⟩ := own_slice ho2
        clear hb ho1 ho2 hy hbe hrs hall
        go_wp2_with fail
        have hfin : DiskOwn wr (w.heap.size + 2) (.agg #[.slice A1 d.dry.length k1, .slice A2 d.wet.length k2, .int .i64 d.fuse, .bool d.dead]) d := ⟨_, _, ys, rfl, HO1.out, HO2.out, HY.out.more fun b _ hS => ⟨hS.1, hS.2.2⟩⟩
        have hfin4 := ((((hfin.far (p := ⟨w.heap.size + 1, 0, none⟩) (by simp) (Value.slice A1 d.dry.length k1)).far (p := ⟨w.heap.size + 1, 1, none⟩) (by simp) (Value.slice A2 d.wet.length k2)).far (p := ⟨w.heap.size + 1, 2, none⟩) (by simp) (Value.int IntKind.i64 d.fuse)).far (p := ⟨w.heap.size + 1, 3, none⟩) (by simp) (Value.bool d.dead)).mono (base' := w.heap.size) (by omega)
        have hbl : Below w.heap.size w wr := HBW.out.trans (HBE.out.mono (by omega))
        refine bodyPost_ret (v := .agg #[.slice A1 d.dry.length k1, .slice A2 d.wet.length k2, .int .i64 d.fuse, .bool d.dead]) (by simp [results, Try.results18, go_sem, r1, r2, hwr]) rfl ⟨_, rfl, hfin4, (((hbl.setCell (by simp) _).setCell (by simp) _).setCell (by simp) _).setCell (by simp) _⟩

end Go.Proofs.Ytikobhckkbicaaa
