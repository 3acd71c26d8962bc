/- Contract of the reference's Same. -/
import Derived.Test.YtdbioekmhlgolaaW
import Derived.Deep.QuietTactic
import Derived.BigQuiet
namespace Go.Proofs.Ytdbioekmhlgolaa
open Go.RowKit Dk

theorem below_drewN {B : Nat} {w w' : World} (h : Below B w w') : ∀ n, Below B w (w'.drewN n)
  | 0 => h
  | n + 1 => (below_drewN h n).drew

set_option maxRecDepth 4000 in
set_option maxHeartbeats 8000000 in
theorem refSame_any (v v' : Value) (d d' : Disk) (w : World) (h : DiskR w (fun _ => True) v d) (h' : DiskR w (fun _ => True) v' d') :
    Calls Try.prog 24 #[v, v'] w fun e w' => e = .returned (.bool (same d d')) ∧ Below w.heap.size w w' := by
  obtain ⟨dry, l, fuse, dead⟩ := d
  obtain ⟨dry', m, fuse', dead'⟩ := d'
  obtain ⟨vd, vw, rfl, hb1, hw1⟩ := h
  obtain ⟨vd', vw', rfl, hb2, hw2⟩ := h'
  dsimp only at *
  have HE := Lib.hid (fun W (hb : Below w.heap.size w W) => sameBytes_any vd vd' dry dry' W (hb1.below hb) (hb2.below hb))
  obtain ⟨P, c, rfl, _⟩ := hb1
  obtain ⟨P', c', rfl, _⟩ := hb2
  obtain ⟨A, k1, xs, rfl, hc1, hc2, _, hx, hxc⟩ := hw1
  obtain ⟨B, k2, ys, rfl, hc1', hc2', _, hy, hyc⟩ := hw2
  have HX := Lib.hid hx
  have HY := Lib.hid hy
  have HXC := Lib.hid hxc
  have HYC := Lib.hid hyc
  clear hx hy hxc hyc
  unfold maxLen at hc2 hc2'
  obtain ⟨W0, hW0⟩ : ∃ W0, W0 = (w.alloc (Obj.cells #[Value.slice P dry.length c, Value.slice A l.length k1, .int .i64 fuse, .bool dead] 25)).alloc (Obj.cells #[Value.slice P' dry'.length c', Value.slice B m.length k2, .int .i64 fuse', .bool dead'] 25) := ⟨_, rfl⟩
  have hb0 : Below w.heap.size w W0 := by rw [hW0]; exact ((Below.refl _ _).alloc (Nat.le_refl _) _).alloc (by simp) _
  have HB0 := Lib.hid hb0
  clear hb0
  cases hq : decide (dry = dry')
  · rw [hq] at HE
    have HS := Lib.hid (show same ⟨dry, l, fuse, dead⟩ ⟨dry', m, fuse', dead'⟩ = false by simp only [same, hq]; simp)
    clear hq
    go_enter Try.func24, Try.ntmps24
    go_wp2_with fail
    rw [← hW0]
    clear hW0
    refine (HE.out _ HB0.out).mono ?_
    rintro e w1 ⟨rfl, rfl⟩
    go_wp2_with fail
    go_ret
    exact ⟨by rw [HS.out]; rfl, HB0.out⟩
  · rw [hq] at HE
    have HQ := Lib.hid hq
    clear hq
    by_cases hlen : m.length = l.length
    · rw [hlen] at hc1' hW0 ⊢
      have HM := Lib.hid hlen
      clear hlen
      generalize hL : l.length = L at *
      have HL := Lib.hid hL
      clear hL
      have hx0 : W0.heap[w.heap.size]? = some (.cells #[Value.slice P dry.length c, Value.slice A L k1, .int .i64 fuse, .bool dead] 25 (0, 0)) := by
        rw [hW0, Below.heap_alloc _ _ _ (by simp)]; exact heap_first _ _
      have hx1 : W0.heap[w.heap.size + 1]? = some (.cells #[Value.slice P' dry'.length c', Value.slice B L k2, .int .i64 fuse', .bool dead'] 25 (0, 0)) := by
        rw [hW0]; exact heap_second _ _ _
      have b0 : ∀ i, W0.cell? ⟨w.heap.size, i, none⟩ = _ := fun i => cell_of_row W0 _ i _ _ _ hx0
      have b1 : ∀ i, W0.cell? ⟨w.heap.size + 1, i, none⟩ = _ := fun i => cell_of_row W0 _ i _ _ _ hx1
      have h01 : w.heap.size < W0.heap.size := (Array.getElem?_eq_some_iff.1 hx0).1
      have h02 : w.heap.size + 1 < W0.heap.size := (Array.getElem?_eq_some_iff.1 hx1).1
      clear hx0 hx1
      cases hf : (fuse == fuse')
      · have hf' : (fuse != fuse') = true := by rw [bne, hf]; rfl
        have HS := Lib.hid (show same ⟨dry, l, fuse, dead⟩ ⟨dry', m, fuse', dead'⟩ = false by simp [same, hf])
        go_enter Try.func24, Try.ntmps24
        go_wp2_with fail
        rw [← hW0]
        clear hW0
        refine (HE.out _ HB0.out).mono ?_
        rintro e w1 ⟨rfl, rfl⟩
        go_wp2_with fail
        go_ret
        exact ⟨by rw [HS.out]; rfl, HB0.out⟩
      · have hf' : (fuse != fuse') = false := by rw [bne, hf]; rfl
        cases hd : (dead == dead')
        · have hd' : (dead != dead') = true := by rw [bne, hd]; rfl
          have HS := Lib.hid (show same ⟨dry, l, fuse, dead⟩ ⟨dry', m, fuse', dead'⟩ = false by simp only [same, hd]; simp)
          go_enter Try.func24, Try.ntmps24
          go_wp2_with fail
          rw [← hW0]
          clear hW0
          refine (HE.out _ HB0.out).mono ?_
          rintro e w1 ⟨rfl, rfl⟩
          go_wp2_with fail
          go_ret
          exact ⟨by rw [HS.out]; rfl, HB0.out⟩
        · have hd' : (dead != dead') = false := by rw [bne, hd]; rfl
          have HS0 := Lib.hid (show same ⟨dry, l, fuse, dead⟩ ⟨dry', m, fuse', dead'⟩ = sameWs l m by simp only [same, hd, hf, HQ.out]; simp)
          obtain rfl : dead = dead' := by simpa using hd
          clear hf hd
          go_enter Try.func24, Try.ntmps24
          go_wp2_with fail
          rw [← hW0]
          clear hW0
          refine (HE.out _ HB0.out).mono ?_
          rintro e w1 ⟨rfl, rfl⟩
          go_wp2_with fail
          go_loopw [38] (fun i wr => ∃ k : Nat, k ≤ L ∧ i = .int .i64 (k : Int) ∧ (∀ (j : Nat) (x y : Wr), j < k → l[j]? = some x → m[j]? = some y → sameWr x y = true) ∧ Below W0.heap.size W0 wr) (fun i _ => L - (intOf i).toNat)
          case atStart => exact ⟨0, by omega, rfl, (fun j x y h _ _ => by omega), Below.refl _ _⟩
          case round =>
            obtain ⟨k, hk, rfl, hok, hb⟩ := hrel
            have HOK := Lib.hid hok
            have HB := Lib.hid hb
            clear hok hb
            by_cases hlt : k < L
            · obtain ⟨x, hkx⟩ : ∃ x, l[k]? = some x := ⟨_, List.getElem?_eq_getElem (by rw [HL.out]; exact hlt)⟩
              obtain ⟨y, hky⟩ : ∃ y, m[k]? = some y := ⟨_, List.getElem?_eq_getElem (by rw [HM.out]; exact hlt)⟩
              obtain ⟨e1, vx, e2, hbx⟩ := HX.out.2 k x hkx
              obtain ⟨f1, vy, f2, hby⟩ := HY.out.2 k y hky
              have HBX := Lib.hid hbx
              have HBY := Lib.hid hby
              obtain ⟨X, cx, rfl, _⟩ := hbx
              obtain ⟨Y, cy, rfl, _⟩ := hby
              obtain ⟨ad, rfl, _, hcell⟩ := HXC.out (by rw [HX.out.1, HL.out]; omega)
              obtain ⟨bd, rfl, _, hcell'⟩ := HYC.out (by rw [HY.out.1, HM.out]; omega)
              have HBW := Lib.hid (HB0.out.trans (HB.out.mono HB0.out.size))
              have l1 : (ad.add (k * 2)).block < w.heap.size := World.block_lt_of_cell? w _ (hcell _ _ e1)
              have l2 : (bd.add (k * 2)).block < w.heap.size := World.block_lt_of_cell? w _ (hcell' _ _ f1)
              have c1 : wr.cell? (ad.add (k * 2)) = some (.int .i64 x.pos) := (HBW.out.cell l1).trans (hcell _ _ e1)
              have c2 := cell_next ((HBW.out.cell (p := ad.add (k * 2 + 1)) (by rw [add_block] at l1 ⊢; exact l1)).trans (hcell _ _ e2))
              have d1 : wr.cell? (bd.add (k * 2)) = some (.int .i64 y.pos) := (HBW.out.cell l2).trans (hcell' _ _ f1)
              have d2 := cell_next ((HBW.out.cell (p := bd.add (k * 2 + 1)) (by rw [add_block] at l2 ⊢; exact l2)).trans (hcell' _ _ f2))
              have g0 : wr.cell? ⟨w.heap.size, 1, none⟩ = some (.slice (some ad) L k1) := ((HB.out.cell (p := ⟨w.heap.size, 1, none⟩) h01)).trans (b0 1)
              have g1 : wr.cell? ⟨w.heap.size + 1, 1, none⟩ = some (.slice (some bd) L k2) := ((HB.out.cell (p := ⟨w.heap.size + 1, 1, none⟩) h02)).trans (b1 1)
              have HKX := Lib.hid hkx
              have HKY := Lib.hid hky
              have HSB := Lib.hid (fun W (h : Below w.heap.size w W) => sameBytes_any (.slice X x.b.length cx) (.slice Y y.b.length cy) x.b y.b W (HBX.out.below h) (HBY.out.below h))
              clear e1 e2 f1 f2 hcell hcell' hkx hky l1 l2 b0 b1
              cases hp : (x.pos == y.pos)
              · have hp' : (x.pos != y.pos) = true := by rw [bne, hp]; rfl
                have HS := Lib.hid (sameWs_no l m k x y HKX.out HKY.out (by rw [sameWr, hp, Bool.false_and]))
                clear hp
                go_wp2_with fail
                go_quiet (fail)
                go_wp2_with fail
                go_ret
                exact ⟨by rw [HS0.out, HS.out]; rfl, below_drewN HBW.out _⟩
              · have hp' : (x.pos != y.pos) = false := by rw [bne, hp]; rfl
                cases hq : decide (x.b = y.b)
                · have HS := Lib.hid (sameWs_no l m k x y HKX.out HKY.out (by rw [sameWr, hp, hq]; rfl))
                  rw [hq] at HSB
                  clear hp hq
                  go_wp2_with fail
                  go_quiet ((go_at_call 23; exact Calls.quiet_of_same ((HSB.out _ (below_drewN HBW.out _)).mono fun _ _ h => ⟨h.1, h.2.symm⟩)))
                  go_wp2_with fail
                  go_ret
                  exact ⟨by rw [HS0.out, HS.out]; rfl, below_drewN HBW.out _⟩
                · have HS := Lib.hid (show sameWr x y = true by rw [sameWr, hp, hq]; rfl)
                  rw [hq] at HSB
                  clear hp hq
                  go_wp2_with fail
                  go_quiet ((go_at_call 23; exact Calls.quiet_of_same ((HSB.out _ (below_drewN HBW.out _)).mono fun _ _ h => ⟨h.1, h.2.symm⟩)))
                  go_wp2_with fail
                  refine ⟨⟨k + 1, by omega, by go_num, ?_, below_drewN HB.out _⟩, by simp [intOf]; omega⟩
                  intro j a b hj ha hb
                  by_cases hjk : j < k
                  · exact HOK.out j a b hjk ha hb
                  · obtain rfl : j = k := by omega
                    rw [HKX.out] at ha
                    rw [HKY.out] at hb
                    injection ha with ha
                    injection hb with hb
                    rw [← ha, ← hb]
                    exact HS.out
            · have hs : sameWs l m = true := sameWs_yes l m (by rw [HL.out, HM.out]) fun j x y hx hy => HOK.out j x y (by have := (List.getElem?_eq_some_iff.1 hx).1; rw [HL.out] at this; omega) hx hy
              have HS := Lib.hid hs
              clear hs
              go_wp2_with fail
              go_ret
              exact ⟨by rw [HS0.out, HS.out]; rfl, HB0.out.trans (HB.out.mono HB0.out.size)⟩
    · have hne : ((l.length : Int) != (m.length : Int)) = true := by simp; omega
      have HS := Lib.hid (show same ⟨dry, l, fuse, dead⟩ ⟨dry', m, fuse', dead'⟩ = false by
        cases hs : sameWs l m
        · simp [same, hs]
        · exact absurd (sameWs_length l m hs).symm hlen)
      generalize l.length = L at *
      generalize m.length = M at *
      have HH := Lib.hid hlen
      clear hlen
      go_enter Try.func24, Try.ntmps24
      go_wp2_with fail
      rw [← hW0]
      have hx0 : W0.heap[w.heap.size]? = some (.cells #[Value.slice P dry.length c, Value.slice A L k1, .int .i64 fuse, .bool dead] 25 (0, 0)) := by
        rw [hW0, Below.heap_alloc _ _ _ (by simp)]; exact heap_first _ _
      have hx1 : W0.heap[w.heap.size + 1]? = some (.cells #[Value.slice P' dry'.length c', Value.slice B M k2, .int .i64 fuse', .bool dead'] 25 (0, 0)) := by
        rw [hW0]; exact heap_second _ _ _
      have b0 : ∀ i, W0.cell? ⟨w.heap.size, i, none⟩ = _ := fun i => cell_of_row W0 _ i _ _ _ hx0
      have b1 : ∀ i, W0.cell? ⟨w.heap.size + 1, i, none⟩ = _ := fun i => cell_of_row W0 _ i _ _ _ hx1
      clear hx0 hx1 hW0
      refine (HE.out _ HB0.out).mono ?_
      rintro e w1 ⟨rfl, rfl⟩
      go_wp2_with fail
      go_ret
      exact ⟨by rw [HS.out]; rfl, HB0.out⟩

end Go.Proofs.Ytdbioekmhlgolaa
