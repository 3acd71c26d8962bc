/- Contracts: sameWrite, slices.EqualFunc, disk.Same, of any disks. -/
import Derived.Test.YtdbioekmhlgolaaV
import Derived.Test.YtdbioekmhlgolaaLcrash
namespace Go.Proofs.Ytdbioekmhlgolaa
open Go.RowKit Dk

/-- Two writes are the same. -/
def sameWr (x y : Wr) : Bool := x.pos == y.pos && decide (x.b = y.b)
def sameWs : List Wr → List Wr → Bool
  | [], [] => true
  | x :: r, y :: s => sameWr x y && sameWs r s
  | _, _ => false
def same (a b : Disk) : Bool := a.fuse == b.fuse && a.dead == b.dead && decide (a.dry = b.dry) && sameWs a.wet b.wet

theorem sameWs_length : ∀ (l k : List Wr), sameWs l k = true → l.length = k.length
  | [], [], _ => rfl
  | x :: r, y :: s, h => by
    rw [sameWs, Bool.and_eq_true] at h
    rw [List.length_cons, List.length_cons, sameWs_length r s h.2]
  | [], _ :: _, h => by simp [sameWs] at h
  | _ :: _, [], h => by simp [sameWs] at h
theorem sameWs_yes : ∀ (l k : List Wr), l.length = k.length → (∀ (j : Nat) (x y : Wr), l[j]? = some x → k[j]? = some y → sameWr x y = true) → sameWs l k = true
  | [], [], _, _ => rfl
  | x :: r, y :: s, hl, h => by
    rw [sameWs, h 0 x y (by simp) (by simp), sameWs_yes r s (by simpa using hl) fun j a b ha hb => h (j + 1) a b (by simpa using ha) (by simpa using hb)]
    rfl
  | [], _ :: _, hl, _ => by simp at hl
  | _ :: _, [], hl, _ => by simp at hl
theorem sameWs_no : ∀ (l k : List Wr) (j : Nat) (x y : Wr), l[j]? = some x → k[j]? = some y → sameWr x y = false → sameWs l k = false
  | [], _, _, _, _, h, _, _ => by simp at h
  | _ :: _, [], _, _, _, _, h, _ => by simp at h
  | a :: r, b :: s, 0, x, y, hx, hy, h => by
    obtain rfl : a = x := by simpa using hx
    obtain rfl : b = y := by simpa using hy
    rw [sameWs, h, Bool.false_and]
  | a :: r, b :: s, j + 1, x, y, hx, hy, h => by
    rw [sameWs, sameWs_no r s j x y (by simpa using hx) (by simpa using hy) h, Bool.and_false]

set_option maxRecDepth 4000 in
set_option maxHeartbeats 1000000 in
theorem sameWrite_any (va vb : Value) (x y : Wr) (w : World) (ha : Bs w (fun _ => True) va x.b) (hb : Bs w (fun _ => True) vb y.b) :
    Calls Try.prog 46 #[.agg #[.int .i64 x.pos, va], .agg #[.int .i64 y.pos, vb]] w fun e w' => e = .returned (.bool (sameWr x y)) ∧ Below w.heap.size w w' := by
  have HA := Lib.hid ha
  have HB := Lib.hid hb
  obtain ⟨A, c, rfl, _⟩ := ha
  obtain ⟨B, c', rfl, _⟩ := hb
  have HE := Lib.hid (fun W (h : Below w.heap.size w W) => equal_any (.slice A x.b.length c) (.slice B y.b.length c') x.b y.b W (HA.out.below h) (HB.out.below h))
  cases hp : (x.pos == y.pos)
  · have HS := Lib.hid (show sameWr x y = false by rw [sameWr, hp, Bool.false_and])
    go_enter Try.func46, Try.ntmps46
    go_wp2_with fail
    go_ret
    exact ⟨by rw [HS.out]; rfl, ((Below.refl _ _).alloc (Nat.le_refl _) _).alloc (by simp) _⟩
  · have HS := Lib.hid (show sameWr x y = decide (x.b = y.b) by rw [sameWr, hp, Bool.true_and])
    go_enter Try.func46, Try.ntmps46
    go_wp2_with fail
    refine (HE.out _ (((Below.refl _ _).alloc (Nat.le_refl _) _).alloc (by simp) _)).mono ?_
    rintro e w1 ⟨rfl, rfl⟩
    generalize decide (x.b = y.b) = q at *
    go_wp2_with fail
    go_ret
    exact ⟨by rw [HS.out]; rfl, ((Below.refl _ _).alloc (Nat.le_refl _) _).alloc (by simp) _⟩

set_option maxRecDepth 4000 in
set_option maxHeartbeats 4000000 in
theorem equalFunc_any (va vb : Value) (l m : List Wr) (w : World) (ha : Ws w (fun _ => True) va l) (hb : Ws w (fun _ => True) vb m) :
    Calls Try.prog 45 #[va, vb, .func (.func 46) #[] #[]] w fun e w' => e = .returned (.bool (sameWs l m)) ∧ Below w.heap.size w w' := by
  obtain ⟨A, c, xs, rfl, hc1, hc2, _, hx, hxc⟩ := ha
  obtain ⟨B, c', ys, rfl, hc1', hc2', _, hy, hyc⟩ := hb
  have HX := Lib.hid hx
  have HY := Lib.hid hy
  have HXC := Lib.hid hxc
  have HYC := Lib.hid hyc
  clear hx hy hxc hyc
  unfold maxLen at hc2 hc2'
  by_cases hlen : m.length = l.length
  · rw [hlen] at hc1' ⊢
    have HM := Lib.hid hlen
    clear hlen
    generalize hL : l.length = L at *
    have HL := Lib.hid hL
    clear hL
    go_enter Try.func45, Try.ntmps45
    go_wp2_with fail
    go_loopw [17] (fun i wr => ∃ k : Nat, k ≤ L ∧ i = .int .i64 (k : Int) ∧ (∀ (j : Nat) (x y : Wr), j < k → l[j]? = some x → m[j]? = some y → sameWr x y = true) ∧ Below w.heap.size w wr) (fun i _ => L - (intOf i).toNat)
    case atStart => exact ⟨0, by omega, rfl, (fun j x y h _ _ => by omega), Below.refl _ _⟩
    case round =>
      obtain ⟨k, hk, rfl, hok, hb⟩ := hrel
      have HOK := Lib.hid hok
      have HB := Lib.hid hb
      clear hok hb
      by_cases hlt : k < L
      · obtain ⟨x, hkx⟩ : ∃ x, l[k]? = some x := ⟨_, List.getElem?_eq_getElem (by rw [HL.out]; exact hlt)⟩
        obtain ⟨y, hky⟩ : ∃ y, m[k]? = some y := ⟨_, List.getElem?_eq_getElem (by rw [HM.out]; exact hlt)⟩
        obtain ⟨e1, vx, e2, hbx⟩ := HX.out.2 k x hkx
        obtain ⟨f1, vy, f2, hby⟩ := HY.out.2 k y hky
        have HBX := Lib.hid hbx
        have HBY := Lib.hid hby
        obtain ⟨X, cx, rfl, _⟩ := hbx
        obtain ⟨Y, cy, rfl, _⟩ := hby
        obtain ⟨ad, rfl, _, hcell⟩ := HXC.out (by rw [HX.out.1, HL.out]; omega)
        obtain ⟨bd, rfl, _, hcell'⟩ := HYC.out (by rw [HY.out.1, HM.out]; omega)
        have l1 : (ad.add (k * 2)).block < w.heap.size := World.block_lt_of_cell? w _ (hcell _ _ e1)
        have l2 : (bd.add (k * 2)).block < w.heap.size := World.block_lt_of_cell? w _ (hcell' _ _ f1)
        rw [add_block] at l1 l2
        have hzw := HB.out.size
        have l1' : ad.block < wr.heap.size := by omega
        have l2' : bd.block < wr.heap.size := by omega
        have l3' : bd.block < wr.heap.size + 1 := by omega
        have c1 : wr.cell? (ad.add (k * 2)) = some (.int .i64 x.pos) := (HB.out.cell (by rw [add_block]; exact l1)).trans (hcell _ _ e1)
        have c2 := cell_next ((HB.out.cell (p := ad.add (k * 2 + 1)) (by rw [add_block]; exact l1)).trans (hcell _ _ e2))
        have d1 : wr.cell? (bd.add (k * 2)) = some (.int .i64 y.pos) := (HB.out.cell (by rw [add_block]; exact l2)).trans (hcell' _ _ f1)
        have d2 := cell_next ((HB.out.cell (p := bd.add (k * 2 + 1)) (by rw [add_block]; exact l2)).trans (hcell' _ _ f2))
        have l2b : (bd.add (k * 2)).block < wr.heap.size := by rw [add_block]; exact l2'
        have d1a := fun o => ((below_new wr o).cell l2b).trans d1
        have d2a := fun o => ((below_new wr o).cell (p := ⟨(bd.add (k * 2)).block, (bd.add (k * 2)).off + 1, none⟩) l2b).trans d2
        have HKX := Lib.hid hkx
        have HKY := Lib.hid hky
        have HSW := Lib.hid (fun W (h : Below w.heap.size w W) => sameWrite_any (.slice X x.b.length cx) (.slice Y y.b.length cy) x y W (HBX.out.below h) (HBY.out.below h))
        clear e1 e2 f1 f2 hcell hcell' hkx hky
        cases hs : sameWr x y
        · rw [hs] at HSW
          have HS := Lib.hid (sameWs_no l m k x y HKX.out HKY.out hs)
          clear hs
          go_wp2_with fail
          refine (HSW.out _ ((HB.out.alloc HB.out.size _).alloc (by simp; omega) _)).mono ?_
          rintro e w1 ⟨rfl, hb1⟩
          have HB1 := Lib.hid (((HB.out.alloc HB.out.size _).alloc (by simp; omega) _).trans (hb1.mono (by simp; omega)))
          clear hb1
          go_wp2_with fail
          go_ret
          exact ⟨by rw [HS.out]; rfl, HB1.out⟩
        · rw [hs] at HSW
          have HS := Lib.hid hs
          clear hs
          go_wp2_with fail
          refine (HSW.out _ ((HB.out.alloc HB.out.size _).alloc (by simp; omega) _)).mono ?_
          rintro e w1 ⟨rfl, hb1⟩
          have HB1 := Lib.hid (((HB.out.alloc HB.out.size _).alloc (by simp; omega) _).trans (hb1.mono (by simp; omega)))
          clear hb1
          go_wp2_with fail
          refine ⟨⟨k + 1, by omega, by go_num, ?_, HB1.out⟩, by simp [intOf]; omega⟩
          intro j a b hj ha hb
          by_cases hjk : j < k
          · exact HOK.out j a b hjk ha hb
          · obtain rfl : j = k := by omega
            rw [HKX.out] at ha
            rw [HKY.out] at hb
            injection ha with ha
            injection hb with hb
            rw [← ha, ← hb]
            exact HS.out
      · have hs : sameWs l m = true := sameWs_yes l m (by rw [HL.out, HM.out]) fun j x y hx hy => HOK.out j x y (by have := (List.getElem?_eq_some_iff.1 hx).1; rw [HL.out] at this; omega) hx hy
        have HS := Lib.hid hs
        clear hs
        go_wp2_with fail
        go_ret
        exact ⟨by rw [HS.out]; rfl, HB.out⟩
  · have hs : sameWs l m = false := by
      cases h : sameWs l m
      · rfl
      · exact absurd (sameWs_length l m h).symm hlen
    have hne : ((l.length : Int) != (m.length : Int)) = true := by simp; omega
    have HS := Lib.hid hs
    clear hs
    generalize l.length = L at *
    generalize m.length = M at *
    have HH := Lib.hid hlen
    clear hlen
    go_enter Try.func45, Try.ntmps45
    go_wp2_with fail
    go_ret
    exact ⟨by rw [HS.out]; rfl, Below.refl _ _⟩

set_option maxRecDepth 4000 in
set_option maxHeartbeats 4000000 in
theorem same_any (v v' : Value) (d d' : Disk) (w : World) (h : DiskR w (fun _ => True) v d) (h' : DiskR w (fun _ => True) v' d') :
    Calls Try.prog 29 #[v, v'] w fun e w' => e = .returned (.bool (same d d')) ∧ Below w.heap.size w w' := by
  obtain ⟨dry, wet, fuse, dead⟩ := d
  obtain ⟨dry', wet', fuse', dead'⟩ := d'
  obtain ⟨vd, vw, rfl, hb1, hw1⟩ := h
  obtain ⟨vd', vw', rfl, hb2, hw2⟩ := h'
  dsimp only at *
  have HE := Lib.hid (fun W (hb : Below w.heap.size w W) => equal_any vd vd' dry dry' W (hb1.below hb) (hb2.below hb))
  have HF := Lib.hid (fun W (hb : Below w.heap.size w W) => equalFunc_any vw vw' wet wet' W (hw1.below hb) (hw2.below hb))
  obtain ⟨A, c, rfl, _⟩ := hb1
  obtain ⟨A', c', rfl, _⟩ := hb2
  obtain ⟨B, k, _, rfl, _⟩ := hw1
  obtain ⟨B', k', _, rfl, _⟩ := hw2
  cases hf : (fuse == fuse')
  · have HS := Lib.hid (show same ⟨dry, wet, fuse, dead⟩ ⟨dry', wet', fuse', dead'⟩ = false by simp [same, hf])
    go_enter Try.func29, Try.ntmps29
    go_wp2_with fail
    go_ret
    exact ⟨by rw [HS.out]; rfl, ((Below.refl _ _).alloc (Nat.le_refl _) _).alloc (by simp) _⟩
  · cases hd : (dead == dead')
    · have HS := Lib.hid (show same ⟨dry, wet, fuse, dead⟩ ⟨dry', wet', fuse', dead'⟩ = false by simp only [same, hd]; simp)
      go_enter Try.func29, Try.ntmps29
      go_wp2_with fail
      go_ret
      exact ⟨by rw [HS.out]; rfl, ((Below.refl _ _).alloc (Nat.le_refl _) _).alloc (by simp) _⟩
    · have HS0 := Lib.hid (show same ⟨dry, wet, fuse, dead⟩ ⟨dry', wet', fuse', dead'⟩ = (decide (dry = dry') && sameWs wet wet') by simp only [same, hd, hf]; simp)
      cases hq : decide (dry = dry')
      · rw [hq] at HE HS0
        clear hq
        go_enter Try.func29, Try.ntmps29
        go_wp2_with fail
        refine (HE.out _ (((Below.refl _ _).alloc (Nat.le_refl _) _).alloc (by simp) _)).mono ?_
        rintro e w1 ⟨rfl, rfl⟩
        go_wp2_with fail
        go_ret
        exact ⟨by rw [HS0.out]; rfl, ((Below.refl _ _).alloc (Nat.le_refl _) _).alloc (by simp) _⟩
      · rw [hq] at HE HS0
        clear hq
        generalize hws : sameWs wet wet' = s at *
        have HWS := Lib.hid hws
        clear hws
        go_enter Try.func29, Try.ntmps29
        go_wp2_with fail
        refine (HE.out _ (((Below.refl _ _).alloc (Nat.le_refl _) _).alloc (by simp) _)).mono ?_
        rintro e w1 ⟨rfl, rfl⟩
        go_wp2_with fail
        refine (HF.out _ (((Below.refl _ _).alloc (Nat.le_refl _) _).alloc (by simp) _)).mono ?_
        rintro e w2 ⟨rfl, hb3⟩
        have HB3 := Lib.hid ((((Below.refl w.heap.size w).alloc (Nat.le_refl _) _).alloc (by simp) _).trans (hb3.mono (by simp; omega)))
        clear hb3
        go_wp2_with fail
        go_ret
        exact ⟨by rw [HS0.out]; rfl, HB3.out⟩

end Go.Proofs.Ytdbioekmhlgolaa
