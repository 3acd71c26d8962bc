/- Contract of the reference's Write. -/
import Derived.Test.Ytikobhckkbicaaa1L
import Derived.Deep.RegionHeld3
import Derived.Deep.DeepCutAuto
namespace Go.Proofs.Ytikobhckkbicaaa
open Go.RowKit Dk

/-- A write is put behind the writes of a disk whose box is older than all that is its own. -/
theorem put_own {w w1 w2 : World} {g base : Nat} {d : Disk} {at_ : Int} {b : List UInt8} {A1 A' : Option Addr} {k1 c' : Nat} {vd v2 : Value} {xs : List Value} {o : Obj}
    (hg : w.heap[g]? = some (.cells #[vd, .slice A' d.wet.length c', .int .i64 d.fuse, .bool d.dead] 25 (0, 0))) (hgb : g < base) (hbw : base ≤ w.heap.size)
    (ho1 : w.ownsRow base 5 1 vd d.dry.length (octets d.dry)) (ho2 : w.ownsRow base 70 2 (.slice A' d.wet.length c') d.wet.length xs)
    (hx : WrCells w (fun b => base ≤ b ∧ some b ≠ vd.ownBlock ∧ some b ≠ (Value.slice A' d.wet.length c').ownBlock) xs d.wet)
    (hbe : Below w.heap.size w w1) (hown : w1.ownsRow w.heap.size 5 1 (.slice A1 b.length k1) b.length (octets b))
    (hown2 : w2.ownsRow base 70 2 v2 (d.wet.length + 1) (xs ++ [.int .i64 at_, .slice A1 b.length k1])) (hgr2 : (w1.alloc o).grownBy w2 (Value.slice A' d.wet.length c').ownBlock)
    (hat : v2.ownBlock = (Value.slice A' d.wet.length c').ownBlock ∨ v2.ownBlock = some (w1.alloc o).heap.size) :
    Below g w (w2.setCell ⟨g, 1, none⟩ v2) ∧ (w2.setCell ⟨g, 1, none⟩ v2).heap[g]? = some (.cells #[vd, v2, .int .i64 d.fuse, .bool d.dead] 25 (0, 0)) ∧ DiskOwn (w2.setCell ⟨g, 1, none⟩ v2) base (.agg #[vd, v2, .int .i64 d.fuse, .bool d.dead]) (put at_ b d) := by
  have hgl : g < w.heap.size := by
    rcases Nat.lt_or_ge g w.heap.size with h | h
    · exact h
    · rw [Array.getElem?_eq_none h] at hg; cases hg
  have hz : w.heap.size ≤ w1.heap.size := hbe.size
  have hne : ∀ k, (Value.slice A' d.wet.length c').ownBlock = some k → k ≠ g := own_blk_ne ho2 hg (by decide)
  have hb1 : Below w.heap.size w (w1.alloc o) := hbe.alloc hz o
  have hg2 : w2.heap[g]? = some (.cells #[vd, .slice A' d.wet.length c', .int .i64 d.fuse, .bool d.dead] 25 (0, 0)) :=
    ((hgr2.block g (by simp; omega) (fun e => hne g e.symm rfl)).trans (hb1.block g hgl)).trans hg
  have hbB : Below base w w2 := (hb1.mono hbw).grown hgr2 (by simp; omega) (fun k hk => (ho2.lt k hk).1)
  have hd2 : w2.ownsRow base 5 1 vd d.dry.length (octets d.dry) := by
    refine (own_below ho1 hb1 fun k hk => (ho1.lt k hk).2).kept hgr2 ?_
    cases hv : vd.ownBlock with
    | none => exact .inl rfl
    | some k =>
      refine .inr fun e => ?_
      rcases ho2.2 with ⟨he, _⟩ | ⟨g', cap, cur, he, _, hh, _⟩
      · rw [he] at e; simp [Value.ownBlock] at e
      · rw [he] at e
        obtain rfl : k = g' := by simpa [Value.ownBlock] using e
        exact own_blk_ne ho1 hh (by decide) k hv rfl
  have hl1 : ∀ k, (Value.slice A1 b.length k1).ownBlock = some k → w.heap.size ≤ k ∧ k < w1.heap.size := hown.lt
  have hwl : ∀ k, (Value.slice A' d.wet.length c').ownBlock = some k → k < w.heap.size := fun k hk => (ho2.lt k hk).2
  have hdl : ∀ k, vd.ownBlock = some k → k < w.heap.size := fun k hk => (ho1.lt k hk).2
  refine ⟨(hbB.mono (Nat.le_of_lt hgb)).setCell (Nat.le_refl _) _, blk_set hg2 1 v2, vd, v2, _, rfl, own_far hd2 (fun k hk e => ?_) _, own_far (by simpa [put] using hown2) (own_blk_ne hown2 hg2 (by decide)) _, ?_, ?_⟩
  · exact own_blk_ne ho1 hg (by decide) k hk e
  · simp [put, hx.1]; omega
  · intro j x hj
    have hkeep : ∀ p : Addr, base ≤ p.block → p.block ≠ g → some p.block ≠ (Value.slice A' d.wet.length c').ownBlock → (∃ u, w.cell? p = some u) → (w2.setCell ⟨g, 1, none⟩ v2).cell? p = w.cell? p := by
      intro p _ hpg hpw ⟨u, hu⟩
      have hpl := World.block_lt_of_cell? w p hu
      rw [World.cell?_setCell_other w2 ⟨g, 1, none⟩ p v2 (fun e => hpg (e ▸ rfl)), hgr2.cell_far p (by simp; omega) hpw]
      exact hb1.cell hpl
    by_cases hjl : j < d.wet.length
    · rw [put, List.getElem?_append_left hjl] at hj
      obtain ⟨h1, vb, h2, h3⟩ := hx.2 j x hj
      refine ⟨by rw [List.getElem?_append_left (by rw [hx.1]; omega)]; exact h1, vb, by rw [List.getElem?_append_left (by rw [hx.1]; omega)]; exact h2, ?_⟩
      have h4 := h3.more (S' := fun k => base ≤ k ∧ some k ≠ vd.ownBlock ∧ some k ≠ (Value.slice A' d.wet.length c').ownBlock ∧ k < w.heap.size) fun k hk hS => ⟨hS.1, hS.2.1, hS.2.2, hk⟩
      refine (h4.keep (fun p hS hu => hkeep p hS.1 (by have := hS.1; omega) hS.2.2.1 hu)).more fun k _ hS => ⟨hS.1, hS.2.1, ?_⟩
      intro e
      rcases hat with h | h
      · rw [h] at e; exact hS.2.2.1 e
      · rw [h] at e
        injection e with e
        have := hS.2.2.2
        rw [World.size_alloc] at e
        omega
    · obtain rfl : j = d.wet.length := by
        have := (List.getElem?_eq_some_iff.1 hj).1
        simp [put] at this
        omega
      rw [put, List.getElem?_append_right (Nat.le_refl _), Nat.sub_self] at hj
      obtain rfl : (⟨at_, b⟩ : Wr) = x := by simpa using hj
      refine ⟨by rw [List.getElem?_append_right (by rw [hx.1]; exact Nat.le_refl _), hx.1, Nat.sub_self]; rfl, .slice A1 b.length k1, ?_, ?_⟩
      · rw [List.getElem?_append_right (by rw [hx.1]; omega), hx.1, show d.wet.length * 2 + 1 - d.wet.length * 2 = 1 by omega]; rfl
      · have h1 : Bs w1 (fun k => w.heap.size ≤ k ∧ k < w1.heap.size) (.slice A1 b.length k1) b := .of_own hown fun k hk => hl1 k hk.symm
        have h2 : Bs (w2.setCell ⟨g, 1, none⟩ v2) (fun k => w.heap.size ≤ k ∧ k < w1.heap.size) (.slice A1 b.length k1) b := h1.keep fun p hS ⟨u, hu⟩ => by
          rw [World.cell?_setCell_other w2 ⟨g, 1, none⟩ p v2 (fun e => by have h : p.block = g := e ▸ rfl; omega), hgr2.cell_far p (by simp; omega) (fun e => by have := hwl _ e.symm; omega)]
          exact World.cell?_alloc_lt w1 _ _ hS.2
        refine h2.more fun k _ hS => ⟨by omega, fun e => by have := hdl _ e.symm; omega, fun e => ?_⟩
        rcases hat with h | h
        · rw [h] at e; have := hwl _ e.symm; omega
        · rw [h] at e
          injection e with e
          rw [World.size_alloc] at e
          omega

theorem split_own {w : World} {base : Nat} {vd vw x y : Value} {d : Disk} (h : DiskOwn w base (.agg #[vd, vw, x, y]) d) :
    ∃ xs, w.ownsRow base 5 1 vd d.dry.length (octets d.dry) ∧ w.ownsRow base 70 2 vw d.wet.length xs ∧ WrCells w (fun b => base ≤ b ∧ some b ≠ vd.ownBlock ∧ some b ≠ vw.ownBlock) xs d.wet := by
  obtain ⟨vd', vw', xs, he, h1, h2, h3⟩ := h
  injection he with he
  have e1 : vd = vd' := by injection he with he; injection he with he
  have e2 : vw = vw' := by injection he with he; injection he with _ he; injection he with he
  subst e1 e2
  exact ⟨xs, h1, h2, h3⟩

set_option maxRecDepth 4000 in
set_option maxHeartbeats 4000000 in
theorem refWrite_any (v v0 : Value) (d : Disk) (at_ : Int) (b : List UInt8) (w : World) (h : DiskR w (fun _ => True) v d) (hbs : Bs w (fun _ => True) v0 b) :
    Calls Try.prog 22 #[v, .int .i64 at_, v0] w (GivesDE w (write d at_ b)) := by
  obtain ⟨i0, hi0, hz0', hz1', hz2'⟩ := info_parts info8
  obtain ⟨iw, hiw, hzw, hsw, hbw⟩ := info_parts infoW
  have HBS := Lib.hid hbs
  obtain ⟨A0, c0, rfl, hc1, hc2, _, hcb⟩ := hbs
  have HCB := Lib.hid hcb
  have HOB := Lib.hid (show (octets b).length = b.length * 1 by rw [octets_length, Nat.mul_one])
  clear hcb
  unfold maxLen at hc2
  have HD := Lib.hid h
  obtain ⟨vd, vw, rfl, ⟨A, c, rfl, hac, ham, _⟩, A', c', xs, rfl, hac', ham', _⟩ := h
  unfold maxLen at ham ham'
  obtain ⟨W0, hW0⟩ : ∃ W0, W0 = (w.alloc (Obj.cells #[Value.slice A d.dry.length c, Value.slice A' d.wet.length c', .int .i64 d.fuse, .bool d.dead] 25)).alloc (Obj.cells #[.slice none 0 0, .slice none 0 0, .int .i64 0, .bool false] 25) := ⟨_, rfl⟩
  obtain ⟨hb0, hz0, hbox, hres⟩ := two_new w _ _ W0 hW0
  have HB0 := Lib.hid hb0
  have HRES := Lib.hid (fun W (hb : Below W0.heap.size W0 W) => below_past hres hb)
  have HBOX := Lib.hid (fun W (hb : Below W0.heap.size W0 W) => below_past hbox hb)
  have HX0 := Lib.hid hbox
  have HX1 := Lib.hid hres
  have HCK := Lib.hid (refCheck_any _ d W0 (HD.out.below hb0))
  clear hbox hres
  cases hok : d.ok
  · have hck : check d = 1 := by simp [check, hok]
    have HL := Lib.hid (show write d at_ b = (Disk.zero, 1) by simp [write, ready, hok])
    rw [hck] at HCK
    clear hok hck hb0
    go_enter Try.func22, Try.ntmps22
    go_wp2_with fail
    rw [← hW0]
    clear hW0
    refine HCK.out.mono ?_
    rintro e w1 ⟨rfl, hb1⟩
    have br1 := HBOX.out w1 hb1
    have br2 := HRES.out w1 hb1
    have b1 : ∀ i, w1.cell? ⟨w.heap.size, i, none⟩ = #[Value.slice A d.dry.length c, Value.slice A' d.wet.length c', .int .i64 d.fuse, .bool d.dead][i]? := fun i => cell_of_row w1 _ i _ _ _ br1
    have b2 : ∀ i, w1.frozen? ⟨w.heap.size, i, none⟩ = false := fun i => by simp [World.frozen?, br1]
    have r1 : ∀ i, w1.cell? ⟨w.heap.size + 1, i, none⟩ = #[.slice none 0 0, .slice none 0 0, .int .i64 0, .bool false][i]? := fun i => cell_of_row w1 _ i _ _ _ br2
    have r2 : ∀ i, w1.frozen? ⟨w.heap.size + 1, i, none⟩ = false := fun i => by simp [World.frozen?, br2]
    have hl1 : w.heap.size < w1.heap.size := by have := hb1.size; omega
    have hl2 : w.heap.size + 1 < w1.heap.size := by have := hb1.size; omega
    clear br1 br2
    have HB1 := Lib.hid hb1
    clear hb1
    go_wp2_with fail
    rw [HL.out]
    refine bodyPost_ret (v := .tuple #[.agg #[.slice none 0 0, .slice none 0 0, .int .i64 0, .bool false], .int .i64 1]) ?_ rfl ?_
    · simp [results, Try.results22, go_sem, b1, b2, r1, r2, hl1, hl2]
    · refine ⟨_, rfl, DiskOwn.mono (base := W0.heap.size) ?_ (by omega), ?_⟩
      · repeat (refine DiskOwn.far ?_ (by simp; omega) _)
        exact DiskOwn.zero _ _
      · repeat (refine Below.setCell ?_ (by simp) _)
        exact HB0.out.trans (HB1.out.mono (by omega))
  · have hck : check d = 0 := by simp [check, hok]
    rw [hck] at HCK
    obtain ⟨_, hfu, hfl, hw8⟩ := Disk.ok_small hok
    have HBN := Lib.hid (fun W (hb : Below W0.heap.size W0 W) => refBurn_any _ d W ((HD.out.below hb0).below hb) (Disk.ok_modest hok) hfl hfu)
    have HOK := Lib.hid hok
    clear hck hb0 hok
    by_cases h1 : b.length = 32
    · have t1 : ((b.length : Int) != 32) = false := by simp; omega
      have H1 := Lib.hid h1
      clear h1
      by_cases hd : d.dead = false
      · have HRY := Lib.hid (show ready d (decide (b.length = 32)) = 0 by simp [ready, HOK.out, H1.out, hd])
        have HDD := Lib.hid hd
        clear hd
        by_cases p1 : at_ < 0
        · have HL := Lib.hid (show write d at_ b = (Disk.zero, 5) by
            have : d.has at_ = false := by simp [Disk.has]; omega
            rw [write, if_pos HRY.out, this]; rfl)
          go_enter Try.func22, Try.ntmps22
          go_wp2_with fail
          rw [← hW0]
          clear hW0
          refine HCK.out.mono ?_
          rintro e w1 ⟨rfl, hb1⟩
          have br1 := HBOX.out w1 hb1
          have br2 := HRES.out w1 hb1
          have b1 : ∀ i, w1.cell? ⟨w.heap.size, i, none⟩ = #[Value.slice A d.dry.length c, Value.slice A' d.wet.length c', .int .i64 d.fuse, .bool d.dead][i]? := fun i => cell_of_row w1 _ i _ _ _ br1
          have b2 : ∀ i, w1.frozen? ⟨w.heap.size, i, none⟩ = false := fun i => by simp [World.frozen?, br1]
          have r1 : ∀ i, w1.cell? ⟨w.heap.size + 1, i, none⟩ = #[.slice none 0 0, .slice none 0 0, .int .i64 0, .bool false][i]? := fun i => cell_of_row w1 _ i _ _ _ br2
          have r2 : ∀ i, w1.frozen? ⟨w.heap.size + 1, i, none⟩ = false := fun i => by simp [World.frozen?, br2]
          have hl1 : w.heap.size < w1.heap.size := by have := hb1.size; omega
          have hl2 : w.heap.size + 1 < w1.heap.size := by have := hb1.size; omega
          clear br1 br2
          rw [HDD.out] at b1
          have HB1 := Lib.hid hb1
          clear hb1
          go_wp2_with fail
          rw [HL.out]
          refine bodyPost_ret (v := .tuple #[.agg #[.slice none 0 0, .slice none 0 0, .int .i64 0, .bool false], .int .i64 5]) ?_ rfl ?_
          · simp [results, Try.results22, go_sem, b1, b2, r1, r2, hl1, hl2]
          · refine ⟨_, rfl, DiskOwn.mono (base := W0.heap.size) ?_ (by omega), ?_⟩
            · repeat (refine DiskOwn.far ?_ (by simp; omega) _)
              exact DiskOwn.zero _ _
            · repeat (refine Below.setCell ?_ (by simp) _)
              exact HB0.out.trans (HB1.out.mono (by omega))
        · by_cases p2 : at_ < (d.dry.length : Int) / 32
          · have hhas : d.has at_ = true := by simp [Disk.has]; omega
            by_cases h8 : d.wet.length = 8192
            · have HL := Lib.hid (show write d at_ b = (Disk.zero, 7) by rw [write, if_pos HRY.out, hhas, if_pos rfl, if_pos h8])
              have t8 : ((d.wet.length : Int) == 8192) = true := by simp; omega
              have H8 := Lib.hid h8
              clear h8
              go_enter Try.func22, Try.ntmps22
              go_wp2_with fail
              rw [← hW0]
              clear hW0
              refine HCK.out.mono ?_
              rintro e w1 ⟨rfl, hb1⟩
              have br1 := HBOX.out w1 hb1
              have br2 := HRES.out w1 hb1
              have b1 : ∀ i, w1.cell? ⟨w.heap.size, i, none⟩ = #[Value.slice A d.dry.length c, Value.slice A' d.wet.length c', .int .i64 d.fuse, .bool d.dead][i]? := fun i => cell_of_row w1 _ i _ _ _ br1
              have b2 : ∀ i, w1.frozen? ⟨w.heap.size, i, none⟩ = false := fun i => by simp [World.frozen?, br1]
              have r1 : ∀ i, w1.cell? ⟨w.heap.size + 1, i, none⟩ = #[.slice none 0 0, .slice none 0 0, .int .i64 0, .bool false][i]? := fun i => cell_of_row w1 _ i _ _ _ br2
              have r2 : ∀ i, w1.frozen? ⟨w.heap.size + 1, i, none⟩ = false := fun i => by simp [World.frozen?, br2]
              have hl1 : w.heap.size < w1.heap.size := by have := hb1.size; omega
              have hl2 : w.heap.size + 1 < w1.heap.size := by have := hb1.size; omega
              clear br1 br2
              rw [HDD.out] at b1
              have HB1 := Lib.hid hb1
              clear hb1
              go_wp2_with fail
              rw [HL.out]
              refine bodyPost_ret (v := .tuple #[.agg #[.slice none 0 0, .slice none 0 0, .int .i64 0, .bool false], .int .i64 7]) ?_ rfl ?_
              · simp [results, Try.results22, go_sem, b1, b2, r1, r2, hl1, hl2]
              · refine ⟨_, rfl, DiskOwn.mono (base := W0.heap.size) ?_ (by omega), ?_⟩
                · repeat (refine DiskOwn.far ?_ (by simp; omega) _)
                  exact DiskOwn.zero _ _
                · repeat (refine Below.setCell ?_ (by simp) _)
                  exact HB0.out.trans (HB1.out.mono (by omega))
            · have t8 : ((d.wet.length : Int) == 8192) = false := by simp; omega
              have HL := Lib.hid (show write d at_ b = deed d (put at_ b) by rw [write, if_pos HRY.out, hhas, if_pos rfl, if_neg h8])
              have HBD := Lib.hid (show (burn d).1.wet = d.wet by unfold burn; split; rfl; split <;> rfl)
              rcases hbn : burn d with ⟨D, ok⟩
              rw [hbn] at HBN HBD
              have hw9 : D.wet.length ≤ 8192 := by rw [HBD.out]; exact hw8
              clear h8
              cases ok
              · have HE := Lib.hid (show deed d (put at_ b) = (D, 11) by simp [deed, hbn])
                clear hbn
                go_enter Try.func22, Try.ntmps22
                go_wp2_with fail
                rw [← hW0]
                clear hW0
                refine HCK.out.mono ?_
                rintro e w1 ⟨rfl, hb1⟩
                have br1 := HBOX.out w1 hb1
                have br2 := HRES.out w1 hb1
                have b1 : ∀ i, w1.cell? ⟨w.heap.size, i, none⟩ = #[Value.slice A d.dry.length c, Value.slice A' d.wet.length c', .int .i64 d.fuse, .bool d.dead][i]? := fun i => cell_of_row w1 _ i _ _ _ br1
                have b2 : ∀ i, w1.frozen? ⟨w.heap.size, i, none⟩ = false := fun i => by simp [World.frozen?, br1]
                have r1 : ∀ i, w1.cell? ⟨w.heap.size + 1, i, none⟩ = #[.slice none 0 0, .slice none 0 0, .int .i64 0, .bool false][i]? := fun i => cell_of_row w1 _ i _ _ _ br2
                have r2 : ∀ i, w1.frozen? ⟨w.heap.size + 1, i, none⟩ = false := fun i => by simp [World.frozen?, br2]
                have hl1 : w.heap.size < w1.heap.size := by have := hb1.size; omega
                have hl2 : w.heap.size + 1 < w1.heap.size := by have := hb1.size; omega
                clear br1 br2
                rw [HDD.out] at b1
                have HB1 := Lib.hid hb1
                clear hb1
                go_wp2_with fail
                clear b1 b2 r1 r2 hl1 hl2
                have hcp := HBN.out w1 HB1.out
                rw [HDD.out] at hcp
                refine hcp.mono ?_
                clear hcp
                rintro e w2 ⟨v2, rfl, hown, hb2⟩
                have hown := hown.mono HB1.out.size
                have hb2 := HB1.out.trans (hb2.mono HB1.out.size)
                have HWZ : w2.heap.size ≥ W0.heap.size := hb2.size
                obtain ⟨vd1, vw1, ys, rfl, ho1, ho2, hy⟩ := hown
                obtain ⟨B1, k1, rfl⟩ := own_slice ho1
                obtain ⟨B2, k2, rfl⟩ := own_slice ho2
                obtain ⟨W3, hW3⟩ : ∃ W3, W3 = resCells w2 w.heap.size (.slice B1 D.dry.length k1) (.slice B2 D.wet.length k2) (.int .i64 D.fuse) (.bool D.dead) := ⟨_, rfl⟩
                have HV := Lib.hid (in_var hz0 HB0.out hb2 HX0.out HX1.out ⟨_, _, ys, rfl, ho1, ho2, hy⟩ W3 hW3)
                simp only [resCells] at hW3
                have br1 := HX0.out.trans rfl
                have b0 := HBOX.out w2 hb2
                have b1 : ∀ i, w2.cell? ⟨w.heap.size, i, none⟩ = _ := fun i => cell_of_row w2 _ i _ _ _ b0
                have b2 : ∀ i, w2.frozen? ⟨w.heap.size, i, none⟩ = false := fun i => by simp [World.frozen?, b0]
                have hl1 : w.heap.size < w2.heap.size := by have := (hb2).size; omega
                clear b0 br1 ho1 ho2 hy
                go_upto_region 10 with fail
                rw [← hW3]
                clear b1 b2 hl1 hW3
                obtain ⟨HOWN, HBW, hs0, hs1⟩ := HV.out
                have HOWN := Lib.hid HOWN
                have HBW := Lib.hid HBW
                have b1 : ∀ i, W3.cell? ⟨w.heap.size, i, none⟩ = _ := fun i => cell_of_row W3 _ i _ _ _ hs0
                have b2 : ∀ i, W3.frozen? ⟨w.heap.size, i, none⟩ = false := fun i => by simp [World.frozen?, hs0]
                have r1 : ∀ i, W3.cell? ⟨w.heap.size + 1, i, none⟩ = _ := fun i => cell_of_row W3 _ i _ _ _ hs1
                have r2 : ∀ i, W3.frozen? ⟨w.heap.size + 1, i, none⟩ = false := fun i => by simp [World.frozen?, hs1]
                have hl1 : w.heap.size < W3.heap.size := (Array.getElem?_eq_some_iff.1 hs0).1
                have hl2 : w.heap.size + 1 < W3.heap.size := (Array.getElem?_eq_some_iff.1 hs1).1
                clear hs0 hs1
                clear hb2
                go_wp2_with fail
                rw [HL.out, HE.out]
                refine bodyPost_ret (v := .tuple #[.agg #[.slice B1 D.dry.length k1, .slice B2 D.wet.length k2, .int .i64 D.fuse, .bool D.dead], .int .i64 11]) ?_ rfl ?_
                · simp [results, Try.results22, go_sem, b1, b2, r1, r2, hl1, hl2]
                · refine ⟨_, rfl, DiskOwn.mono (base := W0.heap.size) ?_ (by omega), ?_⟩
                  · repeat (refine DiskOwn.far ?_ (by simp; omega) _)
                    exact HOWN.out
                  · repeat (refine Below.setCell ?_ (by simp) _)
                    exact HBW.out
              · have HE := Lib.hid (show deed d (put at_ b) = (put at_ b D, 0) by simp [deed, hbn])
                clear hbn
                go_enter Try.func22, Try.ntmps22
                go_wp2_with fail
                rw [← hW0]
                clear hW0
                refine HCK.out.mono ?_
                rintro e w1 ⟨rfl, hb1⟩
                have br1 := HBOX.out w1 hb1
                have br2 := HRES.out w1 hb1
                have b1 : ∀ i, w1.cell? ⟨w.heap.size, i, none⟩ = #[Value.slice A d.dry.length c, Value.slice A' d.wet.length c', .int .i64 d.fuse, .bool d.dead][i]? := fun i => cell_of_row w1 _ i _ _ _ br1
                have b2 : ∀ i, w1.frozen? ⟨w.heap.size, i, none⟩ = false := fun i => by simp [World.frozen?, br1]
                have r1 : ∀ i, w1.cell? ⟨w.heap.size + 1, i, none⟩ = #[.slice none 0 0, .slice none 0 0, .int .i64 0, .bool false][i]? := fun i => cell_of_row w1 _ i _ _ _ br2
                have r2 : ∀ i, w1.frozen? ⟨w.heap.size + 1, i, none⟩ = false := fun i => by simp [World.frozen?, br2]
                have hl1 : w.heap.size < w1.heap.size := by have := hb1.size; omega
                have hl2 : w.heap.size + 1 < w1.heap.size := by have := hb1.size; omega
                clear br1 br2
                rw [HDD.out] at b1
                have HB1 := Lib.hid hb1
                clear hb1
                go_wp2_with fail
                clear b1 b2 r1 r2 hl1 hl2
                have hcp := HBN.out w1 HB1.out
                rw [HDD.out] at hcp
                refine hcp.mono ?_
                clear hcp
                rintro e w2 ⟨v2, rfl, hown, hb2⟩
                have hown := hown.mono HB1.out.size
                have hb2 := HB1.out.trans (hb2.mono HB1.out.size)
                have HWZ : w2.heap.size ≥ W0.heap.size := hb2.size
                obtain ⟨vd1, vw1, ys, rfl, ho1, ho2, hy⟩ := hown
                obtain ⟨B1, k1, rfl⟩ := own_slice ho1
                obtain ⟨B2, k2, rfl⟩ := own_slice ho2
                obtain ⟨W3, hW3⟩ : ∃ W3, W3 = resCells w2 w.heap.size (.slice B1 D.dry.length k1) (.slice B2 D.wet.length k2) (.int .i64 D.fuse) (.bool D.dead) := ⟨_, rfl⟩
                have HV := Lib.hid (in_var hz0 HB0.out hb2 HX0.out HX1.out ⟨_, _, ys, rfl, ho1, ho2, hy⟩ W3 hW3)
                simp only [resCells] at hW3
                have br1 := HX0.out.trans rfl
                have b0 := HBOX.out w2 hb2
                have b1 : ∀ i, w2.cell? ⟨w.heap.size, i, none⟩ = _ := fun i => cell_of_row w2 _ i _ _ _ b0
                have b2 : ∀ i, w2.frozen? ⟨w.heap.size, i, none⟩ = false := fun i => by simp [World.frozen?, b0]
                have hl1 : w.heap.size < w2.heap.size := by have := (hb2).size; omega
                clear b0 br1 ho1 ho2 hy
                go_upto_region 10 with fail
                rw [← hW3]
                clear b1 b2 hl1 hW3
                obtain ⟨HOWN, HBW, hs0, hs1⟩ := HV.out
                have HOWN := Lib.hid HOWN
                have HBW := Lib.hid HBW
                have b1 : ∀ i, W3.cell? ⟨w.heap.size, i, none⟩ = _ := fun i => cell_of_row W3 _ i _ _ _ hs0
                have b2 : ∀ i, W3.frozen? ⟨w.heap.size, i, none⟩ = false := fun i => by simp [World.frozen?, hs0]
                have r1 : ∀ i, W3.cell? ⟨w.heap.size + 1, i, none⟩ = _ := fun i => cell_of_row W3 _ i _ _ _ hs1
                have r2 : ∀ i, W3.frozen? ⟨w.heap.size + 1, i, none⟩ = false := fun i => by simp [World.frozen?, hs1]
                have hl1 : w.heap.size < W3.heap.size := (Array.getElem?_eq_some_iff.1 hs0).1
                have hl2 : w.heap.size + 1 < W3.heap.size := (Array.getElem?_eq_some_iff.1 hs1).1
                clear hs0 hs1
                clear hb2
                obtain ⟨ys1, ho1, ho2, hy⟩ := split_own HOWN.out
                have HO1 := Lib.hid ho1
                have HO2 := Lib.hid ho2
                have HY := Lib.hid hy
                have hb3 : W0.heap.size ≤ W3.heap.size := by omega
                have HNE := Lib.hid (own_blk_ne ho2 HV.out.2.2.1 (by decide))
                have HNF := Lib.hid (own_blk_ne ho2 HV.out.2.2.2 (by decide))
                have q0 : W3.cell? ⟨w.heap.size, 1, none⟩ = some (.slice B2 D.wet.length k2) := (b1 1).trans rfl
                have Q0 := Lib.hid q0
                clear ho1 ho2 hy b1 b2 r1 r2
                generalize hN : D.wet.length = N at *
                have HN := Lib.hid hN
                clear hN
                go_wp2_with fail
                go_region_law (first
                  | (refine step_append_cells _ rfl (.tmp 46) (.tmp 51) 23 rfl W0.heap.size 70 iw _ 2 32 Try.underlying23 hiw hzw hsw hbw rfl (by decide) (.slice B2 N k2) N ys1 rfl (own_below HO2.out (HBE.out.alloc (by omega) _) fun k hk => (HO2.out.lt k hk).2) (fun _ => True) (some ⟨w1.heap.size, 0, none⟩) 1 1 [.int .i64 at_, .slice A1 b.length k9] rfl rfl (cells_new (heap_alloc_new w1 _) trivial) (by simp [Value.oneCell']) (by unfold maxLen; omega) (by omega) (by simp; omega) ?_
                     intro v2 w2 hown2 hgr2 hat2
                     have s1 : w2.heap[w.heap.size]? = some (.cells #[.slice B1 D.dry.length k1, .slice B2 N k2, .int .i64 D.fuse, .bool D.dead] 25 (0, 0)) := ((hgr2.block w.heap.size (by simp; omega) (fun e => HNE.out _ e.symm rfl)).trans ((HBE.out.alloc (by omega) _).block w.heap.size hl1)).trans HV.out.2.2.1
                     have s4 : w2.heap[w.heap.size + 1]? = some (.cells #[.slice none 0 0, .slice none 0 0, .int .i64 0, .bool false] 25 (0, 0)) := ((hgr2.block (w.heap.size + 1) (by simp; omega) (fun e => HNF.out _ e.symm rfl)).trans ((HBE.out.alloc (by omega) _).block (w.heap.size + 1) hl2)).trans HV.out.2.2.2
                     have s2 : w2.cell? ⟨w.heap.size, 1, none⟩ = some (.slice B2 N k2) := (cell_of_row w2 _ 1 _ _ _ s1).trans rfl
                     have s3 : w2.frozen? ⟨w.heap.size, 1, none⟩ = false := by simp [World.frozen?, s1]
                     obtain ⟨A3, k3, rfl⟩ := own_slice hown2
                     have HOWN2 := Lib.hid hown2
                     have HGR2 := Lib.hid hgr2
                     have HAT2 := Lib.hid hat2
                     have S4 := Lib.hid s4
                     clear s1 hown2 hgr2 hat2 s4)
                  | (refine step_append_cells _ rfl (.const (.slice none 0 0)) (.tmp 48) 22 rfl W3.heap.size 5 i0 (.int .u8 0) 1 1 Try.underlying22 hi0 hz0' hz1' hz2' rfl (by decide) (.slice none 0 0) 0 [] rfl (World.ownsRow_nil _ _ _ _) (fun _ => True) A0 b.length c0 (octets b) rfl HOB.out ?_ octets_one ?_ ?_ ?_ ?_
                     focus (first | exact HCB.out.below HBW.out | exact HCB.out.below HBW.out.drew)
                     focus (unfold maxLen; omega)
                     focus (have := H1.out; omega)
                     focus (first | exact Nat.le_refl _ | simp)
                     rintro v1 w1 hown1 hgr1 -
                     have hb1 : Below W3.heap.size W3 w1 := Below.grown (by first | exact Below.refl _ _ | exact (Below.refl _ _).drew) hgr1 (by simp) (fun j hj => nomatch (show (none : Option Nat) = some j from hj))
                     simp only [Nat.zero_add, List.nil_append] at hown1
                     obtain ⟨A1, k9, rfl⟩ := own_slice hown1
                     have q6 : w1.cell? ⟨w.heap.size, 1, none⟩ = some (.slice B2 N k2) := (hb1.cell (p := ⟨w.heap.size, 1, none⟩) hl1).trans Q0.out
                     have hsz1 : W3.heap.size ≤ w1.heap.size := hb1.size
                     have hg1 : w.heap.size < w1.heap.size := by omega
                     have HBE := Lib.hid hb1
                     have HOWN1 := Lib.hid hown1
                     clear hown1 hgr1 hb1))
                all_goals (
                  have hN := HN.out
                  subst hN
                  have HFIN := Lib.hid (put_own HV.out.2.2.1 (by omega) hb3 HO1.out HO2.out HY.out HBE.out HOWN1.out HOWN2.out HGR2.out HAT2.out)
                  go_upto_region 13 with fail
                  obtain ⟨W4, hW4⟩ : ∃ W4, W4 = w2.setCell { block := w.heap.size, off := 1 } (Value.slice A3 (D.wet.length + 1) k3) := ⟨_, rfl⟩
                  rw [← hW4] at HFIN ⊢
                  have hs1 : W4.heap[w.heap.size + 1]? = some (.cells #[.slice none 0 0, .slice none 0 0, .int .i64 0, .bool false] 25 (0, 0)) := by
                    rw [hW4, blk_far (by simp)]
                    exact S4.out
                  have hs0 := HFIN.out.2.1
                  clear hW4 s2 s3
                  have b1 : ∀ i, W4.cell? ⟨w.heap.size, i, none⟩ = _ := fun i => cell_of_row W4 _ i _ _ _ hs0
                  have b2 : ∀ i, W4.frozen? ⟨w.heap.size, i, none⟩ = false := fun i => by simp [World.frozen?, hs0]
                  have r1 : ∀ i, W4.cell? ⟨w.heap.size + 1, i, none⟩ = _ := fun i => cell_of_row W4 _ i _ _ _ hs1
                  have r2 : ∀ i, W4.frozen? ⟨w.heap.size + 1, i, none⟩ = false := fun i => by simp [World.frozen?, hs1]
                  have hl3 : w.heap.size < W4.heap.size := (Array.getElem?_eq_some_iff.1 hs0).1
                  have hl4 : w.heap.size + 1 < W4.heap.size := (Array.getElem?_eq_some_iff.1 hs1).1
                  clear hs0 hs1
                  go_wp2_with fail
                  rw [HL.out, HE.out]
                  refine bodyPost_ret (v := .tuple #[.agg #[.slice B1 D.dry.length k1, .slice A3 (D.wet.length + 1) k3, .int .i64 D.fuse, .bool D.dead], .int .i64 0]) ?_ rfl ?_
                  · simp [results, Try.results22, go_sem, b1, b2, r1, r2, hl1, hl2, hl3, hl4]
                  · refine ⟨_, rfl, DiskOwn.mono (base := W0.heap.size) ?_ (by omega), ?_⟩
                    · repeat (refine DiskOwn.far ?_ (by simp; omega) _)
                      exact HFIN.out.2.2
                    · repeat (refine Below.setCell ?_ (by simp) _)
                      exact HBW.out.trans HFIN.out.1)
          · have HL := Lib.hid (show write d at_ b = (Disk.zero, 5) by
              have : d.has at_ = false := by simp [Disk.has]; omega
              rw [write, if_pos HRY.out, this]; rfl)
            go_enter Try.func22, Try.ntmps22
            go_wp2_with fail
            rw [← hW0]
            clear hW0
            refine HCK.out.mono ?_
            rintro e w1 ⟨rfl, hb1⟩
            have br1 := HBOX.out w1 hb1
            have br2 := HRES.out w1 hb1
            have b1 : ∀ i, w1.cell? ⟨w.heap.size, i, none⟩ = #[Value.slice A d.dry.length c, Value.slice A' d.wet.length c', .int .i64 d.fuse, .bool d.dead][i]? := fun i => cell_of_row w1 _ i _ _ _ br1
            have b2 : ∀ i, w1.frozen? ⟨w.heap.size, i, none⟩ = false := fun i => by simp [World.frozen?, br1]
            have r1 : ∀ i, w1.cell? ⟨w.heap.size + 1, i, none⟩ = #[.slice none 0 0, .slice none 0 0, .int .i64 0, .bool false][i]? := fun i => cell_of_row w1 _ i _ _ _ br2
            have r2 : ∀ i, w1.frozen? ⟨w.heap.size + 1, i, none⟩ = false := fun i => by simp [World.frozen?, br2]
            have hl1 : w.heap.size < w1.heap.size := by have := hb1.size; omega
            have hl2 : w.heap.size + 1 < w1.heap.size := by have := hb1.size; omega
            clear br1 br2
            rw [HDD.out] at b1
            have HB1 := Lib.hid hb1
            clear hb1
            go_wp2_with fail
            rw [HL.out]
            refine bodyPost_ret (v := .tuple #[.agg #[.slice none 0 0, .slice none 0 0, .int .i64 0, .bool false], .int .i64 5]) ?_ rfl ?_
            · simp [results, Try.results22, go_sem, b1, b2, r1, r2, hl1, hl2]
            · refine ⟨_, rfl, DiskOwn.mono (base := W0.heap.size) ?_ (by omega), ?_⟩
              · repeat (refine DiskOwn.far ?_ (by simp; omega) _)
                exact DiskOwn.zero _ _
              · repeat (refine Below.setCell ?_ (by simp) _)
                exact HB0.out.trans (HB1.out.mono (by omega))
      · replace hd : d.dead = true := by simpa using hd
        have HL := Lib.hid (show write d at_ b = (Disk.zero, 11) by simp [write, ready, HOK.out, H1.out, hd])
        have HDD := Lib.hid hd
        clear hd
        go_enter Try.func22, Try.ntmps22
        go_wp2_with fail
        rw [← hW0]
        clear hW0
        refine HCK.out.mono ?_
        rintro e w1 ⟨rfl, hb1⟩
        have br1 := HBOX.out w1 hb1
        have br2 := HRES.out w1 hb1
        have b1 : ∀ i, w1.cell? ⟨w.heap.size, i, none⟩ = #[Value.slice A d.dry.length c, Value.slice A' d.wet.length c', .int .i64 d.fuse, .bool d.dead][i]? := fun i => cell_of_row w1 _ i _ _ _ br1
        have b2 : ∀ i, w1.frozen? ⟨w.heap.size, i, none⟩ = false := fun i => by simp [World.frozen?, br1]
        have r1 : ∀ i, w1.cell? ⟨w.heap.size + 1, i, none⟩ = #[.slice none 0 0, .slice none 0 0, .int .i64 0, .bool false][i]? := fun i => cell_of_row w1 _ i _ _ _ br2
        have r2 : ∀ i, w1.frozen? ⟨w.heap.size + 1, i, none⟩ = false := fun i => by simp [World.frozen?, br2]
        have hl1 : w.heap.size < w1.heap.size := by have := hb1.size; omega
        have hl2 : w.heap.size + 1 < w1.heap.size := by have := hb1.size; omega
        clear br1 br2
        rw [HDD.out] at b1
        have HB1 := Lib.hid hb1
        clear hb1
        go_wp2_with fail
        rw [HL.out]
        refine bodyPost_ret (v := .tuple #[.agg #[.slice none 0 0, .slice none 0 0, .int .i64 0, .bool false], .int .i64 11]) ?_ rfl ?_
        · simp [results, Try.results22, go_sem, b1, b2, r1, r2, hl1, hl2]
        · refine ⟨_, rfl, DiskOwn.mono (base := W0.heap.size) ?_ (by omega), ?_⟩
          · repeat (refine DiskOwn.far ?_ (by simp; omega) _)
            exact DiskOwn.zero _ _
          · repeat (refine Below.setCell ?_ (by simp) _)
            exact HB0.out.trans (HB1.out.mono (by omega))
    · have t1 : ((b.length : Int) != 32) = true := by simp; omega
      have HL := Lib.hid (show write d at_ b = (Disk.zero, 1) by simp [write, ready, HOK.out, h1])
      clear h1
      go_enter Try.func22, Try.ntmps22
      go_wp2_with fail
      rw [← hW0]
      clear hW0
      refine HCK.out.mono ?_
      rintro e w1 ⟨rfl, hb1⟩
      have br1 := HBOX.out w1 hb1
      have br2 := HRES.out w1 hb1
      have b1 : ∀ i, w1.cell? ⟨w.heap.size, i, none⟩ = #[Value.slice A d.dry.length c, Value.slice A' d.wet.length c', .int .i64 d.fuse, .bool d.dead][i]? := fun i => cell_of_row w1 _ i _ _ _ br1
      have b2 : ∀ i, w1.frozen? ⟨w.heap.size, i, none⟩ = false := fun i => by simp [World.frozen?, br1]
      have r1 : ∀ i, w1.cell? ⟨w.heap.size + 1, i, none⟩ = #[.slice none 0 0, .slice none 0 0, .int .i64 0, .bool false][i]? := fun i => cell_of_row w1 _ i _ _ _ br2
      have r2 : ∀ i, w1.frozen? ⟨w.heap.size + 1, i, none⟩ = false := fun i => by simp [World.frozen?, br2]
      have hl1 : w.heap.size < w1.heap.size := by have := hb1.size; omega
      have hl2 : w.heap.size + 1 < w1.heap.size := by have := hb1.size; omega
      clear br1 br2
      have HB1 := Lib.hid hb1
      clear hb1
      go_wp2_with fail
      rw [HL.out]
      refine bodyPost_ret (v := .tuple #[.agg #[.slice none 0 0, .slice none 0 0, .int .i64 0, .bool false], .int .i64 1]) ?_ rfl ?_
      · simp [results, Try.results22, go_sem, b1, b2, r1, r2, hl1, hl2]
      · refine ⟨_, rfl, DiskOwn.mono (base := W0.heap.size) ?_ (by omega), ?_⟩
        · repeat (refine DiskOwn.far ?_ (by simp; omega) _)
          exact DiskOwn.zero _ _
        · repeat (refine Below.setCell ?_ (by simp) _)
          exact HB0.out.trans (HB1.out.mono (by omega))

end Go.Proofs.Ytikobhckkbicaaa
