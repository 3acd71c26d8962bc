/- Contracts: Flush, Write, Crash, Lit, New. -/
import Derived.Test.YtdbioekmhlgolaaF
import Derived.Test.YtdbioekmhlgolaaB
namespace Go.Proofs.Ytdbioekmhlgolaa
open Go.RowKit Dk

theorem heap_first (w : World) (a : Obj) : (w.alloc a).heap[w.heap.size]? = some a := heap_alloc_new w a
theorem heap_thirdly (w : World) (a b c : Obj) : (((w.alloc a).alloc b).alloc c).heap[w.heap.size + 1 + 1]? = some c := by
  have h := heap_alloc_new ((w.alloc a).alloc b) c
  rw [World.size_alloc, World.size_alloc] at h
  exact h

theorem DiskOwn.zero (w : World) (base : Nat) : DiskOwn w base (.agg #[.slice none 0 0, .slice none 0 0, .int .i64 0, .bool false]) Disk.zero :=
  ⟨_, _, [], rfl, World.ownsRow_nil _ _ _ _, World.ownsRow_nil _ _ _ _, by simp [Disk.zero], fun j x hx => by simp [Disk.zero] at hx⟩

/-- A disk is told as a result. -/
theorem tell_end {w w3 : World} {base b : Nat} {x0 x1 x2 x3 : Value} {d : Disk} (h : DiskOwn w3 base (.agg #[x0, x1, x2, x3]) d) (hb : b < base) (hwb : w.heap.size ≤ b) (hbl : Below w.heap.size w w3) :
    DiskOwn (resCells w3 b x0 x1 x2 x3) w.heap.size (.agg #[x0, x1, x2, x3]) d ∧ Below w.heap.size w (resCells w3 b x0 x1 x2 x3) :=
  ⟨(h.res hb _ _ _ _).mono (by omega), below_res hbl hwb _ _ _ _⟩

theorem Disk.ok_small {d : Disk} (h : d.ok = true) : Small d ∧ d.fuse ≤ 1073741824 ∧ -1 ≤ d.fuse ∧ d.wet.length ≤ 8192 := by
  simp only [Disk.ok, Bool.and_eq_true, decide_eq_true_eq, List.all_eq_true] at h
  obtain ⟨⟨h1, h2, h3, h4, h5, h6⟩, h7⟩ := h
  refine ⟨⟨by omega, by omega, fun x hx => ?_⟩, h6, h5, h4⟩
  have := h7 x hx
  simp only [okWr, decide_eq_true_eq] at this
  exact this.1

theorem ready_zero {d : Disk} {fine : Bool} (h : ready d fine = 0) : d.ok = true ∧ fine = true ∧ d.dead = false := by
  unfold ready at h
  cases h1 : d.ok <;> cases h2 : fine <;> cases h3 : d.dead <;> simp [h1, h2, h3] at h ⊢

theorem burn_ok {d : Disk} (h : d.ok = true) : (burn d).1.ok = true := by
  unfold burn
  simp only [Disk.ok, Bool.and_eq_true, decide_eq_true_eq] at h ⊢
  split
  · exact h
  · split
    · exact h
    · refine ⟨⟨h.1.1, h.1.2.1, h.1.2.2.1, h.1.2.2.2.1, ?_, ?_⟩, h.2⟩ <;> simp only <;> omega

set_option maxRecDepth 4000 in
set_option maxHeartbeats 1000000 in
theorem flush_any (v : Value) (d : Disk) (w : World) (h : DiskR w (fun _ => True) v d) : Calls Try.prog 17 #[v] w (GivesDE w (flush d)) := by
  have HD := Lib.hid h
  obtain ⟨vd, vw, rfl, ⟨A, c, rfl, _⟩, A', c', xs, rfl, _⟩ := h
  obtain ⟨W0, hW0⟩ : ∃ W0, W0 = (w.alloc (Obj.cells #[Value.slice A d.dry.length c, Value.slice A' d.wet.length c', .int .i64 d.fuse, .bool d.dead] 25)).alloc (Obj.cells #[.slice none 0 0, .slice none 0 0, .int .i64 0, .bool false] 25) := ⟨_, rfl⟩
  have hb0 : Below w.heap.size w W0 := by rw [hW0]; exact (below_new _ _).alloc (by simp) _
  have hz0 : W0.heap.size = w.heap.size + 2 := by rw [hW0]; simp
  have hres : W0.heap[w.heap.size + 1]? = some (.cells #[.slice none 0 0, .slice none 0 0, .int .i64 0, .bool false] 25 (0, 0)) := by
    have := heap_alloc_new (w.alloc (Obj.cells #[Value.slice A d.dry.length c, Value.slice A' d.wet.length c', .int .i64 d.fuse, .bool d.dead] 25)) (Obj.cells #[.slice none 0 0, .slice none 0 0, .int .i64 0, .bool false] 25)
    rw [World.size_alloc] at this
    rw [hW0]
    exact this
  have hbox : W0.heap[w.heap.size]? = some (.cells #[Value.slice A d.dry.length c, Value.slice A' d.wet.length c', .int .i64 d.fuse, .bool d.dead] 25 (0, 0)) := by
    rw [hW0, Below.heap_alloc _ _ _ (by simp)]
    exact heap_alloc_new _ _
  have HRD := Lib.hid (ready_any _ d true W0 (HD.out.below hb0))
  have HRES := Lib.hid hres
  have HBOX := Lib.hid hbox
  have HB0 := Lib.hid hb0
  clear hres hb0 hbox
  generalize hrr : ready d true = rr at *
  have HRR := Lib.hid hrr
  clear hrr
  by_cases h0 : rr = 0
  · subst h0
    obtain ⟨hok, _, hdead⟩ := ready_zero HRR.out
    obtain ⟨hsm, hf1, hf2, hwl⟩ := Disk.ok_small hok
    have hdeed : ∀ W1, Below W0.heap.size W0 W1 → Calls Try.prog 35 #[.agg #[Value.slice A d.dry.length c, Value.slice A' d.wet.length c', .int .i64 d.fuse, .bool d.dead], .func (.func 38) #[] #[]] W1 (GivesDE W1 (deed d (dryAll fun _ => 32))) := fun W1 hb1 =>
      deed_any _ _ _ _ _ d W1 (.inl ⟨rfl, rfl⟩) ((HD.out.below HB0.out).below hb1) hsm hf1 hf2 (flushIt_any W1) (burn_ok hok)
    have HDEED := Lib.hid hdeed
    clear hdeed hok hdead hsm hf1 hf2 hwl
    go_enter Try.func17, Try.ntmps17
    go_wp2_with fail
    rw [← hW0]
    clear hW0
    refine HRD.out.mono ?_
    rintro e w1 ⟨rfl, hbe⟩
    have hbx := (hbe.block w.heap.size (by omega)).trans HBOX.out
    have b1 : ∀ i, w1.cell? ⟨w.heap.size, i, none⟩ = #[Value.slice A d.dry.length c, Value.slice A' d.wet.length c', .int .i64 d.fuse, .bool d.dead][i]? := fun i => cell_of_row w1 _ i _ _ _ hbx
    have hz1 := hbe.size
    have HBE := Lib.hid hbe
    clear hbx hbe
    go_wp2_with fail
    refine (HDEED.out w1 HBE.out).mono ?_
    rintro e w3 ⟨v3, rfl, hown, hbe3⟩
    have hz3 := hbe3.size
    have hr3 := (hbe3.block (w.heap.size + 1) (by omega)).trans ((HBE.out.block (w.heap.size + 1) (by omega)).trans HRES.out)
    have r1 : ∀ i, w3.cell? ⟨w.heap.size + 1, i, none⟩ = #[.slice none 0 0, .slice none 0 0, .int .i64 0, .bool false][i]? := fun i => cell_of_row w3 _ i _ _ _ hr3
    have r2 : ∀ i, w3.frozen? ⟨w.heap.size + 1, i, none⟩ = false := fun i => by simp [World.frozen?, hr3]
    have hlt3 : w.heap.size + 1 < w3.heap.size := by omega
    have HOWN := Lib.hid hown
    obtain ⟨vd3, vw3, ys, rfl, ho1, ho2, _⟩ := hown
    obtain ⟨B1, k1, rfl⟩ := own_slice ho1
    obtain ⟨B2, k2, rfl⟩ := own_slice ho2
    have hfin := tell_end HOWN.out (b := w.heap.size + 1) (by omega) (by omega) (HB0.out.trans ((HBE.out.mono (by omega)).trans (hbe3.mono (by omega))))
    simp only [resCells] at hfin
    have HFIN := Lib.hid hfin
    clear hr3 hfin hbe3 ho1 ho2 b1
    go_wp2_with fail
    have hfl : flush d = deed d (dryAll fun _ => 32) := by simp [flush, HRR.out]
    rw [hfl]
    refine bodyPost_ret (v := .tuple #[.agg #[.slice B1 (deed d (dryAll fun _ => 32)).1.dry.length k1, .slice B2 (deed d (dryAll fun _ => 32)).1.wet.length k2, .int .i64 (deed d (dryAll fun _ => 32)).1.fuse, .bool (deed d (dryAll fun _ => 32)).1.dead], .int .i64 (deed d (dryAll fun _ => 32)).2]) ?_ rfl ?_
    · simp [results, Try.results17, go_sem, r1, r2, hlt3]
    · exact ⟨_, rfl, HFIN.out.1, HFIN.out.2⟩
  · have t0 : (rr != 0) = true := by simpa using h0
    go_enter Try.func17, Try.ntmps17
    go_wp2_with fail
    rw [← hW0]
    clear hW0
    refine HRD.out.mono ?_
    rintro e w1 ⟨rfl, hbe⟩
    have hr1 := (hbe.block (w.heap.size + 1) (by omega)).trans HRES.out
    have r1 : ∀ i, w1.cell? ⟨w.heap.size + 1, i, none⟩ = #[.slice none 0 0, .slice none 0 0, .int .i64 0, .bool false][i]? := fun i => cell_of_row w1 _ i _ _ _ hr1
    have r2 : ∀ i, w1.frozen? ⟨w.heap.size + 1, i, none⟩ = false := fun i => by simp [World.frozen?, hr1]
    have hz1 := hbe.size
    have hlt1 : w.heap.size + 1 < w1.heap.size := by omega
    have hfin := tell_end (DiskOwn.zero w1 (w.heap.size + 2)) (b := w.heap.size + 1) (by omega) (by omega) (HB0.out.trans (hbe.mono (by omega)))
    simp only [resCells] at hfin
    have HFIN := Lib.hid hfin
    clear hr1 hfin hbe
    go_wp2_with fail
    have hfl : flush d = (Disk.zero, rr) := by simp [flush, HRR.out, h0]
    rw [hfl]
    refine bodyPost_ret (v := .tuple #[.agg #[.slice none 0 0, .slice none 0 0, .int .i64 0, .bool false], .int .i64 rr]) ?_ rfl ?_
    · simp [results, Try.results17, go_sem, r1, r2, hlt1]
    · exact ⟨_, rfl, HFIN.out.1, HFIN.out.2⟩

set_option maxRecDepth 4000 in
set_option maxHeartbeats 1000000 in
theorem write_any (v vb : Value) (d : Disk) (at_ : Int) (b : List UInt8) (w : World) (h : DiskR w (fun _ => True) v d) (hb : Bs w (fun _ => True) vb b) :
    Calls Try.prog 15 #[v, .int .i64 at_, vb] w (GivesDE w (write d at_ b)) := by
  have HD := Lib.hid h
  have HBS := Lib.hid hb
  obtain ⟨vd, vw, rfl, ⟨A, c, rfl, _⟩, A', c', xs, rfl, hwc, hwm, _⟩ := h
  obtain ⟨A0, c0, rfl, hc0, hc1, _⟩ := hb
  obtain ⟨W0, hW0⟩ : ∃ W0, W0 = (((w.alloc (Obj.cells #[Value.slice A d.dry.length c, Value.slice A' d.wet.length c', .int .i64 d.fuse, .bool d.dead] 25)).alloc (Obj.cells #[.int .i64 at_] 3)).alloc (Obj.cells #[.slice A0 b.length c0] 22)).alloc (Obj.cells #[.slice none 0 0, .slice none 0 0, .int .i64 0, .bool false] 25) := ⟨_, rfl⟩
  have hb0 : Below w.heap.size w W0 := by rw [hW0]; exact (((below_new _ _).alloc (by simp) _).alloc (by simp; omega) _).alloc (by simp; omega) _
  have hz0 : W0.heap.size = w.heap.size + 4 := by rw [hW0]; simp
  have hres : W0.heap[w.heap.size + 1 + 1 + 1]? = some (.cells #[.slice none 0 0, .slice none 0 0, .int .i64 0, .bool false] 25 (0, 0)) := by
    have := heap_alloc_new (((w.alloc (Obj.cells #[Value.slice A d.dry.length c, Value.slice A' d.wet.length c', .int .i64 d.fuse, .bool d.dead] 25)).alloc (Obj.cells #[.int .i64 at_] 3)).alloc (Obj.cells #[.slice A0 b.length c0] 22)) (Obj.cells #[.slice none 0 0, .slice none 0 0, .int .i64 0, .bool false] 25)
    rw [World.size_alloc, World.size_alloc, World.size_alloc] at this
    rw [hW0]
    exact this
  have hbox : W0.heap[w.heap.size]? = some (.cells #[Value.slice A d.dry.length c, Value.slice A' d.wet.length c', .int .i64 d.fuse, .bool d.dead] 25 (0, 0)) := by
    rw [hW0, Below.heap_alloc _ _ _ (by simp; omega), Below.heap_alloc _ _ _ (by simp; omega), Below.heap_alloc _ _ _ (by simp)]
    exact heap_alloc_new _ _
  have hbox1 : W0.heap[w.heap.size + 1]? = some (.cells #[.int .i64 at_] 3 (0, 0)) := by
    rw [hW0, Below.heap_alloc _ _ _ (by simp), Below.heap_alloc _ _ _ (by simp)]
    exact heap_second _ _ _
  have hbox2 : W0.heap[w.heap.size + 1 + 1]? = some (.cells #[.slice A0 b.length c0] 22 (0, 0)) := by
    rw [hW0, Below.heap_alloc _ _ _ (by simp)]
    exact heap_thirdly _ _ _ _
  have hbq : ((b.length : Int) == 32) = decide (b.length = 32) := by
    by_cases h : b.length = 32
    · simp [h]
    · rw [decide_eq_false h]; exact beq_eq_false_iff_ne.2 (by omega)
  have HRD := Lib.hid (ready_any _ d ((b.length : Int) == 32) W0 (HD.out.below hb0))
  have HRES := Lib.hid hres
  have HBOX := Lib.hid hbox
  have HBOX1 := Lib.hid hbox1
  have HBOX2 := Lib.hid hbox2
  have HBQ := Lib.hid hbq
  have HB0 := Lib.hid hb0
  clear hres hb0 hbox hbox1 hbox2 hbq
  unfold maxLen at hc1 hwm
  generalize hrr : ready d ((b.length : Int) == 32) = rr at *
  have HRR : Hid (ready d (decide (b.length = 32)) = rr) := by rw [← HBQ.out]; exact hrr
  clear hrr
  by_cases h0 : rr = 0
  · subst h0
    obtain ⟨hok, hbl, hdead⟩ := ready_zero HRR.out
    obtain ⟨hsm, hf1, hf2, hwl⟩ := Disk.ok_small hok
    have hbl32 : b.length = 32 := of_decide_eq_true hbl
    have HSM := Lib.hid hsm
    have HOK := Lib.hid hok
    have HB32 := Lib.hid hbl32
    have HWL := Lib.hid hwl
    have HTH := Lib.hid (fun W1 (hb1 : Below W0.heap.size W0 W1) => isThere_any _ d at_ W1 ((HD.out.below HB0.out).below hb1))
    clear hok hdead hsm hbl hbl32
    generalize hh : d.has at_ = hs at *
    have HH := Lib.hid hh
    clear hh
    cases hs
    · go_enter Try.func15, Try.ntmps15
      go_wp2_with fail
      rw [← hW0]
      clear hW0
      refine HRD.out.mono ?_
      rintro e w1 ⟨rfl, hbe⟩
      have hbx := (hbe.block w.heap.size (by omega)).trans HBOX.out
      have hbx1 := (hbe.block (w.heap.size + 1) (by omega)).trans HBOX1.out
      have b1 : ∀ i, w1.cell? ⟨w.heap.size, i, none⟩ = #[Value.slice A d.dry.length c, Value.slice A' d.wet.length c', .int .i64 d.fuse, .bool d.dead][i]? := fun i => cell_of_row w1 _ i _ _ _ hbx
      have b2 : ∀ i, w1.cell? ⟨w.heap.size + 1, i, none⟩ = #[.int .i64 at_][i]? := fun i => cell_of_row w1 _ i _ _ _ hbx1
      have HBE := Lib.hid hbe
      clear hbx hbx1 hbe
      go_wp2_with fail
      refine (HTH.out w1 HBE.out).mono ?_
      rintro e w2 ⟨rfl, hbe2⟩
      have hbe3 : Below W0.heap.size W0 w2 := HBE.out.trans (hbe2.mono HBE.out.size)
      have HBE3 := Lib.hid hbe3
      clear hbe2 hbe3 b1 b2
      have hr1 := (HBE3.out.block (w.heap.size + 1 + 1 + 1) (by omega)).trans HRES.out
      have r1 : ∀ i, w2.cell? ⟨w.heap.size + 1 + 1 + 1, i, none⟩ = #[.slice none 0 0, .slice none 0 0, .int .i64 0, .bool false][i]? := fun i => cell_of_row w2 _ i _ _ _ hr1
      have r2 : ∀ i, w2.frozen? ⟨w.heap.size + 1 + 1 + 1, i, none⟩ = false := fun i => by simp [World.frozen?, hr1]
      have hltx : w.heap.size + 1 + 1 + 1 < w2.heap.size := by have := HBE3.out.size; omega
      have hfin := tell_end (DiskOwn.zero w2 (w.heap.size + 4)) (b := w.heap.size + 1 + 1 + 1) (by omega) (by omega) (HB0.out.trans (HBE3.out.mono (by omega)))
      simp only [resCells] at hfin
      have HFIN := Lib.hid hfin
      clear hr1 hfin
      go_wp2_with fail
      have hfl : write d at_ b = (Disk.zero, 5) := by simp [write, HRR.out, HH.out]
      rw [hfl]
      refine bodyPost_ret (v := .tuple #[.agg #[.slice none 0 0, .slice none 0 0, .int .i64 0, .bool false], .int .i64 5]) ?_ rfl ?_
      · simp [results, Try.results15, go_sem, r1, r2, hltx]
      · exact ⟨_, rfl, HFIN.out.1, HFIN.out.2⟩
    · by_cases h8 : d.wet.length = 8192
      · have t8 : ((d.wet.length : Int) == 8192) = true := by simp [h8]
        have H8 := Lib.hid h8
        clear h8
        go_enter Try.func15, Try.ntmps15
        go_wp2_with fail
        rw [← hW0]
        clear hW0
        refine HRD.out.mono ?_
        rintro e w1 ⟨rfl, hbe⟩
        have hbx := (hbe.block w.heap.size (by omega)).trans HBOX.out
        have hbx1 := (hbe.block (w.heap.size + 1) (by omega)).trans HBOX1.out
        have b1 : ∀ i, w1.cell? ⟨w.heap.size, i, none⟩ = #[Value.slice A d.dry.length c, Value.slice A' d.wet.length c', .int .i64 d.fuse, .bool d.dead][i]? := fun i => cell_of_row w1 _ i _ _ _ hbx
        have b2 : ∀ i, w1.cell? ⟨w.heap.size + 1, i, none⟩ = #[.int .i64 at_][i]? := fun i => cell_of_row w1 _ i _ _ _ hbx1
        have HBE := Lib.hid hbe
        clear hbx hbx1 hbe
        go_wp2_with fail
        refine (HTH.out w1 HBE.out).mono ?_
        rintro e w2 ⟨rfl, hbe2⟩
        have hbe3 : Below W0.heap.size W0 w2 := HBE.out.trans (hbe2.mono HBE.out.size)
        have hbx := (hbe3.block w.heap.size (by omega)).trans HBOX.out
        have b3 : ∀ i, w2.cell? ⟨w.heap.size, i, none⟩ = #[Value.slice A d.dry.length c, Value.slice A' d.wet.length c', .int .i64 d.fuse, .bool d.dead][i]? := fun i => cell_of_row w2 _ i _ _ _ hbx
        have HBE3 := Lib.hid hbe3
        clear hbe2 hbe3 b1 b2 hbx
        have hr1 := (HBE3.out.block (w.heap.size + 1 + 1 + 1) (by omega)).trans HRES.out
        have r1 : ∀ i, w2.cell? ⟨w.heap.size + 1 + 1 + 1, i, none⟩ = #[.slice none 0 0, .slice none 0 0, .int .i64 0, .bool false][i]? := fun i => cell_of_row w2 _ i _ _ _ hr1
        have r2 : ∀ i, w2.frozen? ⟨w.heap.size + 1 + 1 + 1, i, none⟩ = false := fun i => by simp [World.frozen?, hr1]
        have hltx : w.heap.size + 1 + 1 + 1 < w2.heap.size := by have := HBE3.out.size; omega
        have hfin := tell_end (DiskOwn.zero w2 (w.heap.size + 4)) (b := w.heap.size + 1 + 1 + 1) (by omega) (by omega) (HB0.out.trans (HBE3.out.mono (by omega)))
        simp only [resCells] at hfin
        have HFIN := Lib.hid hfin
        clear hr1 hfin
        go_wp2_with fail
        have hfl : write d at_ b = (Disk.zero, 7) := by simp [write, HRR.out, HH.out, H8.out]
        rw [hfl]
        refine bodyPost_ret (v := .tuple #[.agg #[.slice none 0 0, .slice none 0 0, .int .i64 0, .bool false], .int .i64 7]) ?_ rfl ?_
        · simp [results, Try.results15, go_sem, r1, r2, hltx]
        · exact ⟨_, rfl, HFIN.out.1, HFIN.out.2⟩
      · have t8 : ((d.wet.length : Int) == 8192) = false := beq_eq_false_iff_ne.2 (by omega)
        have H8 := Lib.hid h8
        clear h8
        have hdeed : ∀ W1, Below W0.heap.size W0 W1 → Calls Try.prog 35 #[.agg #[Value.slice A d.dry.length c, Value.slice A' d.wet.length c', .int .i64 d.fuse, .bool d.dead], .func (.func 36) #[] #[.pointer (some ⟨w.heap.size + 1, 0, none⟩), .pointer (some ⟨w.heap.size + 1 + 1, 0, none⟩)]] W1 (GivesDE W1 (deed d (put at_ b))) := fun W1 hb1 =>
          deed_any _ _ _ _ _ d W1 (.inr ⟨rfl, _, _, rfl⟩) ((HD.out.below HB0.out).below hb1) HSM.out hf1 hf2
            (putIt_any at_ b ⟨w.heap.size + 1, 0, none⟩ ⟨w.heap.size + 1 + 1, 0, none⟩ (.slice A0 b.length c0) W1 (by rw [cell_of_row W1 _ 0 _ _ _ ((hb1.block (w.heap.size + 1) (by omega)).trans HBOX1.out)]; rfl) (by rw [cell_of_row W1 _ 0 _ _ _ ((hb1.block (w.heap.size + 1 + 1) (by omega)).trans HBOX2.out)]; rfl) ((HBS.out.below HB0.out).below hb1) HB32.out)
            (by have := (Disk.ok_small (burn_ok HOK.out)).2.2.2; exact this)
        have HDEED := Lib.hid hdeed
        clear hdeed
        go_enter Try.func15, Try.ntmps15
        go_wp2_with fail
        rw [← hW0]
        clear hW0
        refine HRD.out.mono ?_
        rintro e w1 ⟨rfl, hbe⟩
        have hbx := (hbe.block w.heap.size (by omega)).trans HBOX.out
        have hbx1 := (hbe.block (w.heap.size + 1) (by omega)).trans HBOX1.out
        have b1 : ∀ i, w1.cell? ⟨w.heap.size, i, none⟩ = #[Value.slice A d.dry.length c, Value.slice A' d.wet.length c', .int .i64 d.fuse, .bool d.dead][i]? := fun i => cell_of_row w1 _ i _ _ _ hbx
        have b2 : ∀ i, w1.cell? ⟨w.heap.size + 1, i, none⟩ = #[.int .i64 at_][i]? := fun i => cell_of_row w1 _ i _ _ _ hbx1
        have HBE := Lib.hid hbe
        clear hbx hbx1 hbe
        go_wp2_with fail
        refine (HTH.out w1 HBE.out).mono ?_
        rintro e w2 ⟨rfl, hbe2⟩
        have hbe3 : Below W0.heap.size W0 w2 := HBE.out.trans (hbe2.mono HBE.out.size)
        have hbx := (hbe3.block w.heap.size (by omega)).trans HBOX.out
        have b3 : ∀ i, w2.cell? ⟨w.heap.size, i, none⟩ = #[Value.slice A d.dry.length c, Value.slice A' d.wet.length c', .int .i64 d.fuse, .bool d.dead][i]? := fun i => cell_of_row w2 _ i _ _ _ hbx
        have HBE3 := Lib.hid hbe3
        clear hbe2 hbe3 b1 b2 hbx
        go_wp2_with fail
        refine (HDEED.out w2 HBE3.out).mono ?_
        rintro e w3 ⟨v3, rfl, hown, hbe3⟩
        have hz2 := HBE3.out.size
        have hz3 := hbe3.size
        have hr3 := (hbe3.block (w.heap.size + 1 + 1 + 1) (by omega)).trans ((HBE3.out.block (w.heap.size + 1 + 1 + 1) (by omega)).trans HRES.out)
        have r1 : ∀ i, w3.cell? ⟨w.heap.size + 1 + 1 + 1, i, none⟩ = #[.slice none 0 0, .slice none 0 0, .int .i64 0, .bool false][i]? := fun i => cell_of_row w3 _ i _ _ _ hr3
        have r2 : ∀ i, w3.frozen? ⟨w.heap.size + 1 + 1 + 1, i, none⟩ = false := fun i => by simp [World.frozen?, hr3]
        have hlt3 : w.heap.size + 1 + 1 + 1 < w3.heap.size := by omega
        have HOWN := Lib.hid hown
        obtain ⟨vd3, vw3, ys, rfl, ho1, ho2, _⟩ := hown
        obtain ⟨B1, k1, rfl⟩ := own_slice ho1
        obtain ⟨B2, k2, rfl⟩ := own_slice ho2
        have hfin := tell_end HOWN.out (b := w.heap.size + 1 + 1 + 1) (by omega) (by omega) (HB0.out.trans ((HBE3.out.mono (by omega)).trans (hbe3.mono (by omega))))
        simp only [resCells] at hfin
        have HFIN := Lib.hid hfin
        clear hr3 hfin hbe3 ho1 ho2 b3
        go_wp2_with fail
        have hfl : write d at_ b = deed d (put at_ b) := by simp [write, HRR.out, HH.out, H8.out]
        rw [hfl]
        refine bodyPost_ret (v := .tuple #[.agg #[.slice B1 (deed d (put at_ b)).1.dry.length k1, .slice B2 (deed d (put at_ b)).1.wet.length k2, .int .i64 (deed d (put at_ b)).1.fuse, .bool (deed d (put at_ b)).1.dead], .int .i64 (deed d (put at_ b)).2]) ?_ rfl ?_
        · simp [results, Try.results15, go_sem, r1, r2, hlt3]
        · exact ⟨_, rfl, HFIN.out.1, HFIN.out.2⟩
  · have t0 : (rr != 0) = true := by simpa using h0
    go_enter Try.func15, Try.ntmps15
    go_wp2_with fail
    rw [← hW0]
    clear hW0
    refine HRD.out.mono ?_
    rintro e w1 ⟨rfl, hbe⟩
    have HBE := Lib.hid hbe
    clear hbe
    have hr1 := (HBE.out.block (w.heap.size + 1 + 1 + 1) (by omega)).trans HRES.out
    have r1 : ∀ i, w1.cell? ⟨w.heap.size + 1 + 1 + 1, i, none⟩ = #[.slice none 0 0, .slice none 0 0, .int .i64 0, .bool false][i]? := fun i => cell_of_row w1 _ i _ _ _ hr1
    have r2 : ∀ i, w1.frozen? ⟨w.heap.size + 1 + 1 + 1, i, none⟩ = false := fun i => by simp [World.frozen?, hr1]
    have hltx : w.heap.size + 1 + 1 + 1 < w1.heap.size := by have := HBE.out.size; omega
    have hfin := tell_end (DiskOwn.zero w1 (w.heap.size + 4)) (b := w.heap.size + 1 + 1 + 1) (by omega) (by omega) (HB0.out.trans (HBE.out.mono (by omega)))
    simp only [resCells] at hfin
    have HFIN := Lib.hid hfin
    clear hr1 hfin
    go_wp2_with fail
    have hfl : write d at_ b = (Disk.zero, rr) := by simp [write, HRR.out, h0]
    rw [hfl]
    refine bodyPost_ret (v := .tuple #[.agg #[.slice none 0 0, .slice none 0 0, .int .i64 0, .bool false], .int .i64 rr]) ?_ rfl ?_
    · simp [results, Try.results15, go_sem, r1, r2, hltx]
    · exact ⟨_, rfl, HFIN.out.1, HFIN.out.2⟩

/-- The crashed disk, told as a result. -/
theorem crash_end {w w3 : World} {base b g N k1 : Nat} {B1 : Option Addr} {d2 : Disk} {cs : Array Value} (hg : w3.heap[g]? = some (.cells cs 25 (0, 0)))
    (ho : w3.ownsRow base 5 1 (.slice B1 N k1) d2.dry.length (octets d2.dry)) (hw : d2.wet = []) (hf : d2.fuse = -1) (hd : d2.dead = false) (hbg : base ≤ g) (hb : b < base) (hwb : w.heap.size ≤ b) (hbl : Below w.heap.size w w3) :
    DiskOwn (resCells ((w3.setCell ⟨g, 2, none⟩ (.int .i64 (-1))).setCell ⟨g, 3, none⟩ (.bool false)) b (.slice B1 N k1) (.slice none 0 0) (.int .i64 (-1)) (.bool false)) w.heap.size (.agg #[.slice B1 N k1, .slice none 0 0, .int .i64 (-1), .bool false]) d2 ∧
      Below w.heap.size w (resCells ((w3.setCell ⟨g, 2, none⟩ (.int .i64 (-1))).setCell ⟨g, 3, none⟩ (.bool false)) b (.slice B1 N k1) (.slice none 0 0) (.int .i64 (-1)) (.bool false)) := by
  have hne := own_blk_ne ho hg (by decide)
  have h1 : DiskOwn ((w3.setCell ⟨g, 2, none⟩ (.int .i64 (-1))).setCell ⟨g, 3, none⟩ (.bool false)) base (.agg #[.slice B1 N k1, .slice none 0 0, .int .i64 (-1), .bool false]) d2 :=
    ⟨_, _, [], by rw [hf, hd], own_far (own_far ho hne _) hne _, by rw [hw]; exact World.ownsRow_nil _ _ _ _, by rw [hw]; exact ⟨rfl, fun j x hx => by simp at hx⟩⟩
  exact tell_end h1 hb hwb ((hbl.setCell (p := ⟨g, 2, none⟩) (by simp; omega) _).setCell (p := ⟨g, 3, none⟩) (by simp; omega) _)

set_option maxRecDepth 4000 in
set_option maxHeartbeats 1000000 in
theorem crash_any (v vk : Value) (d : Disk) (keep : List UInt8) (w : World) (h : DiskR w (fun _ => True) v d) (hk : Bs w (fun _ => True) vk keep) :
    Calls Try.prog 21 #[v, vk] w (GivesDE w (crash d keep)) := by
  have HD := Lib.hid h
  have HBS := Lib.hid hk
  obtain ⟨vd, vw, rfl, ⟨A, c, rfl, _⟩, A', c', xs, rfl, _⟩ := h
  obtain ⟨A0, c0, rfl, _⟩ := hk
  obtain ⟨W0, hW0⟩ : ∃ W0, W0 = ((w.alloc (Obj.cells #[Value.slice A d.dry.length c, Value.slice A' d.wet.length c', .int .i64 d.fuse, .bool d.dead] 25)).alloc (Obj.cells #[.slice A0 keep.length c0] 22)).alloc (Obj.cells #[.slice none 0 0, .slice none 0 0, .int .i64 0, .bool false] 25) := ⟨_, rfl⟩
  have hb0 : Below w.heap.size w W0 := by rw [hW0]; exact ((below_new _ _).alloc (by simp) _).alloc (by simp; omega) _
  have hz0 : W0.heap.size = w.heap.size + 3 := by rw [hW0]; simp
  have hres : W0.heap[w.heap.size + 1 + 1]? = some (.cells #[.slice none 0 0, .slice none 0 0, .int .i64 0, .bool false] 25 (0, 0)) := by
    rw [hW0]; exact heap_thirdly _ _ _ _
  have hbox1 : W0.heap[w.heap.size + 1]? = some (.cells #[.slice A0 keep.length c0] 22 (0, 0)) := by
    rw [hW0, Below.heap_alloc _ _ _ (by simp)]; exact heap_second _ _ _
  have hbox : W0.heap[w.heap.size]? = some (.cells #[Value.slice A d.dry.length c, Value.slice A' d.wet.length c', .int .i64 d.fuse, .bool d.dead] 25 (0, 0)) := by
    rw [hW0, Below.heap_alloc _ _ _ (by simp; omega), Below.heap_alloc _ _ _ (by simp)]; exact heap_first _ _
  have HCK := Lib.hid (check_any _ d W0 (HD.out.below hb0))
  have HRES := Lib.hid hres
  have HBOX := Lib.hid hbox
  have HBOX1 := Lib.hid hbox1
  have HB0 := Lib.hid hb0
  clear hres hb0 hbox hbox1
  cases hok : d.ok
  · have e0 : check d = 1 := by simp [check, hok]
    rw [e0] at HCK
    have HOK := Lib.hid hok
    clear hok e0
    go_enter Try.func21, Try.ntmps21
    go_wp2_with fail
    rw [← hW0]
    clear hW0
    refine HCK.out.mono ?_
    rintro e w1 ⟨rfl, hbe⟩
    have hr1 := (hbe.block (w.heap.size + 1 + 1) (by omega)).trans HRES.out
    have r1 : ∀ i, w1.cell? ⟨w.heap.size + 1 + 1, i, none⟩ = #[.slice none 0 0, .slice none 0 0, .int .i64 0, .bool false][i]? := fun i => cell_of_row w1 _ i _ _ _ hr1
    have r2 : ∀ i, w1.frozen? ⟨w.heap.size + 1 + 1, i, none⟩ = false := fun i => by simp [World.frozen?, hr1]
    have hz1 := hbe.size
    have hlt1 : w.heap.size + 1 + 1 < w1.heap.size := by omega
    have hfin := tell_end (DiskOwn.zero w1 (w.heap.size + 3)) (b := w.heap.size + 1 + 1) (by omega) (by omega) (HB0.out.trans (hbe.mono (by omega)))
    simp only [resCells] at hfin
    have HFIN := Lib.hid hfin
    clear hr1 hfin hbe
    go_wp2_with fail
    have hfl : crash d keep = (Disk.zero, 1) := by simp [crash, HOK.out]
    rw [hfl]
    refine bodyPost_ret (v := .tuple #[.agg #[.slice none 0 0, .slice none 0 0, .int .i64 0, .bool false], .int .i64 1]) ?_ rfl ?_
    · simp [results, Try.results21, go_sem, r1, r2, hlt1]
    · exact ⟨_, rfl, HFIN.out.1, HFIN.out.2⟩
  · have e0 : check d = 0 := by simp [check, hok]
    rw [e0] at HCK
    obtain ⟨hsm, _, _, hwl⟩ := Disk.ok_small hok
    have HOK := Lib.hid hok
    have HSM := Lib.hid hsm
    clear hok e0 hsm
    go_enter Try.func21, Try.ntmps21
    go_wp2_with fail
    rw [← hW0]
    clear hW0
    refine HCK.out.mono ?_
    rintro e w1 ⟨rfl, hbe⟩
    have hbx := (hbe.block w.heap.size (by omega)).trans HBOX.out
    have b1 : ∀ i, w1.cell? ⟨w.heap.size, i, none⟩ = #[Value.slice A d.dry.length c, Value.slice A' d.wet.length c', .int .i64 d.fuse, .bool d.dead][i]? := fun i => cell_of_row w1 _ i _ _ _ hbx
    have hz1 := hbe.size
    have HBE := Lib.hid hbe
    have HCL := Lib.hid (clone_any _ d w1 ((HD.out.below HB0.out).below hbe) HSM.out)
    clear hbx hbe
    go_wp2_with fail
    refine HCL.out.mono ?_
    rintro e w2 ⟨v2, rfl, hown, hbe2⟩
    have HOWN := Lib.hid hown
    obtain ⟨vd1, vw1, ys, rfl, ho1, ho2, _⟩ := hown
    obtain ⟨B1, k1, rfl⟩ := own_slice ho1
    obtain ⟨B2, k2, rfl⟩ := own_slice ho2
    have hz2 := hbe2.size
    have hbe3 : Below W0.heap.size W0 w2 := HBE.out.trans (hbe2.mono hz1)
    have HBE3 := Lib.hid hbe3
    obtain ⟨cs, hcs, hdo⟩ := (DiskIn.new (f := d.fuse) (dd := d.dead) HOWN.out hz2).own
    have hcs0 := hcs
    rw [heap_alloc_new] at hcs0
    injection hcs0 with hcs0
    injection hcs0 with hcs0
    subst hcs0
    have hb4 : Below W0.heap.size W0 (w2.alloc (Obj.cells #[Value.slice B1 d.dry.length k1, Value.slice B2 d.wet.length k2, .int .i64 d.fuse, .bool d.dead] 25)) := hbe3.alloc (by omega) _
    have hdry := dry_any 43 #[.pointer (some ⟨w.heap.size + 1, 0, none⟩)] (keepOf keep) w2.heap.size W0.heap.size _ d _ (.inr ⟨rfl, _, rfl⟩) hcs (by omega) (hdo.mono hz1) HOK.out (fun i => by unfold keepOf; omega)
      (fun i W hi hbW => by
        have hbW0 := hb4.trans hbW
        have hx := (hbW0.block (w.heap.size + 1) (by omega)).trans HBOX1.out
        exact keepOf_any i ⟨w.heap.size + 1, 0, none⟩ A0 c0 keep W (by rw [cell_of_row W _ 0 _ _ _ hx]; rfl) ((HBS.out.below HB0.out).below hbW0) (by omega))
    have HDRY := Lib.hid hdry
    have HB4 := Lib.hid hb4
    clear hdry hdo hcs hbe2 hbe3 ho1 ho2 b1 hb4
    go_wp2_with fail
    refine HDRY.out.mono ?_
    rintro e w3 ⟨rfl, hbe3, vd3, hh3, ho3⟩
    obtain ⟨B3, k3, rfl⟩ := own_slice ho3
    have hz3 := hbe3.size
    rw [World.size_alloc] at hz3
    have hpl : (pour (keepOf keep) 0 d.wet d.dry).length = d.dry.length := by have := ho3.1; rw [octets_length] at this; omega
    have hbl : Below w.heap.size w w3 := HB0.out.trans ((HB4.out.trans hbe3).mono (by omega))
    have hfin := crash_end (d2 := { dryAll (keepOf keep) d with fuse := -1, dead := false }) hh3 (by rw [show (dryAll (keepOf keep) d).dry = pour (keepOf keep) 0 d.wet d.dry from rfl, hpl]; exact ho3) rfl rfl rfl (by omega) (b := w.heap.size + 1 + 1) (by omega) (by omega) hbl
    simp only [resCells] at hfin
    have HFIN := Lib.hid hfin
    have hr3 := (hbe3.block (w.heap.size + 1 + 1) (by omega)).trans ((HB4.out.block (w.heap.size + 1 + 1) (by omega)).trans HRES.out)
    have r1 : ∀ i, w3.cell? ⟨w.heap.size + 1 + 1, i, none⟩ = #[.slice none 0 0, .slice none 0 0, .int .i64 0, .bool false][i]? := fun i => cell_of_row w3 _ i _ _ _ hr3
    have r2 : ∀ i, w3.frozen? ⟨w.heap.size + 1 + 1, i, none⟩ = false := fun i => by simp [World.frozen?, hr3]
    have s1 : ∀ i, w3.cell? ⟨w2.heap.size, i, none⟩ = #[.slice B3 d.dry.length k3, .slice none 0 0, .int .i64 d.fuse, .bool d.dead][i]? := fun i => cell_of_row w3 _ i _ _ _ hh3
    have s2 : ∀ i, w3.frozen? ⟨w2.heap.size, i, none⟩ = false := fun i => by simp [World.frozen?, hh3]
    have hlt3 : w.heap.size + 1 + 1 < w3.heap.size := by omega
    have hlt4 : w2.heap.size < w3.heap.size := by omega
    have hne : w2.heap.size ≠ w.heap.size + 1 + 1 := by omega
    have hne2 : w.heap.size + 1 + 1 ≠ w2.heap.size := by omega
    clear hr3 hfin hbe3 hh3 ho3 hbl hpl
    go_wp2_with fail
    have hfl : crash d keep = ({ dryAll (keepOf keep) d with fuse := -1, dead := false }, 0) := by simp [crash, HOK.out]
    rw [hfl]
    refine bodyPost_ret (v := .tuple #[.agg #[.slice B3 d.dry.length k3, .slice none 0 0, .int .i64 (-1), .bool false], .int .i64 0]) ?_ rfl ?_
    · simp [results, Try.results21, go_sem, r1, r2, s1, s2, hlt3, hlt4, hne, hne2]
    · exact ⟨_, rfl, HFIN.out.1, HFIN.out.2⟩

end Go.Proofs.Ytdbioekmhlgolaa
