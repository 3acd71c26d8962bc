/- Contracts: New, Lit. -/
import Derived.Test.YtdbioekmhlgolaaG
import Derived.Deep.RegionHeld3
import Derived.Deep.DeepCutAuto
namespace Go.Proofs.Ytdbioekmhlgolaa
open Go.RowKit Dk

set_option maxRecDepth 4000 in
set_option maxHeartbeats 1000000 in
theorem new_any (n : Int) (w : World) : Calls Try.prog 25 #[.int .i64 n] w (GivesDE w (new n)) := by
  have hz := DiskOwn.zero (w.alloc (Obj.cells #[.slice none 0 0, .slice none 0 0, .int .i64 0, .bool false] 25)) w.heap.size
  have HZ := Lib.hid hz
  clear hz
  by_cases h1 : n < 1
  · go_enter Try.func25, Try.ntmps25
    go_wp2_with fail
    rw [new, if_pos (.inl h1)]
    refine bodyPost_ret (v := .tuple #[.agg #[.slice none 0 0, .slice none 0 0, .int .i64 0, .bool false], .int .i64 1]) ?_ rfl ?_
    · simp [results, Try.results25, go_sem]
    · exact ⟨_, rfl, HZ.out, below_new _ _⟩
  · by_cases h2 : 8192 < n
    · go_enter Try.func25, Try.ntmps25
      go_wp2_with fail
      rw [new, if_pos (.inr h2)]
      refine bodyPost_ret (v := .tuple #[.agg #[.slice none 0 0, .slice none 0 0, .int .i64 0, .bool false], .int .i64 1]) ?_ rfl ?_
      · simp [results, Try.results25, go_sem]
      · exact ⟨_, rfl, HZ.out, below_new _ _⟩
    · obtain ⟨m, rfl⟩ : ∃ m : Nat, n = (m : Int) := ⟨n.toNat, by omega⟩
      obtain ⟨i8, hi8, hz8, hs8, hb8⟩ := info_parts info8
      obtain ⟨R0, hR0⟩ : ∃ R0, R0 = madeCells (Value.int .u8 0).cells (m * 32) := ⟨_, rfl⟩
      have hmk1 : ∀ W : World, (Instr.makeSlice 22 (.int .i64 ((m : Int) * 32)) (.int .i64 ((m : Int) * 32))).run Try.prog W = .ok (.slice (some ⟨W.heap.size, 0, none⟩) (m * 32) (m * 32)) (W.alloc (.cells R0 5)) := by
        intro W
        have := run_make (P := Try.prog) W 22 5 i8 _ Try.underlying22 hi8 hz8 .i64 .i64 ((m : Int) * 32) ((m : Int) * 32) (by omega) (by omega) (by rw [hb8]; omega) (by omega)
        rw [this, hs8, hR0, show ((m : Int) * 32).toNat = m * 32 by omega, Nat.mul_one]
      have HR0 := Lib.hid hR0
      clear hR0 hi8 hz8 hs8 hb8
      go_enter Try.func25, Try.ntmps25
      go_wp2_with fail
      have hw := heap_second w (Obj.cells #[Value.slice (some { block := w.heap.size + 1, off := 0 }) (m * 32) (m * 32), Value.slice none 0 0, Value.int IntKind.i64 (-1), Value.bool false] 25) (Obj.cells R0 5)
      have hR : R0.toList = octets (List.replicate (m * 32) 0) := by
        rw [HR0.out, show (Value.int IntKind.u8 0).cells = #[Value.int .u8 0] from rfl, toList_madeCells_one]
        simp [octets]
      have hRs : R0.size = m * 32 := by rw [HR0.out, size_madeCells]
      have hown : DiskOwn ((w.alloc (Obj.cells #[Value.slice (some { block := w.heap.size + 1, off := 0 }) (m * 32) (m * 32), Value.slice none 0 0, Value.int IntKind.i64 (-1), Value.bool false] 25)).alloc (Obj.cells R0 5)) w.heap.size
          (.agg #[Value.slice (some { block := w.heap.size + 1, off := 0 }) (m * 32) (m * 32), Value.slice none 0 0, Value.int IntKind.i64 (-1), Value.bool false]) ⟨List.replicate (m * 32) 0, [], -1, false⟩ := by
        refine ⟨_, _, [], rfl, ⟨by simp [octets], .inr ⟨w.heap.size + 1, m * 32, R0, by simp, by omega, hw, by simp, by unfold maxLen; omega, by rw [hRs, Nat.mul_one], ?_⟩⟩, World.ownsRow_nil _ _ _ _, by simp, fun j x hx => by simp at hx⟩
        rw [hR, List.take_of_length_le (by simp [octets])]
      have hn : new (m : Int) = (⟨List.replicate (m * 32) 0, [], -1, false⟩, 0) := by rw [new, if_neg (by omega), Int.toNat_natCast]
      rw [hn]
      refine bodyPost_ret (v := .tuple #[.agg #[Value.slice (some { block := w.heap.size + 1, off := 0 }) (m * 32) (m * 32), Value.slice none 0 0, Value.int IntKind.i64 (-1), Value.bool false], .int .i64 0]) ?_ rfl ?_
      · simp [results, Try.results25, go_sem]
      · exact ⟨_, rfl, hown, (below_new _ _).alloc (by simp) _⟩

set_option maxRecDepth 4000 in
set_option maxHeartbeats 1000000 in
theorem lit_any (v : Value) (d : Disk) (f : Int) (w : World) (h : DiskR w (fun _ => True) v d) : Calls Try.prog 19 #[v, .int .i64 f] w (GivesDE w (lit d f)) := by
  have HD := Lib.hid h
  obtain ⟨vd, vw, rfl, ⟨A, c, rfl, _⟩, A', c', xs, rfl, _⟩ := h
  obtain ⟨W0, hW0⟩ : ∃ W0, W0 = (w.alloc (Obj.cells #[Value.slice A d.dry.length c, Value.slice A' d.wet.length c', .int .i64 d.fuse, .bool d.dead] 25)).alloc (Obj.cells #[.slice none 0 0, .slice none 0 0, .int .i64 0, .bool false] 25) := ⟨_, rfl⟩
  have hb0 : Below w.heap.size w W0 := by rw [hW0]; exact (below_new _ _).alloc (by simp) _
  have hz0 : W0.heap.size = w.heap.size + 2 := by rw [hW0]; simp
  have hres : W0.heap[w.heap.size + 1]? = some (.cells #[.slice none 0 0, .slice none 0 0, .int .i64 0, .bool false] 25 (0, 0)) := by
    rw [hW0]; exact heap_second _ _ _
  have hbox : W0.heap[w.heap.size]? = some (.cells #[Value.slice A d.dry.length c, Value.slice A' d.wet.length c', .int .i64 d.fuse, .bool d.dead] 25 (0, 0)) := by
    rw [hW0, Below.heap_alloc _ _ _ (by simp)]; exact heap_first _ _
  have HRD := Lib.hid (fun W1 (hb1 : Below W0.heap.size W0 W1) => ready_any _ d (fuseOk f) W1 ((HD.out.below hb0).below hb1))
  have HRES := Lib.hid hres
  have HBOX := Lib.hid hbox
  have HB0 := Lib.hid hb0
  have b0 : ∀ i, W0.cell? ⟨w.heap.size, i, none⟩ = #[Value.slice A d.dry.length c, Value.slice A' d.wet.length c', .int .i64 d.fuse, .bool d.dead][i]? := fun i => cell_of_row W0 _ i _ _ _ hbox
  clear hres hb0 hbox
  have KS : ∀ w', Below W0.heap.size W0 w' → w'.cell? ⟨w.heap.size, 0, none⟩ = some (.slice A d.dry.length c) ∧ w'.cell? ⟨w.heap.size, 1, none⟩ = some (.slice A' d.wet.length c') ∧ w'.cell? ⟨w.heap.size, 2, none⟩ = some (.int .i64 d.fuse) ∧ w'.cell? ⟨w.heap.size, 3, none⟩ = some (.bool d.dead) := by
    intro w' hb
    refine ⟨(hb.cell (by simp; omega)).trans (b0 0), (hb.cell (by simp; omega)).trans (b0 1), (hb.cell (by simp; omega)).trans (b0 2), (hb.cell (by simp; omega)).trans (b0 3)⟩
  have HKS := Lib.hid KS
  clear KS b0
  go_enter Try.func19, Try.ntmps19
  go_upto_region 1 with fail
  rw [← hW0]
  clear hW0
  go_cut [6] (fun s6 wx => s6 = .int .i64 (ready d (fuseOk f)) ∧ Below W0.heap.size W0 wx)
  case first =>
    go_region_held3 (fun w' => w'.cell? ⟨w.heap.size, 0, none⟩ = some (.slice A d.dry.length c) ∧ w'.cell? ⟨w.heap.size, 1, none⟩ = some (.slice A' d.wet.length c') ∧ w'.cell? ⟨w.heap.size, 2, none⟩ = some (.int .i64 d.fuse) ∧ w'.cell? ⟨w.heap.size, 3, none⟩ = some (.bool d.dead))
      ((refine HKS.out _ ?_; first | exact Below.refl _ _ | exact (Below.refl _ _).drew | assumption))
      (first
        | (go_at_call 41; refine (isFuse_any _ _).mono ?_; rintro e w' ⟨rfl, rfl⟩)
        | (go_at_call 31; refine (HRD.out _ ((Below.refl _ _).drew)).mono ?_; rintro e w1 ⟨rfl, hbe⟩; have hbe1 : Below W0.heap.size W0 w1 := ((Below.refl _ _).drew).trans hbe))
    all_goals (go_wp2_with fail; go_meet; exact ⟨rfl, hbe1⟩)
  case rest =>
    obtain ⟨rfl, hbe⟩ := hcut
    generalize hrr : ready d (fuseOk f) = rr at *
    have HRR := Lib.hid hrr
    clear hrr
    have hz1 := hbe.size
    have hr1 := (hbe.block (w.heap.size + 1) (by omega)).trans HRES.out
    have r1 : ∀ i, wc.cell? ⟨w.heap.size + 1, i, none⟩ = #[.slice none 0 0, .slice none 0 0, .int .i64 0, .bool false][i]? := fun i => cell_of_row wc _ i _ _ _ hr1
    have r2 : ∀ i, wc.frozen? ⟨w.heap.size + 1, i, none⟩ = false := fun i => by simp [World.frozen?, hr1]
    have hbx := (hbe.block w.heap.size (by omega)).trans HBOX.out
    have b1 : ∀ i, wc.cell? ⟨w.heap.size, i, none⟩ = #[Value.slice A d.dry.length c, Value.slice A' d.wet.length c', .int .i64 d.fuse, .bool d.dead][i]? := fun i => cell_of_row wc _ i _ _ _ hbx
    have hlt1 : w.heap.size + 1 < wc.heap.size := by omega
    have HBE := Lib.hid hbe
    clear hr1 hbx hbe
    by_cases h0 : rr = 0
    · subst h0
      obtain ⟨hok, hfo, hdead⟩ := ready_zero HRR.out
      obtain ⟨hsm, hf1, hf2, hwl⟩ := Disk.ok_small hok
      have HCL := Lib.hid (clone_any _ d wc ((HD.out.below HB0.out).below HBE.out) hsm)
      clear hok hfo hdead hsm r1 r2
      go_wp2_with fail
      refine HCL.out.mono ?_
      rintro e w2 ⟨v2, rfl, hown, hbe2⟩
      have HOWN := Lib.hid hown
      obtain ⟨vd1, vw1, ys, rfl, ho1, ho2, _⟩ := hown
      obtain ⟨B1, k1, rfl⟩ := own_slice ho1
      obtain ⟨B2, k2, rfl⟩ := own_slice ho2
      have hz2 := hbe2.size
      have hr1 := (hbe2.block (w.heap.size + 1) (by omega)).trans ((HBE.out.block (w.heap.size + 1) (by omega)).trans HRES.out)
      have r1 : ∀ i, w2.cell? ⟨w.heap.size + 1, i, none⟩ = #[.slice none 0 0, .slice none 0 0, .int .i64 0, .bool false][i]? := fun i => cell_of_row w2 _ i _ _ _ hr1
      have r2 : ∀ i, w2.frozen? ⟨w.heap.size + 1, i, none⟩ = false := fun i => by simp [World.frozen?, hr1]
      have hlt2 : w.heap.size + 1 < w2.heap.size := by omega
      have hfin := tell_end (HOWN.out.parts f d.dead) (b := w.heap.size + 1) (by omega) (by omega) (HB0.out.trans ((HBE.out.mono (by omega)).trans (hbe2.mono (by omega))))
      have hfin2 : ∀ o : Obj, DiskOwn ((resCells w2 (w.heap.size + 1) (.slice B1 d.dry.length k1) (.slice B2 d.wet.length k2) (.int .i64 f) (.bool d.dead)).alloc o) w.heap.size (.agg #[.slice B1 d.dry.length k1, .slice B2 d.wet.length k2, .int .i64 f, .bool d.dead]) { d with fuse := f, dead := d.dead } ∧ Below w.heap.size w ((resCells w2 (w.heap.size + 1) (.slice B1 d.dry.length k1) (.slice B2 d.wet.length k2) (.int .i64 f) (.bool d.dead)).alloc o) :=
        fun o => ⟨hfin.1.below (below_new _ _), hfin.2.alloc hfin.2.size _⟩
      simp only [resCells] at hfin2
      have HFIN := Lib.hid hfin2
      clear hr1 hfin hfin2 hbe2 ho1 ho2 b1
      go_wp2_with fail
      have hfl : lit d f = ({ d with fuse := f }, 0) := by simp [lit, HRR.out]
      rw [hfl]
      refine bodyPost_ret (v := .tuple #[.agg #[.slice B1 d.dry.length k1, .slice B2 d.wet.length k2, .int .i64 f, .bool d.dead], .int .i64 0]) ?_ rfl ?_
      · simp [results, Try.results19, go_sem, r1, r2, hlt2]
      · exact ⟨_, rfl, (HFIN.out _).1, (HFIN.out _).2⟩
    · have t0 : (rr != 0) = true := by simpa using h0
      have hfin := tell_end (DiskOwn.zero wc (w.heap.size + 2)) (b := w.heap.size + 1) (by omega) (by omega) (HB0.out.trans (HBE.out.mono (by omega)))
      simp only [resCells] at hfin
      have HFIN := Lib.hid hfin
      clear hfin
      go_wp2_with fail
      have hfl : lit d f = (Disk.zero, rr) := by simp [lit, HRR.out, h0]
      rw [hfl]
      refine bodyPost_ret (v := .tuple #[.agg #[.slice none 0 0, .slice none 0 0, .int .i64 0, .bool false], .int .i64 rr]) ?_ rfl ?_
      · simp [results, Try.results19, go_sem, r1, r2, hlt1]
      · exact ⟨_, rfl, HFIN.out.1, HFIN.out.2⟩

end Go.Proofs.Ytdbioekmhlgolaa
