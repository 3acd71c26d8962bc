/- Contract: live. -/
import Derived.Test.YtdbioekmhlgolaaK
import Derived.Test.YtdbioekmhlgolaaI
import Derived.Deep.RegionLaw
import Derived.Deep.DeepCutAuto
namespace Go.Proofs.Ytdbioekmhlgolaa
open Go.RowKit Dk

theorem live_plain : ∃ (D1 D2 D3 D4 D5 : Disk) (L : List UInt8), new 2 = (D1, 0) ∧ write D1 1 (List.replicate 32 7) = (D2, 0) ∧ flush D2 = (D3, 0) ∧ write D3 1 (List.replicate 32 9) = (D4, 0) ∧
    crash D4 [1] = (D5, 0) ∧ Dk.read D5 1 = (L, 0) ∧ L.length = 32 ∧ L[0]? = some 9 ∧ L[1]? = some 7 :=
  ⟨_, _, _, _, _, _, rfl, rfl, rfl, rfl, rfl, rfl, by kernel_rfl, by kernel_rfl, by kernel_rfl⟩

/-- What a step of a law leaves: no error in a slot, a disk in a variable. -/
def Step (B g : Nat) (w : World) (d : Disk) (s : Value) (wx : World) : Prop := s = .int .i64 0 ∧ DiskVar wx g d ∧ Below B w wx ∧ B ≤ g

theorem gives_step {w : World} {r : Disk × Int} {e : Ending} {w' : World} (h : GivesDE w r e w') : ∃ x0 x1 x2 x3, e = .returned (.tuple #[.agg #[x0, x1, x2, x3], .int .i64 r.2]) ∧ DiskOwn w' w.heap.size (.agg #[x0, x1, x2, x3]) r.1 ∧ Below w.heap.size w w' ∧
    (∃ A n c, x0 = .slice A n c) ∧ (∃ A n c, x1 = .slice A n c) ∧ x2 = .int .i64 r.1.fuse ∧ x3 = .bool r.1.dead := by
  obtain ⟨v, he, ho, hb⟩ := h
  have hO := ho
  obtain ⟨vd, vw, xs, rfl, h1, h2, _⟩ := ho
  obtain ⟨A, c, e1⟩ := own_slice h1
  obtain ⟨A', c', e2⟩ := own_slice h2
  exact ⟨vd, vw, _, _, he, hO, hb, ⟨A, _, c, e1⟩, ⟨A', _, c', e2⟩, rfl, rfl⟩

set_option maxRecDepth 4000 in
set_option maxHeartbeats 4000000 in
theorem live_any (w : World) : Calls Try.prog 10 #[] w fun e w' => e = .returned (.bool true) ∧ Below w.heap.size w w' := by
  obtain ⟨D1, D2, D3, D4, D5, L, p1, p2, p3, p4, p5, p6, p7, p8, p9⟩ := live_plain
  have H1 := Lib.hid (new_any 2 w)
  have H7 := Lib.hid (fun W => sector_any 7 W)
  have H9 := Lib.hid (fun W => sector_any 9 W)
  have HW1 := Lib.hid (fun v vb W => write_any v vb D1 1 (List.replicate 32 7) W)
  have HF := Lib.hid (fun v W => flush_any v D2 W)
  have HW2 := Lib.hid (fun v vb W => write_any v vb D3 1 (List.replicate 32 9) W)
  have HC := Lib.hid (fun v vk W => crash_any v vk D4 [1] W)
  have HR := Lib.hid (fun v W => read_any v D5 1 W)
  rw [p1] at H1
  simp only [p2, p3, p4, p5, p6] at HW1 HF HW2 HC HR
  clear p1 p2 p3 p4 p5 p6
  simp only [show ((7 : UInt8).toNat : Int) = 7 from rfl] at H7
  simp only [show ((9 : UInt8).toNat : Int) = 9 from rfl] at H9
  go_enter Try.func10, Try.ntmps10
  go_wp2_with fail
  refine H1.out.mono ?_
  rintro e w1 hgs
  obtain ⟨x0, x1, x2, x3, rfl, ho, hb, ⟨A, n, c, rfl⟩, ⟨A', n', c', rfl⟩, rfl, rfl⟩ := gives_step hgs
  have hv := DiskVar.new ho
  have hb1 := hb.alloc hb.size (Obj.cells #[.slice A n c, .slice A' n' c', .int .i64 D1.fuse, .bool D1.dead] 25)
  have HV := Lib.hid hv
  have HB := Lib.hid hb1
  have hz := hb.size
  clear hgs ho hb hv hb1
  have hz1 : w.heap.size ≤ (w1.alloc (Obj.cells #[.slice A n c, .slice A' n' c', .int .i64 D1.fuse, .bool D1.dead] 25)).heap.size := by simp; omega
  go_wp2_with fail
  obtain ⟨W1, hW1⟩ : ∃ W1, W1 = w1.alloc (Obj.cells #[.slice A n c, .slice A' n' c', .int .i64 D1.fuse, .bool D1.dead] 25) := ⟨_, rfl⟩
  rw [← hW1] at HV HB hz1 ⊢
  clear hW1
  go_cut [3] (fun s wx => Step w.heap.size w1.heap.size w D2 s wx)
  case first =>
    obtain ⟨A, c, A', c', hh, hr⟩ := HV.out
    have hr0 := hr.any
    have hlt : w1.heap.size < W1.heap.size := (Array.getElem?_eq_some_iff.1 hh).1
    have c0 : ∀ i, W1.cell? ⟨w1.heap.size, i, none⟩ = #[.slice A D1.dry.length c, .slice A' D1.wet.length c', .int .i64 D1.fuse, .bool D1.dead][i]? := fun i => cell_of_row W1 _ i _ _ _ hh
    have HH := Lib.hid hh
    have HR0 := Lib.hid hr0
    clear hh hr hr0
    go_region_law (first
      | (go_simp
         go_at_call 30
         refine (H7.out _).mono ?_
         rintro e w2 ⟨v2, rfl, hown, hbe⟩
         obtain ⟨A2, c2, rfl⟩ := own_slice hown
         have hbe2 : Below W1.heap.size W1 w2 := ⟨hbe.os, hbe.tape, hbe.output, hbe.size, hbe.block⟩
         have hh2 := (hbe2.block _ hlt).trans HH.out
         have d0 : ∀ i, w2.cell? ⟨w1.heap.size, i, none⟩ = #[.slice A D1.dry.length c, .slice A' D1.wet.length c', .int .i64 D1.fuse, .bool D1.dead][i]? := fun i => cell_of_row w2 _ i _ _ _ hh2
         have HBS : Hid (Bs w2 (fun _ => True) _ _) := Bs.of_own hown (fun _ _ => trivial)
         have HBE := Lib.hid hbe2
         clear hown hbe hbe2 hh2)
      | (go_simp
         go_at_call 15
         refine (HW1.out _ _ _ ?_ ?_).mono ?_
         exact HR0.out.below HBE.out
         exact HBS.out
         rintro e w3 hgs
         obtain ⟨x0, x1, x2, x3, rfl, ho, hb, ⟨A3, n3, c3, rfl⟩, ⟨A4, n4, c4, rfl⟩, rfl, rfl⟩ := gives_step hgs
         have hh3 := (hb.block _ (by have := HBE.out.size; omega)).trans ((HBE.out.block _ hlt).trans HH.out)
         have f0 : ∀ i, w3.cell? ⟨w1.heap.size, i, none⟩ = #[.slice A D1.dry.length c, .slice A' D1.wet.length c', .int .i64 D1.fuse, .bool D1.dead][i]? := fun i => cell_of_row w3 _ i _ _ _ hh3
         have f1 : ∀ i, w3.frozen? ⟨w1.heap.size, i, none⟩ = false := fun i => by simp [World.frozen?, hh3]
         have hst := DiskVar.store hh3 rfl ho (by have := HBE.out.size; omega)
         have hbl : Below w.heap.size w (resCells w3 w1.heap.size (.slice A3 n3 c3) (.slice A4 n4 c4) (.int .i64 D2.fuse) (.bool D2.dead)) := below_res (HB.out.trans ((HBE.out.mono (by omega)).trans (hb.mono (by have := HBE.out.size; omega)))) hz _ _ _ _
         simp only [resCells] at hst hbl
         have HST := Lib.hid hst
         have HBL := Lib.hid hbl
         clear hgs ho hb hh3 hst hbl))
    all_goals (
      go_wp2_with fail
      go_meet
      exact ⟨rfl, HST.out, HBL.out, hz⟩)
  case rest =>
    obtain ⟨rfl, hv, hb, _⟩ := hcut
    have HV2 := Lib.hid hv
    have HB2 := Lib.hid hb
    have hlt2 := hv.lt
    obtain ⟨A, c, A', c', hh, hr⟩ := hv
    have c0 : ∀ i, wc.cell? ⟨w1.heap.size, i, none⟩ = #[.slice A D2.dry.length c, .slice A' D2.wet.length c', .int .i64 D2.fuse, .bool D2.dead][i]? := fun i => cell_of_row wc _ i _ _ _ hh
    have HR0 := Lib.hid hr.any
    have HH := Lib.hid hh
    clear hb hh hr HV HB
    go_wp2_with fail
    refine (HF.out _ _ HR0.out).mono ?_
    rintro e w3 hgs
    obtain ⟨x0, x1, x2, x3, rfl, ho, hb, ⟨A3, n3, c3, rfl⟩, ⟨A4, n4, c4, rfl⟩, rfl, rfl⟩ := gives_step hgs
    have hh3 := (hb.block _ hlt2).trans HH.out
    have f0 : ∀ i, w3.cell? ⟨w1.heap.size, i, none⟩ = #[.slice A D2.dry.length c, .slice A' D2.wet.length c', .int .i64 D2.fuse, .bool D2.dead][i]? := fun i => cell_of_row w3 _ i _ _ _ hh3
    have f1 : ∀ i, w3.frozen? ⟨w1.heap.size, i, none⟩ = false := fun i => by simp [World.frozen?, hh3]
    have hst := DiskVar.store hh3 rfl ho hlt2
    have hbl : Below w.heap.size w (resCells w3 w1.heap.size (.slice A3 n3 c3) (.slice A4 n4 c4) (.int .i64 D3.fuse) (.bool D3.dead)) := below_res (HB2.out.trans (hb.mono (by omega))) hz _ _ _ _
    simp only [resCells] at hst hbl
    have HST := Lib.hid hst
    have HBL := Lib.hid hbl
    clear hgs ho hb hh3 hst hbl c0
    go_wp2_with fail
    obtain ⟨WB, hWB⟩ : ∃ WB, WB = (((w3.setCell ⟨w1.heap.size, 0, none⟩ (.slice A3 n3 c3)).setCell ⟨w1.heap.size, 1, none⟩ (.slice A4 n4 c4)).setCell ⟨w1.heap.size, 2, none⟩ (.int .i64 D3.fuse)).setCell ⟨w1.heap.size, 3, none⟩ (.bool D3.dead) := ⟨_, rfl⟩
    rw [← hWB] at HST HBL ⊢
    have HV := HST
    have HB := HBL
    have hz1 : w.heap.size ≤ WB.heap.size := HB.out.size
    clear hWB HST HBL f0 f1 HV2 HB2 HR0 HH hlt2
    go_cut [5] (fun s wx => Step w.heap.size w1.heap.size w D4 s wx)
    case first =>
      obtain ⟨A, c, A', c', hh, hr⟩ := HV.out
      have hr0 := hr.any
      have hlt : w1.heap.size < WB.heap.size := (Array.getElem?_eq_some_iff.1 hh).1
      have c0 : ∀ i, WB.cell? ⟨w1.heap.size, i, none⟩ = #[.slice A D3.dry.length c, .slice A' D3.wet.length c', .int .i64 D3.fuse, .bool D3.dead][i]? := fun i => cell_of_row WB _ i _ _ _ hh
      have HH := Lib.hid hh
      have HR0 := Lib.hid hr0
      clear hh hr hr0
      go_region_law (first
        | (go_simp
           go_at_call 30
           refine (H9.out _).mono ?_
           rintro e w2 ⟨v2, rfl, hown, hbe⟩
           obtain ⟨A2, c2, rfl⟩ := own_slice hown
           have hbe2 : Below WB.heap.size WB w2 := ⟨hbe.os, hbe.tape, hbe.output, hbe.size, hbe.block⟩
           have hh2 := (hbe2.block _ hlt).trans HH.out
           have d0 : ∀ i, w2.cell? ⟨w1.heap.size, i, none⟩ = #[.slice A D3.dry.length c, .slice A' D3.wet.length c', .int .i64 D3.fuse, .bool D3.dead][i]? := fun i => cell_of_row w2 _ i _ _ _ hh2
           have HBS : Hid (Bs w2 (fun _ => True) _ _) := Bs.of_own hown (fun _ _ => trivial)
           have HBE := Lib.hid hbe2
           clear hown hbe hbe2 hh2)
        | (go_simp
           go_at_call 15
           refine (HW2.out _ _ _ ?_ ?_).mono ?_
           exact HR0.out.below HBE.out
           exact HBS.out
           rintro e w3 hgs
           obtain ⟨x0, x1, x2, x3, rfl, ho, hb, ⟨A3, n3, c3, rfl⟩, ⟨A4, n4, c4, rfl⟩, rfl, rfl⟩ := gives_step hgs
           have hh3 := (hb.block _ (by have := HBE.out.size; omega)).trans ((HBE.out.block _ hlt).trans HH.out)
           have f0 : ∀ i, w3.cell? ⟨w1.heap.size, i, none⟩ = #[.slice A D3.dry.length c, .slice A' D3.wet.length c', .int .i64 D3.fuse, .bool D3.dead][i]? := fun i => cell_of_row w3 _ i _ _ _ hh3
           have f1 : ∀ i, w3.frozen? ⟨w1.heap.size, i, none⟩ = false := fun i => by simp [World.frozen?, hh3]
           have hst := DiskVar.store hh3 rfl ho (by have := HBE.out.size; omega)
           have hbl : Below w.heap.size w (resCells w3 w1.heap.size (.slice A3 n3 c3) (.slice A4 n4 c4) (.int .i64 D4.fuse) (.bool D4.dead)) := below_res (HB.out.trans ((HBE.out.mono (by omega)).trans (hb.mono (by have := HBE.out.size; omega)))) hz _ _ _ _
           simp only [resCells] at hst hbl
           have HST := Lib.hid hst
           have HBL := Lib.hid hbl
           clear hgs ho hb hh3 hst hbl))
      all_goals (
        go_wp2_with fail
        go_meet
        exact ⟨rfl, HST.out, HBL.out, hz⟩)

    case rest =>
      obtain ⟨rfl, hv, hb, _⟩ := hcut
      have HB2 := Lib.hid hb
      have hlt2 := hv.lt
      obtain ⟨A, c, A', c', hh, hr⟩ := hv
      have c0 : ∀ i, wc.cell? ⟨w1.heap.size, i, none⟩ = #[.slice A D4.dry.length c, .slice A' D4.wet.length c', .int .i64 D4.fuse, .bool D4.dead][i]? := fun i => cell_of_row wc _ i _ _ _ hh
      have HR0 := Lib.hid hr.any
      have HH := Lib.hid hh
      have hbs : Bs (wc.alloc (Obj.cells #[.int .u8 1] 5)) (fun _ => True) (.slice (some ⟨wc.heap.size, 0, none⟩) 1 1) [1] :=
        ⟨_, 1, rfl, by simp, by simp [maxLen], (fun h => by cases h), cells_new (cs := #[.int .u8 1]) (heap_alloc_new wc _) trivial⟩
      have HBS := Lib.hid hbs
      clear hb hh hr HV HB hbs
      go_wp2_with fail
      refine (HC.out _ _ _ (HR0.out.below (below_new _ _)) HBS.out).mono ?_
      rintro e w3 hgs
      obtain ⟨x0, x1, x2, x3, rfl, ho, hb, ⟨A3, n3, c3, rfl⟩, ⟨A4, n4, c4, rfl⟩, rfl, rfl⟩ := gives_step hgs
      have hh3 := (hb.block _ (by simp; omega)).trans ((Below.heap_alloc wc _ _ hlt2).trans HH.out)
      have f0 : ∀ i, w3.cell? ⟨w1.heap.size, i, none⟩ = #[.slice A D4.dry.length c, .slice A' D4.wet.length c', .int .i64 D4.fuse, .bool D4.dead][i]? := fun i => cell_of_row w3 _ i _ _ _ hh3
      have f1 : ∀ i, w3.frozen? ⟨w1.heap.size, i, none⟩ = false := fun i => by simp [World.frozen?, hh3]
      have hst := DiskVar.store hh3 rfl ho (by simp; omega)
      have hbl : Below w.heap.size w (resCells w3 w1.heap.size (.slice A3 n3 c3) (.slice A4 n4 c4) (.int .i64 D5.fuse) (.bool D5.dead)) :=
        below_res ((HB2.out.alloc HB2.out.size _).trans (hb.mono (by have := HB2.out.size; simp; omega))) hz _ _ _ _
      simp only [resCells] at hst hbl
      have HST := Lib.hid hst
      have HBL := Lib.hid hbl
      clear hgs ho hb hh3 hst hbl c0
      go_upto_region 6 with fail
      obtain ⟨WC, hWC⟩ : ∃ WC, WC = (((w3.setCell ⟨w1.heap.size, 0, none⟩ (.slice A3 n3 c3)).setCell ⟨w1.heap.size, 1, none⟩ (.slice A4 n4 c4)).setCell ⟨w1.heap.size, 2, none⟩ (.int .i64 D5.fuse)).setCell ⟨w1.heap.size, 3, none⟩ (.bool D5.dead) := ⟨_, rfl⟩
      rw [← hWC] at HST HBL ⊢
      have hlt5 := HST.out.lt
      obtain ⟨A5, c5, A6, c6, hh5, hr5⟩ := HST.out
      have g0 : ∀ i, WC.cell? ⟨w1.heap.size, i, none⟩ = #[.slice A5 D5.dry.length c5, .slice A6 D5.wet.length c6, .int .i64 D5.fuse, .bool D5.dead][i]? := fun i => cell_of_row WC _ i _ _ _ hh5
      have HR5 := Lib.hid hr5.any
      clear hWC hh5 hr5 HST f0 f1 HH HR0 HBS HB2
      go_wp2_with fail
      refine (HR.out _ _ HR5.out).mono ?_
      rintro e w4 ⟨v4, rfl, hown, hb4⟩
      obtain ⟨A7, c7, rfl⟩ := own_slice hown
      have hcl := own_cells (S := fun _ => True) hown (fun _ _ => trivial)
      obtain ⟨a7, hA7, _, hcell⟩ := hcl (by rw [octets_length, p7]; omega)
      subst hA7
      have k0 : w4.cell? a7 = some (.int .u8 9) := hcell 0 _ (octets_at p8)
      have k2 : w4.cell? ⟨a7.block, a7.off + 1, none⟩ = some (.int .u8 7) := hcell 1 _ (octets_at p9)
      have k1 : w4.cell? (a7.add 1) = some (.int .u8 7) := hcell 1 _ (octets_at p9)
      have HBF := Lib.hid (HBL.out.trans (hb4.mono HBL.out.size))
      have P7 := Lib.hid p7
      rw [p7]
      clear p7 p8 p9 hown hb4 hcell HBL
      go_wp2_with fail
      go_ret
      exact ⟨rfl, HBF.out⟩

end Go.Proofs.Ytdbioekmhlgolaa
