/- The law DiskLast, walked. -/
import Derived.Test.Ytdbioekmhlgolaa3K
import Derived.Deep.DeepCutAuto
import Derived.IntWalk
import Derived.Deep.CutBlock
namespace Go.Proofs.Ytdbioekmhlgolaa
open Go.RowKit Dk

set_option maxRecDepth 10000 in
set_option maxHeartbeats 8000000 in
theorem diskLast_any (n : Int) (v : Value) (ops : List OpW) (w : World) (h : Ops w v ops) :
    Calls Try.prog 5 #[.int .i64 n, v] w (True_ w) := by
  have HOPS := Lib.hid h
  obtain ⟨A, c, rfl, hc1, hc2, _⟩ := h
  unfold maxLen at hc2
  have HLIVE := Lib.hid (live_any w)
  by_cases hin : 1 ≤ n ∧ n ≤ 12 ∧ ops.length ≤ 100
  · obtain ⟨n1, n2, l1⟩ := hin
    obtain ⟨m, rfl⟩ : ∃ m : Nat, n = (m : Int) := ⟨n.toNat, by omega⟩
    obtain ⟨d0, hnew, hgood⟩ := Good.new (n := m) (by omega) (by omega)
    have HN := Lib.hid (fun W => new_any (m : Int) W)
    rw [hnew] at HN
    have HGOOD := Lib.hid hgood
    have t1 : decide (100 < (ops.length : Int)) = false := by simp; omega
    clear hnew hgood
    generalize hL : ops.length = L at *
    have HL := Lib.hid hL
    clear hL
    obtain ⟨i8, hi8, hz8, hs8, hb8⟩ := info_parts info8
    obtain ⟨R0, hR0⟩ : ∃ R0, R0 = (octets (List.replicate m 0)).toArray := ⟨_, rfl⟩
    have hmk : ∀ W : World, (Instr.makeSlice 22 (.int .i64 (m : Int)) (.int .i64 (m : Int))).run Try.prog W = .ok (.slice (some ⟨W.heap.size, 0, none⟩) m m) (W.alloc (.cells R0 5)) := by
      intro W
      have := run_make (P := Try.prog) W 22 5 i8 _ Try.underlying22 hi8 hz8 .i64 .i64 (m : Int) (m : Int) (by omega) (by omega) (by rw [hb8]; omega) (by omega)
      rw [this, hs8, hR0, Int.toNat_natCast, Nat.mul_one]
      have e : madeCells (Value.int .u8 0).cells m = (octets (List.replicate m 0)).toArray := by
        apply Array.ext'
        rw [show (Value.int IntKind.u8 0).cells = #[Value.int .u8 0] from rfl, toList_madeCells_one]
        simp [octets]
      rw [e]
    have HR0 := Lib.hid hR0
    clear hR0 hi8 hz8 hs8 hb8
    go_enter Try.func5, Try.ntmps5
    go_wp2_with fail
    refine HLIVE.out.mono ?_
    rintro e w1 ⟨rfl, hb1⟩
    have HB1 := Lib.hid hb1
    clear hb1
    go_wp2_with fail
    refine (HN.out _).mono ?_
    intro e w2 hg
    obtain ⟨A2, c2, A2', c2', rfl, ho2, hb2⟩ := gives_disk hg
    dsimp only at ho2 ⊢
    have HV2 := Lib.hid (DV.new ho2)
    have HB2 := Lib.hid (HB1.out.trans (hb2.mono HB1.out.size))
    clear hg ho2 hb2
    go_wp2_with fail
    obtain ⟨g, hgd⟩ : ∃ g, g = w2.heap.size := ⟨_, rfl⟩
    obtain ⟨W5, hW5⟩ : ∃ W5, W5 = ((w2.alloc (Obj.cells #[Value.slice A2 d0.dry.length c2, Value.slice A2' d0.wet.length c2', .int .i64 d0.fuse, .bool d0.dead] 25)).alloc (Obj.cells R0 5)).alloc (Obj.cells R0 5) := ⟨_, rfl⟩
    have hstart : LastAt w g (g + 1) (g + 2) m 0 (.slice none 0 0) W5 := by
      have hz2 := HB2.out.size
      have h1 : Below (w2.heap.size + 1) (w2.alloc (Obj.cells #[Value.slice A2 d0.dry.length c2, Value.slice A2' d0.wet.length c2', .int .i64 d0.fuse, .bool d0.dead] 25)) W5 := by
        rw [hW5]; exact ((Below.refl _ _).alloc (by simp) _).alloc (by simp) _
      refine ⟨d0, _, _, [], HGOOD.out, Nat.zero_le _, ?_, ?_, ?_, World.ownsRow_nil _ _ _ _, ?_⟩
      · rw [hgd]
        refine (HV2.out.below (by simpa using h1)).more fun b _ hS => ?_
        have h2 := HB1.out.size
        have h3 := hS.1
        have h4 := hS.2
        exact ⟨by omega, by omega, by omega, by omega, by simp [Value.ownBlock]⟩
      · rw [hgd, hW5, ← HR0.out, Below.heap_alloc _ _ _ (by simp)]
        exact heap_second _ _ _
      · rw [hgd, hW5, ← HR0.out]
        exact heap_thirdly _ _ _ _
      · rw [hW5]
        exact ((HB2.out.alloc hz2 _).alloc (by simp; omega) _).alloc (by simp; omega) _
    have HSTART := Lib.hid hstart
    clear hstart
    subst hgd
    go_loopw [10, 51] (fun s i wr => ∃ k : Nat, k ≤ L ∧ i = .int .i64 (k : Int) ∧ LastAt w w2.heap.size (w2.heap.size + 1) (w2.heap.size + 1 + 1) m k s wr) (fun _ i _ => L - (intOf i).toNat)
    case atStart =>
      refine ⟨0, by omega, rfl, ?_⟩
      have h := HSTART.out
      rw [hW5] at h
      exact h
    case round =>
      obtain ⟨k, hk, rfl, hla⟩ := hrel
      have HLA := Lib.hid hla
      clear HSTART hW5
      by_cases hlt : k < L
      · obtain ⟨op, hop⟩ : ∃ op, ops[k]? = some op := ⟨_, List.getElem?_eq_getElem (by rw [HL.out]; exact hlt)⟩
        have hbe : Below w.heap.size w wr := let ⟨_, _, _, _, _, _, _, _, _, _, h⟩ := hla; h
        obtain ⟨A', c'', he, _, _, hcell⟩ := HOPS.out.below hbe
        injection he with he1 he2 he3
        clear he2
        subst he1 he3
        obtain ⟨a, rfl, q1, q2, q3, hkb, hpb⟩ := hcell k op hop
        have hm0 : ¬ (m : Int) = 0 := by omega
        have hr1 : -(m : Int) < op.pos.tmod m := Int.lt_tmod_of_pos _ (by omega)
        have hr2 : op.pos.tmod m < m := Int.tmod_lt_of_pos _ (by omega)
        obtain ⟨x, hx⟩ : ∃ x : Nat, (op.pos.tmod m + m).tmod m = (x : Int) := ⟨((op.pos.tmod m + m).tmod m).toNat, by
          have := Int.tmod_nonneg (m : Int) (show 0 ≤ op.pos.tmod m + m by omega)
          omega⟩
        have hxm : x < m := by
          have := Int.tmod_lt_of_pos (op.pos.tmod m + m) (show (0 : Int) < m by omega)
          omega
        have p1 : IntKind.i64.wrap (op.pos.tmod m) = op.pos.tmod m := IntWalk.i64_in _ (by omega)
        have p2 : IntKind.i64.wrap (op.pos.tmod m + m) = op.pos.tmod m + m := IntWalk.i64_in _ (by omega)
        have p3 : IntKind.i64.wrap ((x : Nat) : Int) = (x : Int) := IntWalk.i64_in _ (by omega)
        have p4 : IntKind.i64.wrap (op.kind.tmod 3) = op.kind.tmod 3 := IntWalk.i64_in _ (by
          have := Int.lt_tmod_of_pos op.kind (show (0 : Int) < 3 by omega)
          have := Int.tmod_lt_of_pos op.kind (show (0 : Int) < 3 by omega)
          omega)
        have hwz : w.heap.size ≤ wr.heap.size := hbe.size
        replace q2 := cell_next q2
        replace q3 := cell_next2 q3
        clear hcell hop hla hbe hkb hpb
        go_upto_block 2 with fail
        obtain ⟨Wo, hWo⟩ : ∃ Wo, Wo = wr.alloc (Obj.cells #[Value.int IntKind.i64 op.kind, Value.int IntKind.i64 op.pos, Value.int IntKind.u8 (op.c.toNat : Int)] 46) := ⟨_, rfl⟩
        rw [← hWo]
        have HWo := Lib.hid hWo
        clear hWo
        go_cut [10, 14] (fun s10 s14 wx => s14 = .int .i64 0 ∧ LastAt w w2.heap.size (w2.heap.size + 1) (w2.heap.size + 1 + 1) m (k + 1) s10 wx)
        case first =>
          clear p1 p2 p3 p4 hx hr1 hr2 hm0 q1 q2 q3
          have hla0 := HLA.out
          have hla1 : LastAt w w2.heap.size (w2.heap.size + 1) (w2.heap.size + 1 + 1) m k u10 Wo := by
            rw [HWo.out]
            exact hla0.below (below_new wr _)
          obtain ⟨d, kept, now, l, hgo, hll, hdv, h8, h9, hw10, hbe⟩ := hla1
          have hob : Wo.heap[wr.heap.size]? = some (.cells #[Value.int IntKind.i64 op.kind, Value.int IntKind.i64 op.pos, Value.int IntKind.u8 (op.c.toNat : Int)] 46 (0, 0)) := by rw [HWo.out]; exact heap_alloc_new wr _
          have HGO := Lib.hid hgo
          have HDV := Lib.hid hdv
          have H8 := Lib.hid h8
          have H9 := Lib.hid h9
          have HW10 := Lib.hid hw10
          have HBE := Lib.hid hbe
          have HOB := Lib.hid hob
          have H9r := Lib.hid (show w2.heap.size + 1 + 1 < wr.heap.size from let ⟨_, _, _, _, _, _, _, _, h, _⟩ := hla0; (Array.getElem?_eq_some_iff.1 h).1)
          clear hla0 hgo hdv h8 h9 hw10 hbe
          have o0 : Wo.cell? ⟨wr.heap.size, 0, none⟩ = some (.int .i64 op.kind) := cell_of_row Wo _ 0 _ _ _ hob
          have o1 : Wo.cell? ⟨wr.heap.size, 1, none⟩ = some (.int .i64 op.pos) := cell_of_row Wo _ 1 _ _ _ hob
          have o2 : Wo.cell? ⟨wr.heap.size, 2, none⟩ = some (.int .u8 (op.c.toNat : Int)) := cell_of_row Wo _ 2 _ _ _ hob
          clear hob
          by_cases hk0 : op.kind.tmod 3 = 0
          · have t0 : (op.kind.tmod 3 == 0) = true := by simpa using hk0
            clear hk0
            obtain ⟨Ad, cd, Ad', cd', hbx, hdr⟩ := HDV.out
            have f1 : ∀ i, Wo.cell? ⟨w2.heap.size, i, none⟩ = _ := fun i => cell_of_row Wo _ i _ _ _ hbx
            have f2 : w2.heap.size < Wo.heap.size := (Array.getElem?_eq_some_iff.1 hbx).1
            have f3 : wr.heap.size < Wo.heap.size := (Array.getElem?_eq_some_iff.1 HOB.out).1
            have f4 := H9r.out
            have HBX := Lib.hid hbx
            obtain ⟨df, hfl, hgf⟩ := HGO.out.write (by omega) (by omega) (by omega) x op.c hxm
            have HW1 := Lib.hid (show ∀ (v vb : Value) W, DiskR W (fun _ => True) v d → Bs W (fun _ => True) vb (List.replicate 32 op.c) → Calls Try.prog 15 #[v, .int .i64 (x : Int), vb] W (GivesDE W (df, 0)) from fun v vb W h1 h2 => by
              have := write_any v vb d (x : Int) (List.replicate 32 op.c) W h1 h2
              rwa [hfl] at this)
            have HRD := Lib.hid (hdr.more (S' := fun _ => True) fun _ _ _ => trivial)
            have HGF := Lib.hid hgf
            have HSE := Lib.hid (fun W => sector_any op.c W)
            generalize List.replicate 32 op.c = SC at *
            clear hbx hdr hfl hgf
            go_wp2_with fail
            go_upto_region 32 with fail
            go_cut [14] (fun s wx => s = .int .i64 0 ∧ MidL w w2.heap.size (w2.heap.size + 1) (w2.heap.size + 1 + 1) wr.heap.size df kept now l #[Value.int IntKind.i64 op.kind, Value.int IntKind.i64 op.pos, Value.int IntKind.u8 (op.c.toNat : Int)] u10 wx)
            case first =>
              go_region_law (first
                | (go_simp
                   go_at_call 30
                   refine (HSE.out _).mono ?_
                   rintro e w6 ⟨v6, rfl, hown, hbe⟩
                   obtain ⟨A6, c6, rfl⟩ := own_slice hown
                   have hbe2 : Below Wo.heap.size Wo w6 := ⟨hbe.os, hbe.tape, hbe.output, hbe.size, hbe.block⟩
                   have hh2 := (hbe2.block _ f2).trans HBX.out
                   have d0 : ∀ i, w6.cell? ⟨w2.heap.size, i, none⟩ = _ := fun i => cell_of_row w6 _ i _ _ _ hh2
                   have HBS : Hid (Bs w6 (fun _ => True) _ SC) := Bs.of_own hown (fun _ _ => trivial)
                   have HBS6 := Lib.hid hbe2
                   have hs6 := hbe2.size
                   clear hown hbe hbe2 hh2)
                | (go_simp
                   go_at_call 15
                   refine (HW1.out _ _ _ ?_ ?_).mono ?_
                   exact HRD.out.below HBS6.out
                   exact HBS.out
                   rintro e w7 hgs
                   obtain ⟨A4, c4, A4', c4', rfl, ho4, hb4⟩ := gives_disk hgs
                   dsimp only at ho4 ⊢
                   have hwi : Below Wo.heap.size Wo w7 := HBS6.out.trans (hb4.mono hs6)
                   have hs7 := hb4.size
                   have hh7 := (hwi.block _ f2).trans HBX.out
                   have d1 : ∀ i, w7.cell? ⟨w2.heap.size, i, none⟩ = _ := fun i => cell_of_row w7 _ i _ _ _ hh7
                   have d2 : ∀ i, w7.frozen? ⟨w2.heap.size, i, none⟩ = false := fun i => by simp [World.frozen?, hh7]
                   have hst := MidL.mk ho4 HBX.out rfl H8.out H9.out HOB.out HW10.out HBE.out hwi HB2.out.size hs6 (by omega) (by omega) (by omega)
                   simp only [resCells] at hst
                   have HST := Lib.hid hst
                   clear hgs ho4 hb4 hh7 hst hwi))
              all_goals
                go_wp2_with fail
                go_meet
                exact ⟨rfl, HST.out⟩
            case rest =>
              obtain ⟨rfl, hmid⟩ := hcut
              have l9 : w2.heap.size + 1 + 1 < wc.heap.size := (Array.getElem?_eq_some_iff.1 hmid.2.2.1).1
              have lo : wr.heap.size < wc.heap.size := (Array.getElem?_eq_some_iff.1 hmid.2.2.2.1).1
              obtain ⟨y, hy⟩ : ∃ y, now[x]? = some y := ⟨_, List.getElem?_eq_getElem (by rw [HGO.out.now_len]; exact hxm)⟩
              have c9 : wc.cell? ⟨w2.heap.size + 1 + 1, x, none⟩ = some (.int .u8 (y.toNat : Int)) := (cell_of_row wc _ x _ _ _ hmid.2.2.1).trans (by simpa using octets_at hy)
              have z9 : wc.frozen? ⟨w2.heap.size + 1 + 1, x, none⟩ = false := by simp [World.frozen?, hmid.2.2.1]
              have oc : wc.cell? ⟨wr.heap.size, 2, none⟩ = some (.int .u8 (op.c.toNat : Int)) := cell_of_row wc _ 2 _ _ _ hmid.2.2.2.1
              have HMID := Lib.hid hmid
              have HOW := Lib.hid (own_far (p := ⟨w2.heap.size + 1 + 1, x, none⟩) hmid.2.2.2.2.1 (own_blk_ne hmid.2.2.2.2.1 hmid.2.2.1 (by decide)) (.int .u8 (op.c.toNat : Int)))
              have HBC := Lib.hid hmid.2.2.2.2.2
              obtain ⟨iw, hiw, hzw, hsw, hbw⟩ := info_parts infoWet
              clear f1 f2 o0 o1 o2 hmid hy
              go_wp2_with (at_builtin; refine wpList_append_cells _ rfl (.tmp 116) (.tmp 121) _ rfl w.heap.size 49 iw (.agg #[.int .i64 0, .int .u8 0]) 2 16 Try.underlying44 hiw hzw hsw hbw rfl (by decide) _ l.length _ rfl (HOW.out.alloc _) (fun _ => True) _ 1 1 [.int .i64 (x : Int), .int .u8 (op.c.toNat : Int)] rfl rfl (cells_new (cs := #[.int .i64 (x : Int), .int .u8 (op.c.toNat : Int)]) (heap_alloc_set _ _ _ _) trivial) (by simp [Value.oneCell']) (by unfold maxLen; omega) (by omega) (by have := HBC.out.size; simp; omega) ?_)
              intro v5 w5 hown5 hgr5 hat5
              have HL5 := Lib.hid (HMID.out.last HGF.out hll hgr5 hat5 hown5 (by have := HB2.out.size; omega) (by omega) (by omega))
              clear hown5 hgr5 hat5
              go_wp2_with fail
              go_meet
              exact ⟨rfl, HL5.out⟩
          · by_cases hk1 : op.kind.tmod 3 = 1
            · have t0 : (op.kind.tmod 3 == 0) = false := by simpa using hk0
              have t1 : (op.kind.tmod 3 == 1) = true := by simpa using hk1
              clear hk0 hk1
              obtain ⟨Ad, cd, Ad', cd', hbx, hdr⟩ := HDV.out
              have f1 : ∀ i, Wo.cell? ⟨w2.heap.size, i, none⟩ = _ := fun i => cell_of_row Wo _ i _ _ _ hbx
              have f2 : w2.heap.size < Wo.heap.size := (Array.getElem?_eq_some_iff.1 hbx).1
              have e8 : w2.heap.size + 1 < Wo.heap.size := (Array.getElem?_eq_some_iff.1 H8.out).1
              have e9 : w2.heap.size + 1 + 1 < Wo.heap.size := (Array.getElem?_eq_some_iff.1 H9.out).1
              have HBX := Lib.hid hbx
              obtain ⟨df, hfl, hgf⟩ := HGO.out.flush (by omega) (by omega) (by omega)
              have HFL := Lib.hid (flush_any _ d Wo (hdr.more fun _ _ _ => trivial))
              rw [hfl] at HFL
              have HGF := Lib.hid hgf
              clear hbx hdr hfl hgf
              go_wp2_with fail
              refine HFL.out.mono ?_
              intro e w4 hg
              obtain ⟨A4, c4, A4', c4', rfl, ho4, hb4⟩ := gives_disk hg
              dsimp only at ho4 ⊢
              have hbx4 := below_past HBX.out hb4
              have i6 : ∀ i, w4.cell? ⟨w2.heap.size, i, none⟩ = _ := fun i => cell_of_row w4 _ i _ _ _ hbx4
              have i7 : ∀ i, w4.frozen? ⟨w2.heap.size, i, none⟩ = false := fun i => by simp [World.frozen?, hbx4]
              have z4 : w2.heap.size < w4.heap.size := by have := hb4.size; omega
              have hlast := LastAt.dry (w := w) (g6 := w2.heap.size) (g8 := w2.heap.size + 1) (g9 := w2.heap.size + 1 + 1) (n := m) HGF.out ho4 hbx4 rfl (below_past H8.out hb4) (below_past H9.out hb4) (HBE.out.trans (hb4.mono HBE.out.size)) HB2.out.size f2 e8 e9 (by omega) (by omega)
              obtain ⟨W4, hW4⟩ : ∃ W4, W4 = resCells w4 w2.heap.size (.slice A4 df.dry.length c4) (.slice A4' df.wet.length c4') (.int .i64 df.fuse) (.bool df.dead) := ⟨_, rfl⟩
              rw [← hW4] at hlast
              have HLAST := Lib.hid hlast
              have HSZ := Lib.hid (show w2.heap.size + 1 + 1 < W4.heap.size from (Array.getElem?_eq_some_iff.1 hlast.2.2.1).1)
              simp only [resCells] at hW4
              clear hg ho4 hb4 hbx4 hlast f1 f2 e8 e9
              go_upto_region 37 with fail
              rw [← hW4]
              clear i6 i7 z4 hW4
              obtain ⟨hv4, h84, h94, hb44⟩ := HLAST.out
              have hnl := HGO.out.now_len
              have hkl := HGO.out.len
              have HV4 := Lib.hid hv4
              have H84 := Lib.hid h84
              have H94 := Lib.hid h94
              have HB44 := Lib.hid hb44
              have HNL := Lib.hid (show (octets now).length = m by rw [octets_length]; exact hnl)
              have HKL := Lib.hid (show (octets kept).length = m by rw [octets_length]; exact hkl)
              clear hv4 h84 h94 hb44 hnl hkl
              go_wp2_with (refine wpList_copy_only (o := ⟨some 132, _, _, _, _, _⟩) rfl (.tmp 130) (.tmp 131) 22 22 rfl 5 Try.underlying22 size_oct (some ⟨w2.heap.size + 1, 0, none⟩) (some ⟨w2.heap.size + 1 + 1, 0, none⟩) m m m m rfl rfl (w2.heap.size + 1) 0 (octets kept) 5 H84.out (octets now) (by rw [HNL.out]; exact (Nat.min_self m).symm) (fun _ => ⟨rfl, _, rfl, blk_cells H94.out⟩) (by rw [HNL.out, HKL.out]; omega) octets_one ?_)
              intro w5 hsp5 hgr5 hsz5
              have HG5 := Lib.hid hgr5
              have HLA5 : Hid (LastAt w w2.heap.size (w2.heap.size + 1) (w2.heap.size + 1 + 1) m (k + 1) (.slice none 0 0) w5) := by
                have e8 := HSZ.out
                refine ⟨df, now, now, [], HGF.out, Nat.zero_le _, HV4.out.grown hgr5 (by simp) (fun b hS => by simpa using hS.2.2.1), ?_, (hgr5.block _ (by omega) (by simp)).trans H94.out, World.ownsRow_nil _ _ _ _, HB44.out.grown hgr5 HB44.out.size (fun i hi => by injection hi with hi; have := HB2.out.size; omega)⟩
                have h := hsp5.out
                rw [splice_all (by rw [HNL.out, HKL.out])] at h
                exact h
              clear hgr5 hsz5 HG5
              go_wp2_with fail
              go_meet
              exact ⟨rfl, HLA5.out⟩
            · have t0 : (op.kind.tmod 3 == 0) = false := by simpa using hk0
              have t1 : (op.kind.tmod 3 == 1) = false := by simpa using hk1
              clear hk0 hk1
              obtain ⟨bit, hbit⟩ : ∃ bit : Nat → Bool, bit = fun j => decide (op.c.toNat / 2 ^ (j % 8) % 2 = 1) := ⟨_, rfl⟩
              have HBIT := Lib.hid hbit
              clear hbit
              obtain ⟨A10, c10, hu10⟩ := own_slice HW10.out
              subst hu10
              have hc10 : l.length ≤ c10 ∧ c10 ≤ 9223372036854775807 := by
                rcases HW10.out.2 with ⟨he, h0⟩ | ⟨g, cap, cur, he, hg, hh, hc, hmx, hs, ht⟩
                · injection he with _ _ e3
                  omega
                · injection he with _ _ e3
                  unfold maxLen at hmx
                  omega
              obtain ⟨hc10a, hc10b⟩ := hc10
              have hB : w.heap.size ≤ Wo.heap.size := HBE.out.size
              have hcr : CrashAt w Wo.heap.size w2.heap.size (w2.heap.size + 1) (w2.heap.size + 1 + 1) wr.heap.size d kept now l #[Value.int IntKind.i64 op.kind, Value.int IntKind.i64 op.pos, Value.int IntKind.u8 (op.c.toNat : Int)] (.slice A10 l.length c10) (.slice none 0 0) [] Wo :=
                ⟨HDV.out.more fun b hb hS => ⟨hb, hS.2.1, hS.2.2.1, hS.2.2.2.1⟩, H8.out, H9.out, HOB.out, HW10.out, World.ownsRow_nil _ _ _ _, HBE.out, Nat.le_refl _, HDV.out.lt, (Array.getElem?_eq_some_iff.1 H8.out).1, (Array.getElem?_eq_some_iff.1 H9.out).1, (Array.getElem?_eq_some_iff.1 HOB.out).1, fun b hb => (HW10.out.lt b hb).2⟩
              have HCR := Lib.hid hcr
              have hz2 := HB2.out.size
              clear hcr o0 o1 o2
              obtain ⟨wq, rfl⟩ : ∃ wq : World, wq = wr := ⟨_, rfl⟩
              go_wp2_with fail
              go_loopw [15, 16, 17, 18, 68] (fun s _ _ _ i wx => ∃ j : Nat, j ≤ l.length ∧ i = .int .i64 (j : Int) ∧ CrashAt w Wo.heap.size w2.heap.size (w2.heap.size + 1) (w2.heap.size + 1 + 1) wq.heap.size d (keptBy bit 0 (l.take j) kept) now l #[Value.int IntKind.i64 op.kind, Value.int IntKind.i64 op.pos, Value.int IntKind.u8 (op.c.toNat : Int)] (.slice A10 l.length c10) s (keepL bit j) wx) (fun _ _ _ _ i _ => l.length - (intOf i).toNat)
              case atStart => exact ⟨0, by omega, rfl, HCR.out⟩
              case round =>
                obtain ⟨j, hj, rfl, hcr⟩ := hrel
                by_cases hjl : j < l.length
                · obtain ⟨⟨px, pc⟩, hp⟩ : ∃ p, l[j]? = some p := ⟨_, List.getElem?_eq_getElem hjl⟩
                  have hpx : px < m := HGO.out.at_ _ (List.mem_of_getElem? hp)
                  obtain ⟨p0, p1⟩ := pairs_at hp
                  obtain ⟨g10, cap, he, _, _⟩ := hcr.2.2.2.2.1.form (by omega)
                  injection he with e1 e2 e3
                  subst e1
                  have c0 : wr.cell? ⟨g10, j * 2, none⟩ = some (.int .i64 (px : Int)) := (hcr.2.2.2.2.1.cellAt (j * 2) (by omega)).trans p0
                  have c1 : wr.cell? ⟨g10, j * 2 + 1, none⟩ = some (.int .u8 (pc.toNat : Int)) := (hcr.2.2.2.2.1.cellAt (j * 2 + 1) (by omega)).trans p1
                  have lg : wq.heap.size < wr.heap.size := (Array.getElem?_eq_some_iff.1 hcr.2.2.2.1).1
                  have l8 : w2.heap.size + 1 < wr.heap.size := (Array.getElem?_eq_some_iff.1 hcr.2.1).1
                  have oc : wr.cell? ⟨wq.heap.size, 2, none⟩ = some (.int .u8 (op.c.toNat : Int)) := cell_of_row wr _ 2 _ _ _ hcr.2.2.2.1
                  have hkl : (keptBy bit 0 (l.take j) kept).length = m := by rw [keptBy_length]; exact HGO.out.len
                  obtain ⟨y, hy⟩ : ∃ y, (keptBy bit 0 (l.take j) kept)[px]? = some y := ⟨_, List.getElem?_eq_getElem (by omega)⟩
                  have c8 : wr.cell? ⟨w2.heap.size + 1, px, none⟩ = some (.int .u8 (y.toNat : Int)) := (cell_of_row wr _ px _ _ _ hcr.2.1).trans (by simpa using octets_at hy)
                  have z8 : wr.frozen? ⟨w2.heap.size + 1, px, none⟩ = false := by simp [World.frozen?, hcr.2.1]
                  have hba := bit_at op.c j
                  have HST := Lib.hid (show keptBy bit 0 (l.take (j + 1)) kept = if bit j then (keptBy bit 0 (l.take j) kept).set px pc else keptBy bit 0 (l.take j) kept by
                    rw [List.take_add_one, hp, Option.toList_some, keptBy_snoc, List.length_take, Nat.min_eq_left (by omega), Nat.zero_add])
                  have HKS := Lib.hid (keepL_succ bit j)
                  have hkn : (keepL bit j).length ≤ 100 := by rw [keepL_length]; omega
                  have hbj : bit j = decide (op.c.toNat / 2 ^ (j % 8) % 2 = 1) := by rw [HBIT.out]
                  have hml : op.c.toNat / 2 ^ (j % 8) % 2 < 2 := Nat.mod_lt _ (by omega)
                  have HCRJ := Lib.hid hcr
                  have hcu := op.c.toNat_lt
                  obtain ⟨b8, hb8'⟩ : ∃ b, b = op.c.toNat / 2 ^ (j % 8) % 2 := ⟨_, rfl⟩
                  rw [← hb8'] at hba hbj hml
                  obtain ⟨i8', hi8', hz8', hs8', hb8''⟩ := info_parts info8
                  clear hcr hp p0 p1 hy hkl hb8' e2 e3
                  by_cases hone : b8 = 1
                  · subst hone
                    have HBJ := Lib.hid (show bit j = true by rw [hbj]; rfl)
                    clear hbj hml
                    have HCR2 := Lib.hid ((HCRJ.out.put (by omega) (by omega) (by omega) px pc).below (below_new _ (Obj.cells #[Value.int IntKind.i64 (px : Int), Value.int IntKind.u8 (pc.toNat : Int)] 49)))
                    go_wp2_with (at_builtin; refine wpList_append_cells _ rfl (.tmp 86) (.tmp 88) _ rfl Wo.heap.size 5 i8' (.int .u8 0) 1 1 Try.underlying22 hi8' hz8' hs8' hb8'' rfl (by decide) _ (keepL bit j).length _ rfl (HCR2.out.2.2.2.2.2.1.alloc _) (fun _ => True) _ 1 1 [.int .u8 255] rfl rfl (cells_new (cs := #[.int .u8 255]) (heap_alloc_set3 _ _ _ _ _) trivial) (by simp [Value.oneCell']) (by unfold maxLen; omega) (by omega) (by have := HCR2.out.2.2.2.2.2.2.2.1; simp [World.setCell] at this ⊢; omega) ?_)
                    rintro v5 w5 hown5 hgr5 -
                    have HC5 := Lib.hid (HCR2.out.more hB (k := 255) hgr5 hown5)
                    clear hown5 hgr5
                    go_wp2_with fail
                    go_roundw
                    case rel =>
                      refine ⟨j + 1, by omega, by go_num, ?_⟩
                      have h := HC5.out
                      rw [HST.out, HKS.out, HBJ.out]
                      exact h
                    case measure => simp [intOf]; omega
                  · obtain rfl : b8 = 0 := by omega
                    have HBJ := Lib.hid (show bit j = false by rw [hbj]; rfl)
                    clear hbj hml hone
                    have HCR2 := Lib.hid (HCRJ.out.below (below_new wr (Obj.cells #[Value.int IntKind.i64 (px : Int), Value.int IntKind.u8 (pc.toNat : Int)] 49)))
                    go_wp2_with (at_builtin; refine wpList_append_cells _ rfl (.tmp 86) (.tmp 88) _ rfl Wo.heap.size 5 i8' (.int .u8 0) 1 1 Try.underlying22 hi8' hz8' hs8' hb8'' rfl (by decide) _ (keepL bit j).length _ rfl (HCR2.out.2.2.2.2.2.1.alloc _) (fun _ => True) _ 1 1 [.int .u8 0] rfl rfl (cells_new (cs := #[.int .u8 0]) (heap_second _ _ _) trivial) (by simp [Value.oneCell']) (by unfold maxLen; omega) (by omega) (by have := HCR2.out.2.2.2.2.2.2.2.1; simp [World.setCell] at this ⊢; omega) ?_)
                    rintro v5 w5 hown5 hgr5 -
                    have HC5 := Lib.hid (HCR2.out.more hB (k := 0) hgr5 hown5)
                    clear hown5 hgr5
                    go_wp2_with fail
                    go_roundw
                    case rel =>
                      refine ⟨j + 1, by omega, by go_num, ?_⟩
                      have h := HC5.out
                      rw [HST.out, HKS.out, HBJ.out]
                      exact h
                    case measure => simp [intOf]; omega
                · obtain rfl : j = l.length := by omega
                  have HTK := Lib.hid (show keptBy bit 0 (l.take l.length) kept = keptBy bit 0 l kept by rw [List.take_length])
                  rw [HTK.out] at hcr
                  obtain ⟨df, hfl, hgf⟩ := HGO.out.crash (by omega) (by omega) (by omega) bit (keepL bit l.length) (keepL_of bit l.length)
                  obtain ⟨hdv, h8, h9, hoc, hw10, hks, hbe, hBw, q6, q8, q9, qo, qv⟩ := hcr
                  obtain ⟨Ad, cd, Ad', cd', hbx, hdr⟩ := hdv
                  have f1 : ∀ i, wr.cell? ⟨w2.heap.size, i, none⟩ = _ := fun i => cell_of_row wr _ i _ _ _ hbx
                  have f2 : w2.heap.size < wr.heap.size := (Array.getElem?_eq_some_iff.1 hbx).1
                  have HBX := Lib.hid hbx
                  have HCRA := Lib.hid (show ∀ v, Bs wr (fun _ => True) v (keepL bit l.length) → Calls Try.prog 21 #[.agg #[.slice Ad d.dry.length cd, .slice Ad' d.wet.length cd', .int .i64 d.fuse, .bool d.dead], v] wr (GivesDE wr (df, 0)) from fun v h1 => by
                    have := crash_any _ v d (keepL bit l.length) wr (hdr.more fun _ _ _ => trivial) h1
                    rwa [hfl] at this)
                  have HKS := Lib.hid (Bs.of_own (S := fun _ => True) hks fun _ _ => trivial)
                  have HGF := Lib.hid hgf
                  have H8' := Lib.hid h8
                  have H9' := Lib.hid h9
                  have HBE' := Lib.hid hbe
                  have HKN := Lib.hid (show (octets (keptBy bit 0 l kept)).length = m by rw [octets_length, keptBy_length]; exact HGO.out.len)
                  generalize keptBy bit 0 l kept = kep at *
                  clear hbx hdr hfl hgf hks h8 h9 hoc hw10 hbe HTK
                  go_wp2_with fail
                  refine (HCRA.out _ HKS.out).mono ?_
                  intro e w4 hg
                  obtain ⟨A4, c4, A4', c4', rfl, ho4, hb4⟩ := gives_disk hg
                  dsimp only at ho4 ⊢
                  have hbx4 := below_past HBX.out hb4
                  have i6 : ∀ i, w4.cell? ⟨w2.heap.size, i, none⟩ = _ := fun i => cell_of_row w4 _ i _ _ _ hbx4
                  have i7 : ∀ i, w4.frozen? ⟨w2.heap.size, i, none⟩ = false := fun i => by simp [World.frozen?, hbx4]
                  have z4 : w2.heap.size < w4.heap.size := by have := hb4.size; omega
                  have hlast := LastAt.dry (w := w) (g6 := w2.heap.size) (g8 := w2.heap.size + 1) (g9 := w2.heap.size + 1 + 1) (n := m) HGF.out ho4 hbx4 rfl (below_past H8'.out hb4) (below_past H9'.out hb4) (HBE'.out.trans (hb4.mono HBE'.out.size)) HB2.out.size f2 (by omega) (by omega) (by omega) (by omega)
                  obtain ⟨W4, hW4⟩ : ∃ W4, W4 = resCells w4 w2.heap.size (.slice A4 df.dry.length c4) (.slice A4' df.wet.length c4') (.int .i64 df.fuse) (.bool df.dead) := ⟨_, rfl⟩
                  rw [← hW4] at hlast
                  have HLAST := Lib.hid hlast
                  have HSZ := Lib.hid (show w2.heap.size + 1 + 1 < W4.heap.size from (Array.getElem?_eq_some_iff.1 hlast.2.2.1).1)
                  simp only [resCells] at hW4
                  clear hg ho4 hb4 hbx4 hlast f1 f2
                  go_upto_region 29 with fail
                  rw [← hW4]
                  clear i6 i7 z4 hW4
                  obtain ⟨hv4, h84, h94, hb44⟩ := HLAST.out
                  have HV4 := Lib.hid hv4
                  have H84 := Lib.hid h84
                  have H94 := Lib.hid h94
                  have HB44 := Lib.hid hb44
                  have HNL := Lib.hid (show (octets now).length = m by rw [octets_length]; exact HGO.out.now_len)
                  clear hv4 h84 h94 hb44
                  go_wp2_with (refine wpList_copy_only (o := ⟨some 99, _, _, _, _, _⟩) rfl (.tmp 97) (.tmp 98) 22 22 rfl 5 Try.underlying22 size_oct (some ⟨w2.heap.size + 1 + 1, 0, none⟩) (some ⟨w2.heap.size + 1, 0, none⟩) m m m m rfl rfl (w2.heap.size + 1 + 1) 0 (octets now) 5 H94.out (octets kep) (by rw [HKN.out]; exact (Nat.min_self m).symm) (fun _ => ⟨rfl, _, rfl, blk_cells H84.out⟩) (by rw [HNL.out, HKN.out]; omega) octets_one ?_)
                  intro w5 hsp5 hgr5 hsz5
                  have HLA5 : Hid (LastAt w w2.heap.size (w2.heap.size + 1) (w2.heap.size + 1 + 1) m (k + 1) (.slice none 0 0) w5) := by
                    have e8 := HSZ.out
                    refine ⟨df, kep, kep, [], HGF.out, Nat.zero_le _, HV4.out.grown hgr5 (by simp; omega) (fun b hS => by simpa using hS.2.2.2.1), (hgr5.block _ (by omega) (by simp)).trans H84.out, ?_, World.ownsRow_nil _ _ _ _, HB44.out.grown hgr5 HB44.out.size (fun i hi => by injection hi with hi; have := HB2.out.size; omega)⟩
                    have h := hsp5.out
                    rw [splice_all (by rw [HNL.out, HKN.out])] at h
                    exact h
                  clear hgr5 hsz5
                  go_wp2_with fail
                  go_meet
                  exact ⟨rfl, HLA5.out⟩
        case rest =>
          obtain ⟨rfl, hla⟩ := hcut
          have HLB := Lib.hid (fun W (hb : Below wc.heap.size wc W) => hla.below hb)
          obtain ⟨d, kept, now, l, hgo, hll, hdv, h8, h9, hw10, hbe⟩ := hla
          have HNL := Lib.hid hgo.now_len
          have HRD := Lib.hid (fun (j : Nat) (y : UInt8) (hy : now[j]? = some y) => hgo.read (by omega) (by omega) (by omega) j y hy)
          have HDV := Lib.hid hdv
          have H9 := Lib.hid h9
          clear hgo hll hdv h8 h9 hw10 hbe q1 q2 q3
          go_wp2_with fail
          go_loopw [19, 20, 21, 22, 137] (fun _ _ _ _ i wx => ∃ j : Nat, j ≤ m ∧ i = .int .i64 (j : Int) ∧ Below wc.heap.size wc wx) (fun _ _ _ _ i _ => m - (intOf i).toNat)
          case atStart => exact ⟨0, by omega, rfl, Below.refl _ _⟩
          case round =>
            obtain ⟨j, hj, rfl, hb⟩ := hrel
            have HB := Lib.hid hb
            by_cases hjm : j < m
            · obtain ⟨y, hy⟩ : ∃ y, now[j]? = some y := ⟨_, List.getElem?_eq_getElem (by rw [HNL.out]; exact hjm)⟩
              obtain ⟨Ad, cd, Ad', cd', hbx, hdr⟩ := HDV.out.below hb
              have hrd := HRD.out j y hy
              have c9 : wr.cell? ⟨w2.heap.size + 1 + 1, j, none⟩ = some (.int .u8 (y.toNat : Int)) := (cell_of_row wr _ j _ _ _ (below_past H9.out hb)).trans (by simpa using octets_at hy)
              have f1 : ∀ i, wr.cell? ⟨w2.heap.size, i, none⟩ = _ := fun i => cell_of_row wr _ i _ _ _ hbx
              have f2 : w2.heap.size < wr.heap.size := (Array.getElem?_eq_some_iff.1 hbx).1
              have hra := read_any _ d (j : Int) wr (hdr.more fun _ _ _ => trivial)
              rw [hrd] at hra
              have hse := fun W => sector_any y W
              generalize List.replicate 32 y = S at *
              have HRA := Lib.hid hra
              have HSE := Lib.hid hse
              clear hy hbx hdr hrd hra hse hb
              go_wp2_with fail
              refine HRA.out.mono ?_
              rintro e w5 ⟨v5, he5, ho5, hb5⟩
              dsimp only at he5 ho5
              subst he5
              obtain ⟨A5, c5, rfl⟩ := own_slice ho5
              have HO5 := Lib.hid ho5
              have HB5 := Lib.hid (HB.out.trans (hb5.mono HB.out.size))
              clear ho5 hb5 f1 f2 c9
              go_wp2_with fail
              refine (HSE.out _).mono ?_
              rintro e w6 ⟨v6, rfl, ho6, hb6⟩
              obtain ⟨A6, c6, rfl⟩ := own_slice ho6
              have HS5 := Lib.hid ((Bs.of_own (S := fun _ => True) HO5.out fun _ _ => trivial).below hb6)
              have HS6 := Lib.hid (Bs.of_own (S := fun _ => True) ho6 fun _ _ => trivial)
              have HB6 := Lib.hid (HB5.out.trans (hb6.mono HB5.out.size))
              clear ho6 hb6
              go_wp2_with fail
              refine (sameBytes_any _ _ S S _ HS5.out HS6.out).mono ?_
              rw [decide_eq_true rfl]
              rintro e w7 ⟨rfl, rfl⟩
              go_wp2_with fail
              go_roundw
              case rel => exact ⟨j + 1, by omega, by go_num, HB6.out⟩
              case measure => simp [intOf]; omega
            · have hfin := HLB.out wr hb
              have HFIN := Lib.hid hfin
              clear hfin hb
              go_wp2_with fail
              exact ⟨⟨k + 1, by omega, by go_num, HFIN.out⟩, by simp [intOf]; omega⟩
      · obtain rfl : k = L := by omega
        obtain ⟨d, kept, now, l, hgo, hll, ⟨Ad, cd, Ad', cd', hbx, hdr⟩, h8, h9, hw10, hbe⟩ := hla
        have f1 : ∀ i, wr.cell? ⟨w2.heap.size, i, none⟩ = _ := fun i => cell_of_row wr _ i _ _ _ hbx
        have f2 : w2.heap.size < wr.heap.size := (Array.getElem?_eq_some_iff.1 hbx).1
        have HCK := Lib.hid (check_any _ d wr (hdr.more fun _ _ _ => trivial))
        have HCZ := Lib.hid (show check d = 0 by rw [check, if_pos (hgo.ok (by omega) (by omega) (by omega))])
        have HBE := Lib.hid hbe
        clear hgo hll hbx hdr h8 h9 hw10 hbe
        go_wp2_with fail
        have hck := HCK.out
        rw [HCZ.out] at hck
        refine hck.mono ?_
        rintro e w9 ⟨rfl, hb9⟩
        have HB9 := Lib.hid (HBE.out.trans (hb9.mono HBE.out.size))
        clear hb9 hck f1 f2
        go_wp2_with fail
        go_ret
        exact ⟨rfl, HB9.out⟩
  · have hno : n < 1 ∨ (¬ n < 1 ∧ 12 < n) ∨ (¬ n < 1 ∧ ¬ 12 < n ∧ (100 : Int) < (ops.length : Int)) := by omega
    clear hin
    generalize ops.length = L at *
    rcases hno with h1 | ⟨h1, h2⟩ | ⟨h1, h2, h3⟩
    all_goals
      go_enter Try.func5, Try.ntmps5
      go_wp2_with fail
      refine HLIVE.out.mono ?_
      rintro e w1 ⟨rfl, hb1⟩
      have HB1 := Lib.hid hb1
      clear hb1
      go_wp2_with fail
      go_ret
      exact ⟨rfl, HB1.out⟩

end Go.Proofs.Ytdbioekmhlgolaa
