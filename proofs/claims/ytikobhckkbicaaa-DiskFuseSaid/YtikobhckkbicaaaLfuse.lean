/- The law DiskFuse, walked. -/
import Derived.Test.YtikobhckkbicaaaT
import Derived.Test.YtikobhckkbicaaaS
import Derived.Deep.RegionLaw
import Derived.Deep.DeepCutAuto
import Derived.IntWalk
namespace Go.Proofs.Ytikobhckkbicaaa
open Go.RowKit Dk

/-- The two disks of the law, behind k of its deeds. -/
def FuseAt (B : Nat) (w : World) (g8 g10 n : Nat) (fuse : Int) (k : Nat) (wr : World) : Prop :=
  ∃ a b, Alive n k a ∧ (((k : Int) ≤ fuse ∧ b = twin (fuse - k) a) ∨ (fuse < (k : Int) ∧ b.ok = true ∧ b.dead = true)) ∧ DV wr (fun x => x ≠ g8 ∧ x ≠ g10) g8 a ∧ DV wr (fun x => x ≠ g8 ∧ x ≠ g10) g10 b ∧ Below B w wr

/-- In the middle of a round: what both flushes, or both writes, have made, in variables of their own; the law's two disks as they were. -/
def Mid (w : World) (g8 g10 g14 g16 : Nat) (N M : Disk) (ca cb : Array Value) (wx : World) : Prop :=
  DV wx (fun b => b ≠ g8 ∧ b ≠ g10 ∧ b ≠ g14 ∧ b ≠ g16) g14 N ∧ DV wx (fun b => b ≠ g8 ∧ b ≠ g10 ∧ b ≠ g14 ∧ b ≠ g16) g16 M ∧ wx.heap[g8]? = some (.cells ca 25 (0, 0)) ∧ wx.heap[g10]? = some (.cells cb 25 (0, 0)) ∧ Below w.heap.size w wx

set_option maxRecDepth 10000 in
set_option maxHeartbeats 8000000 in
theorem diskFuse_any (n fuse : Int) (va : Value) (ats : List UInt8) (w : World) (h : Bs w (fun _ => True) va ats) :
    Calls Try.prog 7 #[.int .i64 n, .int .i64 fuse, va] w (True_ w) := by
  have HA := Lib.hid h
  obtain ⟨A, c, rfl, hc1, hc2, _⟩ := h
  unfold maxLen at hc2
  have HLIVE := Lib.hid (live_any w)
  by_cases hin : 1 ≤ n ∧ n ≤ 12 ∧ 0 ≤ fuse ∧ fuse ≤ 200 ∧ ats.length ≤ 60
  · obtain ⟨n1, n2, f1, f2, l1⟩ := hin
    obtain ⟨m, rfl⟩ : ∃ m : Nat, n = (m : Int) := ⟨n.toNat, by omega⟩
    obtain ⟨d0, hnew, hal⟩ := new_alive (n := m) (by omega) (by omega)
    have HN := Lib.hid (fun W => new_any (m : Int) W)
    rw [hnew] at HN
    have hlit := lit_twin hal f1 f2
    have HAL := Lib.hid hal
    have HLIT := Lib.hid hlit
    have t1 : decide (60 < (ats.length : Int)) = false := by simp; omega
    clear hnew hal hlit
    generalize hL : ats.length = L at *
    have HL := Lib.hid hL
    clear hL
    go_enter Try.func7, Try.ntmps7
    go_wp2_with fail
    refine HLIVE.out.mono ?_
    rintro e w1 ⟨rfl, hb1⟩
    have HB1 := Lib.hid hb1
    clear hb1
    go_wp2_with fail
    refine (HN.out _).mono ?_
    intro e w2 hg
    obtain ⟨A2, c2, A2', c2', rfl, ho2, hb2⟩ := gives_disk hg
    dsimp only at ho2 ⊢
    have HV2 := Lib.hid (DV.new ho2)
    have HB2 := Lib.hid (HB1.out.trans (hb2.mono HB1.out.size))
    have hr2 : DiskR (w2.alloc (.cells #[.slice A2 d0.dry.length c2, .slice A2' d0.wet.length c2', .int .i64 d0.fuse, .bool d0.dead] 25)) (fun _ => True) (.agg #[.slice A2 d0.dry.length c2, .slice A2' d0.wet.length c2', .int .i64 d0.fuse, .bool d0.dead]) d0 :=
      (ho2.reads fun _ => trivial).below (below_new w2 _)
    have HLI := Lib.hid (lit_any _ d0 fuse _ hr2)
    rw [HLIT.out] at HLI
    clear hg ho2 hb2 hr2
    go_wp2_with fail
    refine HLI.out.mono ?_
    intro e w3 hg
    obtain ⟨A3, c3, A3', c3', rfl, ho3, hb3⟩ := gives_disk hg
    dsimp only at ho3 ⊢
    have HV3 := Lib.hid (DV.new ho3)
    have HB3 := Lib.hid hb3
    clear hg ho3 hb3
    go_wp2_with fail
    have hz2 := HB2.out.size
    have hz3 := HB3.out.size
    have h23 : w2.heap.size < w3.heap.size := by simp at hz3; omega
    have hb0 := HB3.out.alloc HB3.out.size (.cells #[.slice A3 (twin fuse d0).dry.length c3, .slice A3' (twin fuse d0).wet.length c3', .int .i64 (twin fuse d0).fuse, .bool (twin fuse d0).dead] 25)
    have hfa : FuseAt w.heap.size w w2.heap.size w3.heap.size m fuse 0 (w3.alloc (.cells #[.slice A3 (twin fuse d0).dry.length c3, .slice A3' (twin fuse d0).wet.length c3', .int .i64 (twin fuse d0).fuse, .bool (twin fuse d0).dead] 25)) :=
      ⟨d0, _, HAL.out, .inl ⟨by omega, by rw [show fuse - ((0 : Nat) : Int) = fuse from by omega]⟩, (HV2.out.below hb0).more (fun b _ hS => by omega), HV3.out.more (fun b _ hS => by simp at hS; omega), (HB2.out.alloc hz2 _).trans (hb0.mono (by simp; omega))⟩
    have HFA := Lib.hid hfa
    have hg8 : w.heap.size ≤ w2.heap.size := hz2
    clear hb0 hfa hz3 HV2 HV3 HLI HLIT HAL HN HB1 HB2 HB3
    generalize twin fuse d0 = b0 at *
    generalize hg8' : w2.heap.size = g8 at *
    generalize hg10' : w3.heap.size = g10 at *
    have HG8 := Lib.hid hg8'
    have HG10 := Lib.hid hg10'
    clear hg8' hg10' hz2
    go_loopw [62] (fun i wr => ∃ k : Nat, k ≤ L ∧ i = .int .i64 (k : Int) ∧ FuseAt w.heap.size w g8 g10 m fuse k wr) (fun i _ => L - (intOf i).toNat)
    case atStart => exact ⟨0, by omega, rfl, HFA.out⟩
    case round =>
      obtain ⟨k, hk, rfl, hfa⟩ := hrel
      by_cases hlt : k < L
      · obtain ⟨x, hx⟩ : ∃ x, ats[k]? = some x := ⟨_, List.getElem?_eq_getElem (by rw [HL.out]; exact hlt)⟩
        obtain ⟨a, b, hal, hbb, hva, hvb, hbl⟩ := hfa
        obtain ⟨F, G, X, Y, gh, q1, q2, q3, q4, q5, q6, hcase⟩ := fuse_step (n := m) (by omega) (by omega) hal f2 hbb x
        have HQ1 := Lib.hid q1
        have HQ2 := Lib.hid q2
        have HQ3 := Lib.hid q3
        have HQ4 := Lib.hid q4
        have HQ5 := Lib.hid q5
        have HQ6 := Lib.hid q6
        have HCASE := Lib.hid hcase
        have HBB := Lib.hid hbb
        have HVA := Lib.hid hva
        have HVB := Lib.hid hvb
        have HBL := Lib.hid hbl
        obtain ⟨ad, rfl⟩ : ∃ ad, A = some ad := by
          obtain ⟨A1, c1, e, _, _, _, hc⟩ := HA.out
          injection e with e1
          subst e1
          obtain ⟨ad, e, _⟩ := hc (by rw [octets_length, HL.out]; omega)
          exact ⟨ad, e⟩
        have cx : wr.cell? (ad.add k) = some (.int .u8 (x.toNat : Int)) := by
          obtain ⟨A1, c1, e, _, _, _, hc⟩ := HA.out
          injection e with e1
          subst e1
          obtain ⟨ad', e, _, hcell⟩ := hc (by rw [octets_length, HL.out]; omega)
          injection e with e
          subst e
          have h1 := hcell k _ (octets_at hx)
          exact (HBL.out.cell (World.block_lt_of_cell? w _ h1)).trans h1
        have hxl := x.toNat_lt
        clear q1 q2 q3 q4 q5 q6 hcase hal hbb hbl hx
        have l8 := hva.lt
        have l10 := hvb.lt
        obtain ⟨Aa, ca, Aa', ca', hha, hra⟩ := hva
        obtain ⟨Ab, cb, Ab', cb', hhb, hrb⟩ := hvb
        have HHA := Lib.hid hha
        have HHB := Lib.hid hhb
        have HRA := Lib.hid hra
        have HRB := Lib.hid hrb
        have i8 : ∀ i, wr.cell? ⟨g8, i, none⟩ = #[Value.slice Aa a.dry.length ca, Value.slice Aa' a.wet.length ca', .int .i64 a.fuse, .bool a.dead][i]? := fun i => cell_of_row wr _ i _ _ _ hha
        have hwr : w.heap.size ≤ wr.heap.size := HBL.out.size
        clear hha hhb hra hrb
        have hcs : (((k : Int) < fuse ∧ gh = 0) ∨ ((k : Int) = fuse ∧ gh = 11) ∨ (fuse < (k : Int) ∧ gh = 11)) := by
          rcases HCASE.out with h | h | h
          · exact .inl ⟨h.1, h.2.1⟩
          · exact .inr (.inl ⟨h.1, h.2.1⟩)
          · exact .inr (.inr ⟨h.1, h.2.1⟩)
        rcases hcs with ⟨hkf, rfl⟩ | ⟨hkf, rfl⟩ | ⟨hkf, rfl⟩
        · have HGY := Lib.hid (show G = twin (fuse - ((k + 1 : Nat) : Int)) F ∧ Y = twin (fuse - ((k + 1 : Nat) : Int)) X by
            rcases HCASE.out with h | h | h
            · exact h.2.2
            · omega
            · omega)
          go_wp2_with fail
          refine (flush_any _ a wr HRA.out.any).mono ?_
          rw [HQ1.out]
          intro e w4 hg
          obtain ⟨A4, c4, A4', c4', rfl, ho4, hb4⟩ := gives_disk hg
          dsimp only at ho4 ⊢
          have HV4 := Lib.hid (DV.new ho4)
          have HO4 := Lib.hid ho4
          have HB4 := Lib.hid hb4
          have hs4 := hb4.size
          have l10b : g10 < w4.heap.size := by omega
          have l8b : g8 < w4.heap.size := by omega
          have hh4 := below_past HHB.out hb4
          have i10 : ∀ i, w4.cell? ⟨g10, i, none⟩ = #[Value.slice Ab b.dry.length cb, Value.slice Ab' b.wet.length cb', .int .i64 b.fuse, .bool b.dead][i]? := fun i => cell_of_row w4 _ i _ _ _ hh4
          clear hg ho4 hb4 hh4 i8
          go_wp2_with fail
          obtain ⟨W4, hW4⟩ : ∃ W4, W4 = w4.alloc (Obj.cells #[Value.slice A4 F.dry.length c4, Value.slice A4' F.wet.length c4', .int .i64 F.fuse, .bool F.dead] 25) := ⟨_, rfl⟩
          have hz4 : W4.heap.size = w4.heap.size + 1 := by rw [hW4]; simp
          have hb44 : Below wr.heap.size wr W4 := by rw [hW4]; exact HB4.out.alloc hs4 _
          rw [← hW4] at HV4 ⊢
          have HB44 := Lib.hid hb44
          clear hW4 hb44 i10
          refine (flush_any _ b W4 (HRB.out.any.below HB44.out)).mono ?_
          rw [HQ2.out]
          intro e w5 hg
          obtain ⟨A5, c5, A5', c5', rfl, ho5, hb5⟩ := gives_disk hg
          dsimp only at ho5 ⊢
          have HV5 := Lib.hid (DV.new ho5)
          have HO5 := Lib.hid ho5
          have HB5 := Lib.hid hb5
          have hs5 := hb5.size
          have l10c : g10 < w5.heap.size := by omega
          have l8c : g8 < w5.heap.size := by omega
          have l4c : w4.heap.size < w5.heap.size := by omega
          have hv4 := HV4.out.below hb5
          obtain ⟨Aq, cq, Aq', cq', hhq, hrq⟩ := hv4
          have j4 : ∀ i, w5.cell? ⟨w4.heap.size, i, none⟩ = #[Value.slice Aq F.dry.length cq, Value.slice Aq' F.wet.length cq', .int .i64 F.fuse, .bool F.dead][i]? := fun i => cell_of_row w5 _ i _ _ _ hhq
          have HHQ := Lib.hid hhq
          have HRQ := Lib.hid hrq
          clear hg ho5 hb5 hhq hrq
          go_upto_if 78 with fail
          obtain ⟨W5, hW5⟩ : ∃ W5, W5 = w5.alloc (Obj.cells #[Value.slice A5 G.dry.length c5, Value.slice A5' G.wet.length c5', .int .i64 G.fuse, .bool G.dead] 25) := ⟨_, rfl⟩
          rw [← hW5]
          have hz5 : W5.heap.size = w5.heap.size + 1 := by rw [hW5]; simp
          have hb45 : Below W4.heap.size W4 W5 := by rw [hW5]; exact HB5.out.alloc hs5 _
          have hr5 : Below wr.heap.size wr W5 := HB44.out.trans (hb45.mono (by omega))
          have hm16 : DV W5 (fun b => b ≠ g8 ∧ b ≠ g10 ∧ b ≠ w4.heap.size ∧ b ≠ w5.heap.size) w5.heap.size G := by
            rw [hW5]; exact HV5.out.more fun b _ hS => by omega
          have hm14 : DV W5 (fun b => b ≠ g8 ∧ b ≠ g10 ∧ b ≠ w4.heap.size ∧ b ≠ w5.heap.size) w4.heap.size F :=
            (HV4.out.more fun b hb hS => by omega).below hb45
          have hm8 : W5.heap[g8]? = some (.cells #[Value.slice Aa a.dry.length ca, Value.slice Aa' a.wet.length ca', .int .i64 a.fuse, .bool a.dead] 25 (0, 0)) := below_past HHA.out hr5
          have hm10 : W5.heap[g10]? = some (.cells #[Value.slice Ab b.dry.length cb, Value.slice Ab' b.wet.length cb', .int .i64 b.fuse, .bool b.dead] 25 (0, 0)) := below_past HHB.out hr5
          have hmid : Mid wr g8 g10 w4.heap.size w5.heap.size F G #[Value.slice Aa a.dry.length ca, Value.slice Aa' a.wet.length ca', .int .i64 a.fuse, .bool a.dead] #[Value.slice Ab b.dry.length cb, Value.slice Ab' b.wet.length cb', .int .i64 b.fuse, .bool b.dead] W5 := ⟨hm14, hm16, hm8, hm10, hr5⟩
          have HMID := Lib.hid hmid
          have HR5 := Lib.hid hr5
          have p1 : g10 < w4.heap.size := l10b
          have p2 : w4.heap.size < w5.heap.size := l4c
          generalize w4.heap.size = g14 at *
          generalize w5.heap.size = g16 at *
          clear hW5 hb45 hr5 hm16 hm14 hm8 hm10 hmid j4 HV4 HV5 HB4 HB5 HB44 HHQ HRQ
          go_cut [15, 17] (fun s s' wx => ∃ N M, ((N = F ∧ M = G) ∨ (N = X ∧ M = Y)) ∧ s = .int .i64 0 ∧ s' = .int .i64 0 ∧ Mid wr g8 g10 g14 g16 N M #[Value.slice Aa a.dry.length ca, Value.slice Aa' a.wet.length ca', .int .i64 a.fuse, .bool a.dead] #[Value.slice Ab b.dry.length cb, Value.slice Ab' b.wet.length cb', .int .i64 b.fuse, .bool b.dead] wx)
          case first =>
            by_cases hx2 : (x.toNat : Int) < 200
            · have hmod : ((x.toNat : Int)).tmod (m : Int) = (x.toNat : Int) % (m : Int) := Int.tmod_eq_emod_of_nonneg (by omega)
              have hm0 : ¬ m = 0 := by omega
              have hwx : IntKind.i64.wrap (x.toNat : Int) = (x.toNat : Int) := IntWalk.i64_in _ (by omega)
              have HW1 := Lib.hid (fun v vb W => write_any v vb a ((x.toNat : Int) % (m : Int)) (sect x) W)
              rw [HQ3.out] at HW1
              have HW2 := Lib.hid (fun v vb W => write_any v vb b ((x.toNat : Int) % (m : Int)) (sect x) W)
              rw [HQ4.out] at HW2
              have hw14 : wr.heap.size ≤ g14 := hs4
              go_upto_region 16 with fail
              go_cut [15] (fun s wx => s = .int .i64 0 ∧ Mid wr g8 g10 g14 g16 X G #[Value.slice Aa a.dry.length ca, Value.slice Aa' a.wet.length ca', .int .i64 a.fuse, .bool a.dead] #[Value.slice Ab b.dry.length cb, Value.slice Ab' b.wet.length cb', .int .i64 b.fuse, .bool b.dead] wx)
              case first =>
                have HM0 := HMID
                generalize W5 = WI at *
                obtain ⟨hm14, hm16, hm8, hm10, hmb⟩ := HM0.out
                have lw : wr.heap.size ≤ WI.heap.size := hmb.size
                have l14 : g14 < WI.heap.size := hm14.lt
                have l16 : g16 < WI.heap.size := hm16.lt
                have lg8 : g8 < WI.heap.size := by omega
                have lg10 : g10 < WI.heap.size := by omega
                have c0 : ∀ i, WI.cell? ⟨g8, i, none⟩ = #[Value.slice Aa a.dry.length ca, Value.slice Aa' a.wet.length ca', .int .i64 a.fuse, .bool a.dead][i]? := fun i => cell_of_row WI _ i _ _ _ hm8
                have HM14 := Lib.hid hm14
                have HM16 := Lib.hid hm16
                have HM8 := Lib.hid hm8
                have HM10 := Lib.hid hm10
                have HMB := Lib.hid hmb
                have HRD := Lib.hid ((HRA.out.below hmb).any)
                clear hm14 hm16 hm8 hm10 hmb
                go_region_law (first
                  | (go_simp
                     go_at_call 36
                     refine (sector_any x _).mono ?_
                     rintro e w6 ⟨v6, rfl, hown, hbe⟩
                     obtain ⟨A6, c6, rfl⟩ := own_slice hown
                     have hbe2 : Below WI.heap.size WI w6 := ⟨hbe.os, hbe.tape, hbe.output, hbe.size, hbe.block⟩
                     have hh2 := (hbe2.block _ lg8).trans HM8.out
                     have d0 : ∀ i, w6.cell? ⟨g8, i, none⟩ = #[Value.slice Aa a.dry.length ca, Value.slice Aa' a.wet.length ca', .int .i64 a.fuse, .bool a.dead][i]? := fun i => cell_of_row w6 _ i _ _ _ hh2
                     have HBS : Hid (Bs w6 (fun _ => True) _ (sect x)) := Bs.of_own hown (fun _ _ => trivial)
                     have HBE := Lib.hid hbe2
                     have hs6 := hbe2.size
                     clear hown hbe hbe2 hh2)
                  | (go_simp
                     go_at_call 21
                     refine (HW1.out _ _ _ ?_ ?_).mono ?_
                     exact HRD.out.below HBE.out
                     exact HBS.out
                     rintro e w7 hgs
                     obtain ⟨x0, x1, x2, x3, rfl, ho, hb, ⟨A3, n3, c3, rfl⟩, ⟨A4, n4, c4, rfl⟩, rfl, rfl⟩ := gives_step hgs
                     dsimp only at ho ⊢
                     have hwi : Below WI.heap.size WI w7 := HBE.out.trans (hb.mono hs6)
                     have hs7 := hb.size
                     obtain ⟨Ao, co, Ao', co', hho, _⟩ := (HM14.out.below hwi)
                     have f0 : ∀ i, w7.cell? ⟨g14, i, none⟩ = #[Value.slice Ao F.dry.length co, Value.slice Ao' F.wet.length co', .int .i64 F.fuse, .bool F.dead][i]? := fun i => cell_of_row w7 _ i _ _ _ hho
                     have f1 : ∀ i, w7.frozen? ⟨g14, i, none⟩ = false := fun i => by simp [World.frozen?, hho]
                     have hr : DiskR w7 (fun b => b ≠ g8 ∧ b ≠ g10 ∧ b ≠ g14 ∧ b ≠ g16) _ X := ho.readsFrom.more fun b _ hS => by omega
                     have hst : Mid wr g8 g10 g14 g16 X G #[Value.slice Aa a.dry.length ca, Value.slice Aa' a.wet.length ca', .int .i64 a.fuse, .bool a.dead] #[Value.slice Ab b.dry.length cb, Value.slice Ab' b.wet.length cb', .int .i64 b.fuse, .bool b.dead] (resCells w7 g14 (.slice A3 n3 c3) (.slice A4 n4 c4) (.int .i64 X.fuse) (.bool X.dead)) :=
                       ⟨DV.store_any hho rfl hr (fun b hS => hS.2.2.1), (HM16.out.below hwi).far (by omega) (fun b hS => hS.2.2.1) _ _ _ _, (res_far (by omega) _ _ _ _).trans ((hwi.block _ lg8).trans HM8.out), (res_far (by omega) _ _ _ _).trans ((hwi.block _ lg10).trans HM10.out), below_res (HMB.out.trans (hwi.mono lw)) (by omega) _ _ _ _⟩
                     simp only [resCells] at hst
                     have HST := Lib.hid hst
                     clear hgs ho hb hho hr hst hwi))
                all_goals
                  go_wp2_with fail
                  go_meet
                  exact ⟨rfl, HST.out⟩
              case rest =>
                obtain ⟨rfl, hmid2⟩ := hcut
                have HM0 := Lib.hid hmid2
                clear hmid2
                generalize wc = WI at *
                go_upto_region 17 with fail
                go_cut [17] (fun s wx => s = .int .i64 0 ∧ Mid wr g8 g10 g14 g16 X Y #[Value.slice Aa a.dry.length ca, Value.slice Aa' a.wet.length ca', .int .i64 a.fuse, .bool a.dead] #[Value.slice Ab b.dry.length cb, Value.slice Ab' b.wet.length cb', .int .i64 b.fuse, .bool b.dead] wx)
                case first =>
                  obtain ⟨hm14, hm16, hm8, hm10, hmb⟩ := HM0.out
                  have lw : wr.heap.size ≤ WI.heap.size := hmb.size
                  have l14 : g14 < WI.heap.size := hm14.lt
                  have l16 : g16 < WI.heap.size := hm16.lt
                  have lg8 : g8 < WI.heap.size := by omega
                  have lg10 : g10 < WI.heap.size := by omega
                  have c0 : ∀ i, WI.cell? ⟨g10, i, none⟩ = #[Value.slice Ab b.dry.length cb, Value.slice Ab' b.wet.length cb', .int .i64 b.fuse, .bool b.dead][i]? := fun i => cell_of_row WI _ i _ _ _ hm10
                  have HM14 := Lib.hid hm14
                  have HM16 := Lib.hid hm16
                  have HM8 := Lib.hid hm8
                  have HM10 := Lib.hid hm10
                  have HMB := Lib.hid hmb
                  have HRD := Lib.hid ((HRB.out.below hmb).any)
                  clear hm14 hm16 hm8 hm10 hmb
                  go_region_law (first
                    | (go_simp
                       go_at_call 36
                       refine (sector_any x _).mono ?_
                       rintro e w6 ⟨v6, rfl, hown, hbe⟩
                       obtain ⟨A6, c6, rfl⟩ := own_slice hown
                       have hbe2 : Below WI.heap.size WI w6 := ⟨hbe.os, hbe.tape, hbe.output, hbe.size, hbe.block⟩
                       have hh2 := (hbe2.block _ lg10).trans HM10.out
                       have d0 : ∀ i, w6.cell? ⟨g10, i, none⟩ = #[Value.slice Ab b.dry.length cb, Value.slice Ab' b.wet.length cb', .int .i64 b.fuse, .bool b.dead][i]? := fun i => cell_of_row w6 _ i _ _ _ hh2
                       have HBS : Hid (Bs w6 (fun _ => True) _ (sect x)) := Bs.of_own hown (fun _ _ => trivial)
                       have HBE := Lib.hid hbe2
                       have hs6 := hbe2.size
                       clear hown hbe hbe2 hh2)
                    | (go_simp
                       go_at_call 21
                       refine (HW2.out _ _ _ ?_ ?_).mono ?_
                       exact HRD.out.below HBE.out
                       exact HBS.out
                       rintro e w7 hgs
                       obtain ⟨x0, x1, x2, x3, rfl, ho, hb, ⟨A3, n3, c3, rfl⟩, ⟨A4, n4, c4, rfl⟩, rfl, rfl⟩ := gives_step hgs
                       dsimp only at ho ⊢
                       have hwi : Below WI.heap.size WI w7 := HBE.out.trans (hb.mono hs6)
                       have hs7 := hb.size
                       obtain ⟨Ao, co, Ao', co', hho, _⟩ := (HM16.out.below hwi)
                       have f0 : ∀ i, w7.cell? ⟨g16, i, none⟩ = #[Value.slice Ao G.dry.length co, Value.slice Ao' G.wet.length co', .int .i64 G.fuse, .bool G.dead][i]? := fun i => cell_of_row w7 _ i _ _ _ hho
                       have f1 : ∀ i, w7.frozen? ⟨g16, i, none⟩ = false := fun i => by simp [World.frozen?, hho]
                       have hr : DiskR w7 (fun b => b ≠ g8 ∧ b ≠ g10 ∧ b ≠ g14 ∧ b ≠ g16) _ Y := ho.readsFrom.more fun b _ hS => by omega
                       have hst : Mid wr g8 g10 g14 g16 X Y #[Value.slice Aa a.dry.length ca, Value.slice Aa' a.wet.length ca', .int .i64 a.fuse, .bool a.dead] #[Value.slice Ab b.dry.length cb, Value.slice Ab' b.wet.length cb', .int .i64 b.fuse, .bool b.dead] (resCells w7 g16 (.slice A3 n3 c3) (.slice A4 n4 c4) (.int .i64 Y.fuse) (.bool Y.dead)) :=
                         ⟨(HM14.out.below hwi).far (by omega) (fun b hS => hS.2.2.2) _ _ _ _, DV.store_any hho rfl hr (fun b hS => hS.2.2.2), (res_far (by omega) _ _ _ _).trans ((hwi.block _ lg8).trans HM8.out), (res_far (by omega) _ _ _ _).trans ((hwi.block _ lg10).trans HM10.out), below_res (HMB.out.trans (hwi.mono lw)) (by omega) _ _ _ _⟩
                       simp only [resCells] at hst
                       have HST := Lib.hid hst
                       clear hgs ho hb hho hr hst hwi))
                  all_goals
                    go_wp2_with fail
                    go_meet
                    exact ⟨rfl, HST.out⟩
                case rest =>
                  obtain ⟨rfl, hmid2⟩ := hcut
                  have HM0 := Lib.hid hmid2
                  clear hmid2
                  go_wp2_with fail
                  go_meet
                  exact ⟨X, Y, .inr ⟨rfl, rfl⟩, rfl, rfl, HM0.out⟩
            · go_wp2_with fail
              go_meet
              exact ⟨F, G, .inl ⟨rfl, rfl⟩, rfl, rfl, HMID.out⟩
          case rest =>
            obtain ⟨N, M, hNM, rfl, rfl, hmid⟩ := hcut
            obtain ⟨hv14, hv16, h8, h10, hbl⟩ := hmid
            have hN : Alive m (k + 1) N ∧ M = twin (fuse - ((k + 1 : Nat) : Int)) N := by
              rcases hNM with ⟨rfl, rfl⟩ | ⟨rfl, rfl⟩
              · exact ⟨HQ5.out, HGY.out.1⟩
              · exact ⟨HQ6.out, HGY.out.2⟩
            have HN := Lib.hid hN
            have HDRY := Lib.hid (show decide (N.dry = M.dry) = true by rw [hN.2]; exact decide_eq_true rfl)
            have tw : ((N.wet.length : Int) != (M.wet.length : Int)) = false := by rw [hN.2]; simp [twin]
            clear hNM HQ1 HQ2 HQ3 HQ4
            obtain ⟨An, cn, An', cn', hhn, hrn⟩ := hv14
            obtain ⟨Am, cm, Am', cm', hhm, hrm⟩ := hv16
            have l14 : g14 < wc.heap.size := (Array.getElem?_eq_some_iff.1 hhn).1
            have k14 : ∀ i, wc.cell? ⟨g14, i, none⟩ = #[Value.slice An N.dry.length cn, Value.slice An' N.wet.length cn', .int .i64 N.fuse, .bool N.dead][i]? := fun i => cell_of_row wc _ i _ _ _ hhn
            have k16 : ∀ i, wc.cell? ⟨g16, i, none⟩ = #[Value.slice Am M.dry.length cm, Value.slice Am' M.wet.length cm', .int .i64 M.fuse, .bool M.dead][i]? := fun i => cell_of_row wc _ i _ _ _ hhm
            have k8 : ∀ i, wc.cell? ⟨g8, i, none⟩ = #[Value.slice Aa a.dry.length ca, Value.slice Aa' a.wet.length ca', .int .i64 a.fuse, .bool a.dead][i]? := fun i => cell_of_row wc _ i _ _ _ h8
            have k10 : ∀ i, wc.cell? ⟨g10, i, none⟩ = #[Value.slice Ab b.dry.length cb, Value.slice Ab' b.wet.length cb', .int .i64 b.fuse, .bool b.dead][i]? := fun i => cell_of_row wc _ i _ _ _ h10
            have u8 : ∀ i, wc.frozen? ⟨g8, i, none⟩ = false := fun i => by simp [World.frozen?, h8]
            have u10 : ∀ i, wc.frozen? ⟨g10, i, none⟩ = false := fun i => by simp [World.frozen?, h10]
            have HRN := Lib.hid (hrn.more (S' := fun b => b ≠ g8 ∧ b ≠ g10) fun b _ hS => ⟨hS.1, hS.2.1⟩)
            have HRM := Lib.hid (hrm.more (S' := fun b => b ≠ g8 ∧ b ≠ g10) fun b _ hS => ⟨hS.1, hS.2.1⟩)
            have HSB := Lib.hid (sameBytes_any _ _ N.dry M.dry wc hrn.octets.any hrm.octets.any)
            have H8 := Lib.hid h8
            have H10 := Lib.hid h10
            have HBF := Lib.hid (HBL.out.trans (hbl.mono hwr))
            have HBR := Lib.hid hbl
            have n1 : ¬ g8 = g10 := by omega
            have n2 : ¬ g10 = g14 := by omega
            have n3 : ¬ g8 = g14 := by omega
            clear hN hhn hrn hhm hrm h8 h10 hbl
            rw [HDRY.out] at HSB
            go_wp2_with fail
            refine HSB.out.mono ?_
            rintro e w9 ⟨rfl, rfl⟩
            go_wp2_with fail
            refine ⟨⟨k + 1, by omega, by go_num, N, M, HN.out.1, .inl ⟨by omega, HN.out.2⟩, ?_, ?_, ?_⟩, by simp [intOf]; omega⟩
            · exact DV.store_any (g := g8) ((res_far n1 _ _ _ _).trans H8.out) rfl (HRN.out.res (fun b hS => hS.2) _ _ _ _) (fun b hS => hS.1)
            · exact (DV.store_any (g := g10) H10.out rfl HRM.out (fun b hS => hS.2)).far (Ne.symm n1) (fun b hS => hS.1) _ _ _ _
            · exact below_res (below_res HBF.out (by omega) _ _ _ _) hg8 _ _ _ _
        · have HGY := Lib.hid (show (G.ok = true ∧ G.dead = true) ∧ (Y.ok = true ∧ Y.dead = true) by
            rcases HCASE.out with h | h | h
            · omega
            · exact h.2.2
            · omega)
          have tkf : ((k : Int) == fuse) = true := by simpa using hkf
          have hkf1 : (k : Int) ≤ fuse := by omega
          have hkf2 : fuse ≤ (k : Int) := by omega
          clear hkf
          go_wp2_with fail
          refine (flush_any _ a wr HRA.out.any).mono ?_
          rw [HQ1.out]
          intro e w4 hg
          obtain ⟨A4, c4, A4', c4', rfl, ho4, hb4⟩ := gives_disk hg
          dsimp only at ho4 ⊢
          have HV4 := Lib.hid (DV.new ho4)
          have HO4 := Lib.hid ho4
          have HB4 := Lib.hid hb4
          have hs4 := hb4.size
          have l10b : g10 < w4.heap.size := by omega
          have l8b : g8 < w4.heap.size := by omega
          have hh4 := below_past HHB.out hb4
          have i10 : ∀ i, w4.cell? ⟨g10, i, none⟩ = #[Value.slice Ab b.dry.length cb, Value.slice Ab' b.wet.length cb', .int .i64 b.fuse, .bool b.dead][i]? := fun i => cell_of_row w4 _ i _ _ _ hh4
          clear hg ho4 hb4 hh4 i8
          go_wp2_with fail
          obtain ⟨W4, hW4⟩ : ∃ W4, W4 = w4.alloc (Obj.cells #[Value.slice A4 F.dry.length c4, Value.slice A4' F.wet.length c4', .int .i64 F.fuse, .bool F.dead] 25) := ⟨_, rfl⟩
          have hz4 : W4.heap.size = w4.heap.size + 1 := by rw [hW4]; simp
          have hb44 : Below wr.heap.size wr W4 := by rw [hW4]; exact HB4.out.alloc hs4 _
          rw [← hW4] at HV4 ⊢
          have HB44 := Lib.hid hb44
          clear hW4 hb44 i10
          refine (flush_any _ b W4 (HRB.out.any.below HB44.out)).mono ?_
          rw [HQ2.out]
          intro e w5 hg
          obtain ⟨A5, c5, A5', c5', rfl, ho5, hb5⟩ := gives_disk hg
          dsimp only at ho5 ⊢
          have HV5 := Lib.hid (DV.new ho5)
          have HO5 := Lib.hid ho5
          have HB5 := Lib.hid hb5
          have hs5 := hb5.size
          have l10c : g10 < w5.heap.size := by omega
          have l8c : g8 < w5.heap.size := by omega
          have l4c : w4.heap.size < w5.heap.size := by omega
          have hv4 := HV4.out.below hb5
          obtain ⟨Aq, cq, Aq', cq', hhq, hrq⟩ := hv4
          have j4 : ∀ i, w5.cell? ⟨w4.heap.size, i, none⟩ = #[Value.slice Aq F.dry.length cq, Value.slice Aq' F.wet.length cq', .int .i64 F.fuse, .bool F.dead][i]? := fun i => cell_of_row w5 _ i _ _ _ hhq
          have HHQ := Lib.hid hhq
          have HRQ := Lib.hid hrq
          clear hg ho5 hb5 hhq hrq
          go_upto_if 78 with fail
          obtain ⟨W5, hW5⟩ : ∃ W5, W5 = w5.alloc (Obj.cells #[Value.slice A5 G.dry.length c5, Value.slice A5' G.wet.length c5', .int .i64 G.fuse, .bool G.dead] 25) := ⟨_, rfl⟩
          rw [← hW5]
          have hz5 : W5.heap.size = w5.heap.size + 1 := by rw [hW5]; simp
          have hb45 : Below W4.heap.size W4 W5 := by rw [hW5]; exact HB5.out.alloc hs5 _
          have hr5 : Below wr.heap.size wr W5 := HB44.out.trans (hb45.mono (by omega))
          have hm16 : DV W5 (fun b => b ≠ g8 ∧ b ≠ g10 ∧ b ≠ w4.heap.size ∧ b ≠ w5.heap.size) w5.heap.size G := by
            rw [hW5]; exact HV5.out.more fun b _ hS => by omega
          have hm14 : DV W5 (fun b => b ≠ g8 ∧ b ≠ g10 ∧ b ≠ w4.heap.size ∧ b ≠ w5.heap.size) w4.heap.size F :=
            (HV4.out.more fun b hb hS => by omega).below hb45
          have hm8 : W5.heap[g8]? = some (.cells #[Value.slice Aa a.dry.length ca, Value.slice Aa' a.wet.length ca', .int .i64 a.fuse, .bool a.dead] 25 (0, 0)) := below_past HHA.out hr5
          have hm10 : W5.heap[g10]? = some (.cells #[Value.slice Ab b.dry.length cb, Value.slice Ab' b.wet.length cb', .int .i64 b.fuse, .bool b.dead] 25 (0, 0)) := below_past HHB.out hr5
          have hmid : Mid wr g8 g10 w4.heap.size w5.heap.size F G #[Value.slice Aa a.dry.length ca, Value.slice Aa' a.wet.length ca', .int .i64 a.fuse, .bool a.dead] #[Value.slice Ab b.dry.length cb, Value.slice Ab' b.wet.length cb', .int .i64 b.fuse, .bool b.dead] W5 := ⟨hm14, hm16, hm8, hm10, hr5⟩
          have HMID := Lib.hid hmid
          have HR5 := Lib.hid hr5
          have p1 : g10 < w4.heap.size := l10b
          have p2 : w4.heap.size < w5.heap.size := l4c
          generalize w4.heap.size = g14 at *
          generalize w5.heap.size = g16 at *
          clear hW5 hb45 hr5 hm16 hm14 hm8 hm10 hmid j4 HV4 HV5 HB4 HB5 HB44 HHQ HRQ
          go_cut [15, 17] (fun s s' wx => ∃ N M, ((N = F ∧ M = G) ∨ (N = X ∧ M = Y)) ∧ s = .int .i64 0 ∧ s' = .int .i64 11 ∧ Mid wr g8 g10 g14 g16 N M #[Value.slice Aa a.dry.length ca, Value.slice Aa' a.wet.length ca', .int .i64 a.fuse, .bool a.dead] #[Value.slice Ab b.dry.length cb, Value.slice Ab' b.wet.length cb', .int .i64 b.fuse, .bool b.dead] wx)
          case first =>
            by_cases hx2 : (x.toNat : Int) < 200
            · have hmod : ((x.toNat : Int)).tmod (m : Int) = (x.toNat : Int) % (m : Int) := Int.tmod_eq_emod_of_nonneg (by omega)
              have hm0 : ¬ m = 0 := by omega
              have hwx : IntKind.i64.wrap (x.toNat : Int) = (x.toNat : Int) := IntWalk.i64_in _ (by omega)
              have HW1 := Lib.hid (fun v vb W => write_any v vb a ((x.toNat : Int) % (m : Int)) (sect x) W)
              rw [HQ3.out] at HW1
              have HW2 := Lib.hid (fun v vb W => write_any v vb b ((x.toNat : Int) % (m : Int)) (sect x) W)
              rw [HQ4.out] at HW2
              have hw14 : wr.heap.size ≤ g14 := hs4
              go_upto_region 16 with fail
              go_cut [15] (fun s wx => s = .int .i64 0 ∧ Mid wr g8 g10 g14 g16 X G #[Value.slice Aa a.dry.length ca, Value.slice Aa' a.wet.length ca', .int .i64 a.fuse, .bool a.dead] #[Value.slice Ab b.dry.length cb, Value.slice Ab' b.wet.length cb', .int .i64 b.fuse, .bool b.dead] wx)
              case first =>
                have HM0 := HMID
                generalize W5 = WI at *
                obtain ⟨hm14, hm16, hm8, hm10, hmb⟩ := HM0.out
                have lw : wr.heap.size ≤ WI.heap.size := hmb.size
                have l14 : g14 < WI.heap.size := hm14.lt
                have l16 : g16 < WI.heap.size := hm16.lt
                have lg8 : g8 < WI.heap.size := by omega
                have lg10 : g10 < WI.heap.size := by omega
                have c0 : ∀ i, WI.cell? ⟨g8, i, none⟩ = #[Value.slice Aa a.dry.length ca, Value.slice Aa' a.wet.length ca', .int .i64 a.fuse, .bool a.dead][i]? := fun i => cell_of_row WI _ i _ _ _ hm8
                have HM14 := Lib.hid hm14
                have HM16 := Lib.hid hm16
                have HM8 := Lib.hid hm8
                have HM10 := Lib.hid hm10
                have HMB := Lib.hid hmb
                have HRD := Lib.hid ((HRA.out.below hmb).any)
                clear hm14 hm16 hm8 hm10 hmb
                go_region_law (first
                  | (go_simp
                     go_at_call 36
                     refine (sector_any x _).mono ?_
                     rintro e w6 ⟨v6, rfl, hown, hbe⟩
                     obtain ⟨A6, c6, rfl⟩ := own_slice hown
                     have hbe2 : Below WI.heap.size WI w6 := ⟨hbe.os, hbe.tape, hbe.output, hbe.size, hbe.block⟩
                     have hh2 := (hbe2.block _ lg8).trans HM8.out
                     have d0 : ∀ i, w6.cell? ⟨g8, i, none⟩ = #[Value.slice Aa a.dry.length ca, Value.slice Aa' a.wet.length ca', .int .i64 a.fuse, .bool a.dead][i]? := fun i => cell_of_row w6 _ i _ _ _ hh2
                     have HBS : Hid (Bs w6 (fun _ => True) _ (sect x)) := Bs.of_own hown (fun _ _ => trivial)
                     have HBE := Lib.hid hbe2
                     have hs6 := hbe2.size
                     clear hown hbe hbe2 hh2)
                  | (go_simp
                     go_at_call 21
                     refine (HW1.out _ _ _ ?_ ?_).mono ?_
                     exact HRD.out.below HBE.out
                     exact HBS.out
                     rintro e w7 hgs
                     obtain ⟨x0, x1, x2, x3, rfl, ho, hb, ⟨A3, n3, c3, rfl⟩, ⟨A4, n4, c4, rfl⟩, rfl, rfl⟩ := gives_step hgs
                     dsimp only at ho ⊢
                     have hwi : Below WI.heap.size WI w7 := HBE.out.trans (hb.mono hs6)
                     have hs7 := hb.size
                     obtain ⟨Ao, co, Ao', co', hho, _⟩ := (HM14.out.below hwi)
                     have f0 : ∀ i, w7.cell? ⟨g14, i, none⟩ = #[Value.slice Ao F.dry.length co, Value.slice Ao' F.wet.length co', .int .i64 F.fuse, .bool F.dead][i]? := fun i => cell_of_row w7 _ i _ _ _ hho
                     have f1 : ∀ i, w7.frozen? ⟨g14, i, none⟩ = false := fun i => by simp [World.frozen?, hho]
                     have hr : DiskR w7 (fun b => b ≠ g8 ∧ b ≠ g10 ∧ b ≠ g14 ∧ b ≠ g16) _ X := ho.readsFrom.more fun b _ hS => by omega
                     have hst : Mid wr g8 g10 g14 g16 X G #[Value.slice Aa a.dry.length ca, Value.slice Aa' a.wet.length ca', .int .i64 a.fuse, .bool a.dead] #[Value.slice Ab b.dry.length cb, Value.slice Ab' b.wet.length cb', .int .i64 b.fuse, .bool b.dead] (resCells w7 g14 (.slice A3 n3 c3) (.slice A4 n4 c4) (.int .i64 X.fuse) (.bool X.dead)) :=
                       ⟨DV.store_any hho rfl hr (fun b hS => hS.2.2.1), (HM16.out.below hwi).far (by omega) (fun b hS => hS.2.2.1) _ _ _ _, (res_far (by omega) _ _ _ _).trans ((hwi.block _ lg8).trans HM8.out), (res_far (by omega) _ _ _ _).trans ((hwi.block _ lg10).trans HM10.out), below_res (HMB.out.trans (hwi.mono lw)) (by omega) _ _ _ _⟩
                     simp only [resCells] at hst
                     have HST := Lib.hid hst
                     clear hgs ho hb hho hr hst hwi))
                all_goals
                  go_wp2_with fail
                  go_meet
                  exact ⟨rfl, HST.out⟩
              case rest =>
                obtain ⟨rfl, hmid2⟩ := hcut
                have HM0 := Lib.hid hmid2
                clear hmid2
                generalize wc = WI at *
                go_upto_region 17 with fail
                go_cut [17] (fun s wx => s = .int .i64 11 ∧ Mid wr g8 g10 g14 g16 X Y #[Value.slice Aa a.dry.length ca, Value.slice Aa' a.wet.length ca', .int .i64 a.fuse, .bool a.dead] #[Value.slice Ab b.dry.length cb, Value.slice Ab' b.wet.length cb', .int .i64 b.fuse, .bool b.dead] wx)
                case first =>
                  obtain ⟨hm14, hm16, hm8, hm10, hmb⟩ := HM0.out
                  have lw : wr.heap.size ≤ WI.heap.size := hmb.size
                  have l14 : g14 < WI.heap.size := hm14.lt
                  have l16 : g16 < WI.heap.size := hm16.lt
                  have lg8 : g8 < WI.heap.size := by omega
                  have lg10 : g10 < WI.heap.size := by omega
                  have c0 : ∀ i, WI.cell? ⟨g10, i, none⟩ = #[Value.slice Ab b.dry.length cb, Value.slice Ab' b.wet.length cb', .int .i64 b.fuse, .bool b.dead][i]? := fun i => cell_of_row WI _ i _ _ _ hm10
                  have HM14 := Lib.hid hm14
                  have HM16 := Lib.hid hm16
                  have HM8 := Lib.hid hm8
                  have HM10 := Lib.hid hm10
                  have HMB := Lib.hid hmb
                  have HRD := Lib.hid ((HRB.out.below hmb).any)
                  clear hm14 hm16 hm8 hm10 hmb
                  go_region_law (first
                    | (go_simp
                       go_at_call 36
                       refine (sector_any x _).mono ?_
                       rintro e w6 ⟨v6, rfl, hown, hbe⟩
                       obtain ⟨A6, c6, rfl⟩ := own_slice hown
                       have hbe2 : Below WI.heap.size WI w6 := ⟨hbe.os, hbe.tape, hbe.output, hbe.size, hbe.block⟩
                       have hh2 := (hbe2.block _ lg10).trans HM10.out
                       have d0 : ∀ i, w6.cell? ⟨g10, i, none⟩ = #[Value.slice Ab b.dry.length cb, Value.slice Ab' b.wet.length cb', .int .i64 b.fuse, .bool b.dead][i]? := fun i => cell_of_row w6 _ i _ _ _ hh2
                       have HBS : Hid (Bs w6 (fun _ => True) _ (sect x)) := Bs.of_own hown (fun _ _ => trivial)
                       have HBE := Lib.hid hbe2
                       have hs6 := hbe2.size
                       clear hown hbe hbe2 hh2)
                    | (go_simp
                       go_at_call 21
                       refine (HW2.out _ _ _ ?_ ?_).mono ?_
                       exact HRD.out.below HBE.out
                       exact HBS.out
                       rintro e w7 hgs
                       obtain ⟨x0, x1, x2, x3, rfl, ho, hb, ⟨A3, n3, c3, rfl⟩, ⟨A4, n4, c4, rfl⟩, rfl, rfl⟩ := gives_step hgs
                       dsimp only at ho ⊢
                       have hwi : Below WI.heap.size WI w7 := HBE.out.trans (hb.mono hs6)
                       have hs7 := hb.size
                       obtain ⟨Ao, co, Ao', co', hho, _⟩ := (HM16.out.below hwi)
                       have f0 : ∀ i, w7.cell? ⟨g16, i, none⟩ = #[Value.slice Ao G.dry.length co, Value.slice Ao' G.wet.length co', .int .i64 G.fuse, .bool G.dead][i]? := fun i => cell_of_row w7 _ i _ _ _ hho
                       have f1 : ∀ i, w7.frozen? ⟨g16, i, none⟩ = false := fun i => by simp [World.frozen?, hho]
                       have hr : DiskR w7 (fun b => b ≠ g8 ∧ b ≠ g10 ∧ b ≠ g14 ∧ b ≠ g16) _ Y := ho.readsFrom.more fun b _ hS => by omega
                       have hst : Mid wr g8 g10 g14 g16 X Y #[Value.slice Aa a.dry.length ca, Value.slice Aa' a.wet.length ca', .int .i64 a.fuse, .bool a.dead] #[Value.slice Ab b.dry.length cb, Value.slice Ab' b.wet.length cb', .int .i64 b.fuse, .bool b.dead] (resCells w7 g16 (.slice A3 n3 c3) (.slice A4 n4 c4) (.int .i64 Y.fuse) (.bool Y.dead)) :=
                         ⟨(HM14.out.below hwi).far (by omega) (fun b hS => hS.2.2.2) _ _ _ _, DV.store_any hho rfl hr (fun b hS => hS.2.2.2), (res_far (by omega) _ _ _ _).trans ((hwi.block _ lg8).trans HM8.out), (res_far (by omega) _ _ _ _).trans ((hwi.block _ lg10).trans HM10.out), below_res (HMB.out.trans (hwi.mono lw)) (by omega) _ _ _ _⟩
                       simp only [resCells] at hst
                       have HST := Lib.hid hst
                       clear hgs ho hb hho hr hst hwi))
                  all_goals
                    go_wp2_with fail
                    go_meet
                    exact ⟨rfl, HST.out⟩
                case rest =>
                  obtain ⟨rfl, hmid2⟩ := hcut
                  have HM0 := Lib.hid hmid2
                  clear hmid2
                  go_wp2_with fail
                  go_meet
                  exact ⟨X, Y, .inr ⟨rfl, rfl⟩, rfl, rfl, HM0.out⟩
            · go_wp2_with fail
              go_meet
              exact ⟨F, G, .inl ⟨rfl, rfl⟩, rfl, rfl, HMID.out⟩
          case rest =>
            obtain ⟨N, M, hNM, rfl, rfl, hmid⟩ := hcut
            obtain ⟨hv14, hv16, h8, h10, hbl⟩ := hmid
            have hN : Alive m (k + 1) N ∧ M.ok = true ∧ M.dead = true := by
              rcases hNM with ⟨rfl, rfl⟩ | ⟨rfl, rfl⟩
              · exact ⟨HQ5.out, HGY.out.1⟩
              · exact ⟨HQ6.out, HGY.out.2⟩
            have HN := Lib.hid hN
            clear hNM HQ1 HQ2 HQ3 HQ4
            obtain ⟨An, cn, An', cn', hhn, hrn⟩ := hv14
            obtain ⟨Am, cm, Am', cm', hhm, hrm⟩ := hv16
            rw [hN.2.2] at hhm hrm
            have l14 : g14 < wc.heap.size := (Array.getElem?_eq_some_iff.1 hhn).1
            have k14 : ∀ i, wc.cell? ⟨g14, i, none⟩ = #[Value.slice An N.dry.length cn, Value.slice An' N.wet.length cn', .int .i64 N.fuse, .bool N.dead][i]? := fun i => cell_of_row wc _ i _ _ _ hhn
            have k16 : ∀ i, wc.cell? ⟨g16, i, none⟩ = #[Value.slice Am M.dry.length cm, Value.slice Am' M.wet.length cm', .int .i64 M.fuse, .bool true][i]? := fun i => cell_of_row wc _ i _ _ _ hhm
            have k8 : ∀ i, wc.cell? ⟨g8, i, none⟩ = #[Value.slice Aa a.dry.length ca, Value.slice Aa' a.wet.length ca', .int .i64 a.fuse, .bool a.dead][i]? := fun i => cell_of_row wc _ i _ _ _ h8
            have k10 : ∀ i, wc.cell? ⟨g10, i, none⟩ = #[Value.slice Ab b.dry.length cb, Value.slice Ab' b.wet.length cb', .int .i64 b.fuse, .bool b.dead][i]? := fun i => cell_of_row wc _ i _ _ _ h10
            have u8 : ∀ i, wc.frozen? ⟨g8, i, none⟩ = false := fun i => by simp [World.frozen?, h8]
            have u10 : ∀ i, wc.frozen? ⟨g10, i, none⟩ = false := fun i => by simp [World.frozen?, h10]
            have HRN := Lib.hid (hrn.more (S' := fun b => b ≠ g8 ∧ b ≠ g10) fun b _ hS => ⟨hS.1, hS.2.1⟩)
            have HRM := Lib.hid (hrm.more (S' := fun b => b ≠ g8 ∧ b ≠ g10) fun b _ hS => ⟨hS.1, hS.2.1⟩)
            have HSB := Lib.hid (sameBytes_any _ _ N.dry M.dry wc hrn.octets.any hrm.octets.any)
            have H8 := Lib.hid h8
            have H10 := Lib.hid h10
            have HBF := Lib.hid (HBL.out.trans (hbl.mono hwr))
            have HBR := Lib.hid hbl
            have n1 : ¬ g8 = g10 := by omega
            have n2 : ¬ g10 = g14 := by omega
            have n3 : ¬ g8 = g14 := by omega
            clear hN hhn hrn hhm hrm h8 h10 hbl
            go_wp2_with fail
            refine ⟨⟨k + 1, by omega, by go_num, N, M, HN.out.1, .inr ⟨by omega, HN.out.2⟩, ?_, ?_, ?_⟩, by simp [intOf]; omega⟩
            · exact DV.store_any (g := g8) ((res_far n1 _ _ _ _).trans H8.out) rfl (HRN.out.res (fun b hS => hS.2) _ _ _ _) (fun b hS => hS.1)
            · exact (DV.store_any (g := g10) H10.out rfl HRM.out (fun b hS => hS.2)).far (Ne.symm n1) (fun b hS => hS.1) _ _ _ _
            · exact below_res (below_res HBF.out (by omega) _ _ _ _) hg8 _ _ _ _
        · have HGY := Lib.hid (show G.dead = false ∧ Y.dead = false by
            rcases HCASE.out with h | h | h
            · omega
            · omega
            · exact h.2.2.2)
          have HBD := Lib.hid (show b.ok = true ∧ b.dead = true by
            rcases HCASE.out with h | h | h
            · omega
            · omega
            · exact h.2.2.1)
          have tkf : ((k : Int) == fuse) = false := by simp; omega
          go_wp2_with fail
          refine (flush_any _ a wr HRA.out.any).mono ?_
          rw [HQ1.out]
          intro e w4 hg
          obtain ⟨A4, c4, A4', c4', rfl, ho4, hb4⟩ := gives_disk hg
          dsimp only at ho4 ⊢
          have HV4 := Lib.hid (DV.new ho4)
          have HO4 := Lib.hid ho4
          have HB4 := Lib.hid hb4
          have hs4 := hb4.size
          have l10b : g10 < w4.heap.size := by omega
          have l8b : g8 < w4.heap.size := by omega
          have hh4 := below_past HHB.out hb4
          have i10 : ∀ i, w4.cell? ⟨g10, i, none⟩ = #[Value.slice Ab b.dry.length cb, Value.slice Ab' b.wet.length cb', .int .i64 b.fuse, .bool b.dead][i]? := fun i => cell_of_row w4 _ i _ _ _ hh4
          clear hg ho4 hb4 hh4 i8
          go_wp2_with fail
          obtain ⟨W4, hW4⟩ : ∃ W4, W4 = w4.alloc (Obj.cells #[Value.slice A4 F.dry.length c4, Value.slice A4' F.wet.length c4', .int .i64 F.fuse, .bool F.dead] 25) := ⟨_, rfl⟩
          have hz4 : W4.heap.size = w4.heap.size + 1 := by rw [hW4]; simp
          have hb44 : Below wr.heap.size wr W4 := by rw [hW4]; exact HB4.out.alloc hs4 _
          rw [← hW4] at HV4 ⊢
          have HB44 := Lib.hid hb44
          clear hW4 hb44 i10
          refine (flush_any _ b W4 (HRB.out.any.below HB44.out)).mono ?_
          rw [HQ2.out]
          intro e w5 hg
          obtain ⟨A5, c5, A5', c5', rfl, ho5, hb5⟩ := gives_disk hg
          dsimp only at ho5 ⊢
          have HV5 := Lib.hid (DV.new ho5)
          have HO5 := Lib.hid ho5
          have HB5 := Lib.hid hb5
          have hs5 := hb5.size
          have l10c : g10 < w5.heap.size := by omega
          have l8c : g8 < w5.heap.size := by omega
          have l4c : w4.heap.size < w5.heap.size := by omega
          have hv4 := HV4.out.below hb5
          obtain ⟨Aq, cq, Aq', cq', hhq, hrq⟩ := hv4
          have j4 : ∀ i, w5.cell? ⟨w4.heap.size, i, none⟩ = #[Value.slice Aq F.dry.length cq, Value.slice Aq' F.wet.length cq', .int .i64 F.fuse, .bool F.dead][i]? := fun i => cell_of_row w5 _ i _ _ _ hhq
          have HHQ := Lib.hid hhq
          have HRQ := Lib.hid hrq
          clear hg ho5 hb5 hhq hrq
          go_upto_if 78 with fail
          obtain ⟨W5, hW5⟩ : ∃ W5, W5 = w5.alloc (Obj.cells #[Value.slice A5 G.dry.length c5, Value.slice A5' G.wet.length c5', .int .i64 G.fuse, .bool G.dead] 25) := ⟨_, rfl⟩
          rw [← hW5]
          have hz5 : W5.heap.size = w5.heap.size + 1 := by rw [hW5]; simp
          have hb45 : Below W4.heap.size W4 W5 := by rw [hW5]; exact HB5.out.alloc hs5 _
          have hr5 : Below wr.heap.size wr W5 := HB44.out.trans (hb45.mono (by omega))
          have hm16 : DV W5 (fun b => b ≠ g8 ∧ b ≠ g10 ∧ b ≠ w4.heap.size ∧ b ≠ w5.heap.size) w5.heap.size G := by
            rw [hW5]; exact HV5.out.more fun b _ hS => by omega
          have hm14 : DV W5 (fun b => b ≠ g8 ∧ b ≠ g10 ∧ b ≠ w4.heap.size ∧ b ≠ w5.heap.size) w4.heap.size F :=
            (HV4.out.more fun b hb hS => by omega).below hb45
          have hm8 : W5.heap[g8]? = some (.cells #[Value.slice Aa a.dry.length ca, Value.slice Aa' a.wet.length ca', .int .i64 a.fuse, .bool a.dead] 25 (0, 0)) := below_past HHA.out hr5
          have hm10 : W5.heap[g10]? = some (.cells #[Value.slice Ab b.dry.length cb, Value.slice Ab' b.wet.length cb', .int .i64 b.fuse, .bool b.dead] 25 (0, 0)) := below_past HHB.out hr5
          have hmid : Mid wr g8 g10 w4.heap.size w5.heap.size F G #[Value.slice Aa a.dry.length ca, Value.slice Aa' a.wet.length ca', .int .i64 a.fuse, .bool a.dead] #[Value.slice Ab b.dry.length cb, Value.slice Ab' b.wet.length cb', .int .i64 b.fuse, .bool b.dead] W5 := ⟨hm14, hm16, hm8, hm10, hr5⟩
          have HMID := Lib.hid hmid
          have HR5 := Lib.hid hr5
          have p1 : g10 < w4.heap.size := l10b
          have p2 : w4.heap.size < w5.heap.size := l4c
          generalize w4.heap.size = g14 at *
          generalize w5.heap.size = g16 at *
          clear hW5 hb45 hr5 hm16 hm14 hm8 hm10 hmid j4 HV4 HV5 HB4 HB5 HB44 HHQ HRQ
          go_cut [15, 17] (fun s s' wx => ∃ N M, ((N = F ∧ M = G) ∨ (N = X ∧ M = Y)) ∧ s = .int .i64 0 ∧ s' = .int .i64 11 ∧ Mid wr g8 g10 g14 g16 N M #[Value.slice Aa a.dry.length ca, Value.slice Aa' a.wet.length ca', .int .i64 a.fuse, .bool a.dead] #[Value.slice Ab b.dry.length cb, Value.slice Ab' b.wet.length cb', .int .i64 b.fuse, .bool b.dead] wx)
          case first =>
            by_cases hx2 : (x.toNat : Int) < 200
            · have hmod : ((x.toNat : Int)).tmod (m : Int) = (x.toNat : Int) % (m : Int) := Int.tmod_eq_emod_of_nonneg (by omega)
              have hm0 : ¬ m = 0 := by omega
              have hwx : IntKind.i64.wrap (x.toNat : Int) = (x.toNat : Int) := IntWalk.i64_in _ (by omega)
              have HW1 := Lib.hid (fun v vb W => write_any v vb a ((x.toNat : Int) % (m : Int)) (sect x) W)
              rw [HQ3.out] at HW1
              have HW2 := Lib.hid (fun v vb W => write_any v vb b ((x.toNat : Int) % (m : Int)) (sect x) W)
              rw [HQ4.out] at HW2
              have hw14 : wr.heap.size ≤ g14 := hs4
              go_upto_region 16 with fail
              go_cut [15] (fun s wx => s = .int .i64 0 ∧ Mid wr g8 g10 g14 g16 X G #[Value.slice Aa a.dry.length ca, Value.slice Aa' a.wet.length ca', .int .i64 a.fuse, .bool a.dead] #[Value.slice Ab b.dry.length cb, Value.slice Ab' b.wet.length cb', .int .i64 b.fuse, .bool b.dead] wx)
              case first =>
                have HM0 := HMID
                generalize W5 = WI at *
                obtain ⟨hm14, hm16, hm8, hm10, hmb⟩ := HM0.out
                have lw : wr.heap.size ≤ WI.heap.size := hmb.size
                have l14 : g14 < WI.heap.size := hm14.lt
                have l16 : g16 < WI.heap.size := hm16.lt
                have lg8 : g8 < WI.heap.size := by omega
                have lg10 : g10 < WI.heap.size := by omega
                have c0 : ∀ i, WI.cell? ⟨g8, i, none⟩ = #[Value.slice Aa a.dry.length ca, Value.slice Aa' a.wet.length ca', .int .i64 a.fuse, .bool a.dead][i]? := fun i => cell_of_row WI _ i _ _ _ hm8
                have HM14 := Lib.hid hm14
                have HM16 := Lib.hid hm16
                have HM8 := Lib.hid hm8
                have HM10 := Lib.hid hm10
                have HMB := Lib.hid hmb
                have HRD := Lib.hid ((HRA.out.below hmb).any)
                clear hm14 hm16 hm8 hm10 hmb
                go_region_law (first
                  | (go_simp
                     go_at_call 36
                     refine (sector_any x _).mono ?_
                     rintro e w6 ⟨v6, rfl, hown, hbe⟩
                     obtain ⟨A6, c6, rfl⟩ := own_slice hown
                     have hbe2 : Below WI.heap.size WI w6 := ⟨hbe.os, hbe.tape, hbe.output, hbe.size, hbe.block⟩
                     have hh2 := (hbe2.block _ lg8).trans HM8.out
                     have d0 : ∀ i, w6.cell? ⟨g8, i, none⟩ = #[Value.slice Aa a.dry.length ca, Value.slice Aa' a.wet.length ca', .int .i64 a.fuse, .bool a.dead][i]? := fun i => cell_of_row w6 _ i _ _ _ hh2
                     have HBS : Hid (Bs w6 (fun _ => True) _ (sect x)) := Bs.of_own hown (fun _ _ => trivial)
                     have HBE := Lib.hid hbe2
                     have hs6 := hbe2.size
                     clear hown hbe hbe2 hh2)
                  | (go_simp
                     go_at_call 21
                     refine (HW1.out _ _ _ ?_ ?_).mono ?_
                     exact HRD.out.below HBE.out
                     exact HBS.out
                     rintro e w7 hgs
                     obtain ⟨x0, x1, x2, x3, rfl, ho, hb, ⟨A3, n3, c3, rfl⟩, ⟨A4, n4, c4, rfl⟩, rfl, rfl⟩ := gives_step hgs
                     dsimp only at ho ⊢
                     have hwi : Below WI.heap.size WI w7 := HBE.out.trans (hb.mono hs6)
                     have hs7 := hb.size
                     obtain ⟨Ao, co, Ao', co', hho, _⟩ := (HM14.out.below hwi)
                     have f0 : ∀ i, w7.cell? ⟨g14, i, none⟩ = #[Value.slice Ao F.dry.length co, Value.slice Ao' F.wet.length co', .int .i64 F.fuse, .bool F.dead][i]? := fun i => cell_of_row w7 _ i _ _ _ hho
                     have f1 : ∀ i, w7.frozen? ⟨g14, i, none⟩ = false := fun i => by simp [World.frozen?, hho]
                     have hr : DiskR w7 (fun b => b ≠ g8 ∧ b ≠ g10 ∧ b ≠ g14 ∧ b ≠ g16) _ X := ho.readsFrom.more fun b _ hS => by omega
                     have hst : Mid wr g8 g10 g14 g16 X G #[Value.slice Aa a.dry.length ca, Value.slice Aa' a.wet.length ca', .int .i64 a.fuse, .bool a.dead] #[Value.slice Ab b.dry.length cb, Value.slice Ab' b.wet.length cb', .int .i64 b.fuse, .bool b.dead] (resCells w7 g14 (.slice A3 n3 c3) (.slice A4 n4 c4) (.int .i64 X.fuse) (.bool X.dead)) :=
                       ⟨DV.store_any hho rfl hr (fun b hS => hS.2.2.1), (HM16.out.below hwi).far (by omega) (fun b hS => hS.2.2.1) _ _ _ _, (res_far (by omega) _ _ _ _).trans ((hwi.block _ lg8).trans HM8.out), (res_far (by omega) _ _ _ _).trans ((hwi.block _ lg10).trans HM10.out), below_res (HMB.out.trans (hwi.mono lw)) (by omega) _ _ _ _⟩
                     simp only [resCells] at hst
                     have HST := Lib.hid hst
                     clear hgs ho hb hho hr hst hwi))
                all_goals
                  go_wp2_with fail
                  go_meet
                  exact ⟨rfl, HST.out⟩
              case rest =>
                obtain ⟨rfl, hmid2⟩ := hcut
                have HM0 := Lib.hid hmid2
                clear hmid2
                generalize wc = WI at *
                go_upto_region 17 with fail
                go_cut [17] (fun s wx => s = .int .i64 11 ∧ Mid wr g8 g10 g14 g16 X Y #[Value.slice Aa a.dry.length ca, Value.slice Aa' a.wet.length ca', .int .i64 a.fuse, .bool a.dead] #[Value.slice Ab b.dry.length cb, Value.slice Ab' b.wet.length cb', .int .i64 b.fuse, .bool b.dead] wx)
                case first =>
                  obtain ⟨hm14, hm16, hm8, hm10, hmb⟩ := HM0.out
                  have lw : wr.heap.size ≤ WI.heap.size := hmb.size
                  have l14 : g14 < WI.heap.size := hm14.lt
                  have l16 : g16 < WI.heap.size := hm16.lt
                  have lg8 : g8 < WI.heap.size := by omega
                  have lg10 : g10 < WI.heap.size := by omega
                  have c0 : ∀ i, WI.cell? ⟨g10, i, none⟩ = #[Value.slice Ab b.dry.length cb, Value.slice Ab' b.wet.length cb', .int .i64 b.fuse, .bool b.dead][i]? := fun i => cell_of_row WI _ i _ _ _ hm10
                  have HM14 := Lib.hid hm14
                  have HM16 := Lib.hid hm16
                  have HM8 := Lib.hid hm8
                  have HM10 := Lib.hid hm10
                  have HMB := Lib.hid hmb
                  have HRD := Lib.hid ((HRB.out.below hmb).any)
                  clear hm14 hm16 hm8 hm10 hmb
                  go_region_law (first
                    | (go_simp
                       go_at_call 36
                       refine (sector_any x _).mono ?_
                       rintro e w6 ⟨v6, rfl, hown, hbe⟩
                       obtain ⟨A6, c6, rfl⟩ := own_slice hown
                       have hbe2 : Below WI.heap.size WI w6 := ⟨hbe.os, hbe.tape, hbe.output, hbe.size, hbe.block⟩
                       have hh2 := (hbe2.block _ lg10).trans HM10.out
                       have d0 : ∀ i, w6.cell? ⟨g10, i, none⟩ = #[Value.slice Ab b.dry.length cb, Value.slice Ab' b.wet.length cb', .int .i64 b.fuse, .bool b.dead][i]? := fun i => cell_of_row w6 _ i _ _ _ hh2
                       have HBS : Hid (Bs w6 (fun _ => True) _ (sect x)) := Bs.of_own hown (fun _ _ => trivial)
                       have HBE := Lib.hid hbe2
                       have hs6 := hbe2.size
                       clear hown hbe hbe2 hh2)
                    | (go_simp
                       go_at_call 21
                       refine (HW2.out _ _ _ ?_ ?_).mono ?_
                       exact HRD.out.below HBE.out
                       exact HBS.out
                       rintro e w7 hgs
                       obtain ⟨x0, x1, x2, x3, rfl, ho, hb, ⟨A3, n3, c3, rfl⟩, ⟨A4, n4, c4, rfl⟩, rfl, rfl⟩ := gives_step hgs
                       dsimp only at ho ⊢
                       have hwi : Below WI.heap.size WI w7 := HBE.out.trans (hb.mono hs6)
                       have hs7 := hb.size
                       obtain ⟨Ao, co, Ao', co', hho, _⟩ := (HM16.out.below hwi)
                       have f0 : ∀ i, w7.cell? ⟨g16, i, none⟩ = #[Value.slice Ao G.dry.length co, Value.slice Ao' G.wet.length co', .int .i64 G.fuse, .bool G.dead][i]? := fun i => cell_of_row w7 _ i _ _ _ hho
                       have f1 : ∀ i, w7.frozen? ⟨g16, i, none⟩ = false := fun i => by simp [World.frozen?, hho]
                       have hr : DiskR w7 (fun b => b ≠ g8 ∧ b ≠ g10 ∧ b ≠ g14 ∧ b ≠ g16) _ Y := ho.readsFrom.more fun b _ hS => by omega
                       have hst : Mid wr g8 g10 g14 g16 X Y #[Value.slice Aa a.dry.length ca, Value.slice Aa' a.wet.length ca', .int .i64 a.fuse, .bool a.dead] #[Value.slice Ab b.dry.length cb, Value.slice Ab' b.wet.length cb', .int .i64 b.fuse, .bool b.dead] (resCells w7 g16 (.slice A3 n3 c3) (.slice A4 n4 c4) (.int .i64 Y.fuse) (.bool Y.dead)) :=
                         ⟨(HM14.out.below hwi).far (by omega) (fun b hS => hS.2.2.2) _ _ _ _, DV.store_any hho rfl hr (fun b hS => hS.2.2.2), (res_far (by omega) _ _ _ _).trans ((hwi.block _ lg8).trans HM8.out), (res_far (by omega) _ _ _ _).trans ((hwi.block _ lg10).trans HM10.out), below_res (HMB.out.trans (hwi.mono lw)) (by omega) _ _ _ _⟩
                       simp only [resCells] at hst
                       have HST := Lib.hid hst
                       clear hgs ho hb hho hr hst hwi))
                  all_goals
                    go_wp2_with fail
                    go_meet
                    exact ⟨rfl, HST.out⟩
                case rest =>
                  obtain ⟨rfl, hmid2⟩ := hcut
                  have HM0 := Lib.hid hmid2
                  clear hmid2
                  go_wp2_with fail
                  go_meet
                  exact ⟨X, Y, .inr ⟨rfl, rfl⟩, rfl, rfl, HM0.out⟩
            · go_wp2_with fail
              go_meet
              exact ⟨F, G, .inl ⟨rfl, rfl⟩, rfl, rfl, HMID.out⟩
          case rest =>
            obtain ⟨N, M, hNM, rfl, rfl, hmid⟩ := hcut
            obtain ⟨hv14, hv16, h8, h10, hbl⟩ := hmid
            have hN : Alive m (k + 1) N ∧ M.dead = false := by
              rcases hNM with ⟨rfl, rfl⟩ | ⟨rfl, rfl⟩
              · exact ⟨HQ5.out, HGY.out.1⟩
              · exact ⟨HQ6.out, HGY.out.2⟩
            have HN := Lib.hid hN
            clear hNM HQ1 HQ2 HQ3 HQ4
            obtain ⟨An, cn, An', cn', hhn, hrn⟩ := hv14
            obtain ⟨Am, cm, Am', cm', hhm, hrm⟩ := hv16
            rw [hN.2] at hhm hrm
            have l14 : g14 < wc.heap.size := (Array.getElem?_eq_some_iff.1 hhn).1
            have k14 : ∀ i, wc.cell? ⟨g14, i, none⟩ = #[Value.slice An N.dry.length cn, Value.slice An' N.wet.length cn', .int .i64 N.fuse, .bool N.dead][i]? := fun i => cell_of_row wc _ i _ _ _ hhn
            have k16 : ∀ i, wc.cell? ⟨g16, i, none⟩ = #[Value.slice Am M.dry.length cm, Value.slice Am' M.wet.length cm', .int .i64 M.fuse, .bool false][i]? := fun i => cell_of_row wc _ i _ _ _ hhm
            have k8 : ∀ i, wc.cell? ⟨g8, i, none⟩ = #[Value.slice Aa a.dry.length ca, Value.slice Aa' a.wet.length ca', .int .i64 a.fuse, .bool a.dead][i]? := fun i => cell_of_row wc _ i _ _ _ h8
            have k10 : ∀ i, wc.cell? ⟨g10, i, none⟩ = #[Value.slice Ab b.dry.length cb, Value.slice Ab' b.wet.length cb', .int .i64 b.fuse, .bool b.dead][i]? := fun i => cell_of_row wc _ i _ _ _ h10
            have u8 : ∀ i, wc.frozen? ⟨g8, i, none⟩ = false := fun i => by simp [World.frozen?, h8]
            have u10 : ∀ i, wc.frozen? ⟨g10, i, none⟩ = false := fun i => by simp [World.frozen?, h10]
            have HRN := Lib.hid (hrn.more (S' := fun b => b ≠ g8 ∧ b ≠ g10) fun b _ hS => ⟨hS.1, hS.2.1⟩)
            have HRM := Lib.hid (hrm.more (S' := fun b => b ≠ g8 ∧ b ≠ g10) fun b _ hS => ⟨hS.1, hS.2.1⟩)
            have HSB := Lib.hid (sameBytes_any _ _ N.dry M.dry wc hrn.octets.any hrm.octets.any)
            have H8 := Lib.hid h8
            have H10 := Lib.hid h10
            have HBF := Lib.hid (HBL.out.trans (hbl.mono hwr))
            have HBR := Lib.hid hbl
            have n1 : ¬ g8 = g10 := by omega
            have n2 : ¬ g10 = g14 := by omega
            have n3 : ¬ g8 = g14 := by omega
            clear hN hhn hrn hhm hrm h8 h10 hbl
            go_wp2_with fail
            refine ⟨⟨k + 1, by omega, by go_num, N, b, HN.out.1, .inr ⟨by omega, HBD.out⟩, ?_, ?_, ?_⟩, by simp [intOf]; omega⟩
            · exact DV.store_any (g := g8) H8.out rfl HRN.out (fun b hS => hS.1)
            · exact DV.far ⟨Ab, cb, Ab', cb', H10.out, HRB.out.below HBR.out⟩ (Ne.symm n1) (fun b hS => hS.1) _ _ _ _
            · exact below_res HBF.out hg8 _ _ _ _
      · obtain rfl : k = L := by omega
        obtain ⟨a, b, hal, hbb, hva, hvb, hbl⟩ := hfa
        have hbd : b.ok = true ∧ ((b.dead = false ∧ ¬ fuse < (k : Int)) ∨ (b.dead = true ∧ fuse < (k : Int))) := by
          rcases hbb with ⟨h1, rfl⟩ | ⟨h1, h2, h3⟩
          · exact ⟨twin_ok hal.1 (by omega) (by omega), .inl ⟨hal.2.1, by omega⟩⟩
          · exact ⟨h2, .inr ⟨h3, h1⟩⟩
        obtain ⟨hbo, hbd⟩ := hbd
        obtain ⟨C, hcr, _, _, hcf, hcd, _⟩ := crash_done hbo []
        have HCR := Lib.hid hcr
        have HCF := Lib.hid hcf
        have HCD := Lib.hid hcd
        have HBL := Lib.hid hbl
        have l10 := hvb.lt
        obtain ⟨Ab, cb, Ab', cb', hhb, hrb⟩ := hvb
        have HRB := Lib.hid hrb
        have HNIL := Lib.hid (show Bs wr (fun _ => True) (.slice none 0 0) [] from ⟨none, 0, rfl, by simp, by simp [maxLen], fun _ => rfl, fun hn => by simp [octets] at hn⟩)
        clear hal hbb hva hbo hcr hcf hcd hbl hrb
        have hbe : ∃ bd, b.dead = bd ∧ (bd == decide (fuse < (k : Int))) = true := by
          rcases hbd with ⟨h1, h2⟩ | ⟨h1, h2⟩
          · exact ⟨_, h1, by rw [decide_eq_false h2]; rfl⟩
          · exact ⟨_, h1, by rw [decide_eq_true h2]; rfl⟩
        obtain ⟨bd, hb1, hb2⟩ := hbe
        rw [hb1] at hhb HRB
        clear hbd
        have HHB := Lib.hid hhb
        have i10 : ∀ i, wr.cell? ⟨g10, i, none⟩ = #[Value.slice Ab b.dry.length cb, Value.slice Ab' b.wet.length cb', .int .i64 b.fuse, .bool bd][i]? := fun i => cell_of_row wr _ i _ _ _ hhb
        clear hb1 hhb
        go_wp2_with fail
        refine (crash_any _ _ b [] wr HRB.out.any HNIL.out).mono ?_
        rw [HCR.out]
        intro e w4 hg
        obtain ⟨A4, c4, A4', c4', rfl, _, hb4⟩ := gives_disk hg
        dsimp only
        rw [HCF.out, HCD.out]
        have hh4 := below_past HHB.out hb4
        have j10 : ∀ i, w4.cell? ⟨g10, i, none⟩ = #[Value.slice Ab b.dry.length cb, Value.slice Ab' b.wet.length cb', .int .i64 b.fuse, .bool bd][i]? := fun i => cell_of_row w4 _ i _ _ _ hh4
        have l10b : g10 < w4.heap.size := by have := hb4.size; omega
        have HBF := Lib.hid (HBL.out.trans (hb4.mono HBL.out.size))
        clear hg hb4 hh4 i10
        go_wp2_with fail
        go_ret
        first
          | exact ⟨rfl, HBF.out.alloc HBF.out.size _⟩
          | exact ⟨ret_bool hb2, HBF.out.alloc HBF.out.size _⟩
  · have key : n < 1 ∨ (1 ≤ n ∧ 12 < n) ∨ (1 ≤ n ∧ n ≤ 12 ∧ fuse < 0) ∨ (1 ≤ n ∧ n ≤ 12 ∧ 0 ≤ fuse ∧ 200 < fuse) ∨ (1 ≤ n ∧ n ≤ 12 ∧ 0 ≤ fuse ∧ fuse ≤ 200 ∧ decide (60 < (ats.length : Int)) = true) := by
      by_cases h1 : n < 1
      · exact .inl h1
      · by_cases h2 : 12 < n
        · exact .inr (.inl ⟨by omega, h2⟩)
        · by_cases h3 : fuse < 0
          · exact .inr (.inr (.inl ⟨by omega, by omega, h3⟩))
          · by_cases h4 : 200 < fuse
            · exact .inr (.inr (.inr (.inl ⟨by omega, by omega, by omega, h4⟩)))
            · refine .inr (.inr (.inr (.inr ⟨by omega, by omega, by omega, by omega, ?_⟩)))
              simp only [decide_eq_true_eq]
              omega
    clear hin
    generalize ats.length = L at *
    rcases key with h1 | ⟨h1, h2⟩ | ⟨h1, h2, h3⟩ | ⟨h1, h2, h3, h4⟩ | ⟨h1, h2, h3, h4, h5⟩
    all_goals
      go_enter Try.func7, Try.ntmps7
      go_wp2_with fail
      refine HLIVE.out.mono ?_
      rintro e w1 ⟨rfl, hb1⟩
      have HB1 := Lib.hid hb1
      clear hb1
      go_wp2_with fail
      go_ret
      exact ⟨rfl, HB1.out⟩

end Go.Proofs.Ytikobhckkbicaaa
