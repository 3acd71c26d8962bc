/- The law DiskCrash, walked. -/
import Derived.Test.YtdbioekmhlgolaaQ
namespace Go.Proofs.Ytdbioekmhlgolaa
open Go.RowKit Dk

theorem DiskR.octets {w : World} {S : Nat → Prop} {x0 x1 x2 x3 : Value} {d : Disk} (h : DiskR w S (.agg #[x0, x1, x2, x3]) d) : Bs w S x0 d.dry := by
  obtain ⟨vd, vw, he, hb, _⟩ := h
  injection he with he
  have e1 : x0 = vd := by injection he with he; injection he with he
  rw [e1]
  exact hb
theorem DiskOwn.octets {w : World} {base : Nat} {x0 x1 x2 x3 : Value} {d : Disk} (h : DiskOwn w base (.agg #[x0, x1, x2, x3]) d) : Bs w (fun _ => True) x0 d.dry := (h.reads fun _ => trivial).octets

theorem gives_disk {w : World} {r : Disk × Int} {e : Ending} {w' : World} (h : GivesDE w r e w') : ∃ A c A' c', e = .returned (.tuple #[.agg #[.slice A r.1.dry.length c, .slice A' r.1.wet.length c', .int .i64 r.1.fuse, .bool r.1.dead], .int .i64 r.2]) ∧
    DiskOwn w' w.heap.size (.agg #[.slice A r.1.dry.length c, .slice A' r.1.wet.length c', .int .i64 r.1.fuse, .bool r.1.dead]) r.1 ∧ Below w.heap.size w w' := by
  obtain ⟨v, he, ho, hb⟩ := h
  have hO := ho
  obtain ⟨vd, vw, xs, rfl, h1, h2, _⟩ := ho
  obtain ⟨A, c, rfl⟩ := own_slice h1
  obtain ⟨A', c', rfl⟩ := own_slice h2
  exact ⟨A, c, A', c', he, hO, hb⟩

set_option maxRecDepth 4000 in
set_option maxHeartbeats 8000000 in
theorem diskCrash_any (v vk : Value) (d : Disk) (keep : List UInt8) (w : World) (h : DiskR w (fun _ => True) v d) (hk : Bs w (fun _ => True) vk keep) :
    Calls Try.prog 6 #[v, vk] w (True_ w) := by
  have HD := Lib.hid h
  have HBS := Lib.hid hk
  obtain ⟨vd, vw, rfl, ⟨A, c, rfl, hdc, hdm, _⟩, A', c', xs, rfl, hwc, hwm, _⟩ := h
  obtain ⟨A0, c0, rfl, hkc, hkm, _⟩ := hk
  unfold maxLen at hdm hwm hkm
  obtain ⟨W0, hW0⟩ : ∃ W0, W0 = w.alloc (Obj.cells #[Value.slice A d.dry.length c, Value.slice A' d.wet.length c', .int .i64 d.fuse, .bool d.dead] 25) := ⟨_, rfl⟩
  have hb0 : Below w.heap.size w W0 := by rw [hW0]; exact below_new _ _
  have hz0 : W0.heap.size = w.heap.size + 1 := by rw [hW0]; simp
  have hbox : W0.heap[w.heap.size]? = some (.cells #[Value.slice A d.dry.length c, Value.slice A' d.wet.length c', .int .i64 d.fuse, .bool d.dead] 25 (0, 0)) := by rw [hW0]; exact heap_first _ _
  have HLIVE := Lib.hid (live_any W0)
  have HFEW := Lib.hid (fun W (hb : Below W0.heap.size W0 W) => few_any _ d W ((HD.out.below hb0).below hb))
  have HCK := Lib.hid (fun W (hb : Below W0.heap.size W0 W) => check_any _ d W ((HD.out.below hb0).below hb))
  have HBOX := Lib.hid (fun W (hb : Below W0.heap.size W0 W) => fun i => cell_of_row W w.heap.size i _ _ _ (below_past hbox hb))
  have HB0 := Lib.hid hb0
  clear hb0 hbox
  cases hf : few d
  · have HFF := Lib.hid hf
    rw [hf] at HFEW
    clear hf
    go_enter Try.func6, Try.ntmps6
    go_wp2_with fail
    rw [← hW0]
    clear hW0
    refine HLIVE.out.mono ?_
    rintro e w1 ⟨rfl, hb1⟩
    have b1 := HBOX.out w1 hb1
    have HB1 := Lib.hid hb1
    clear hb1
    go_wp2_with fail
    refine (HFEW.out w1 HB1.out).mono ?_
    rintro e w2 ⟨rfl, hb2⟩
    have HB2 := Lib.hid (HB0.out.trans ((HB1.out.trans (hb2.mono HB1.out.size)).mono (by omega)))
    clear hb2 b1
    go_wp2_with fail
    go_ret
    exact ⟨rfl, HB2.out⟩
  · rw [hf] at HFEW
    have HFF := Lib.hid hf
    clear hf
    by_cases hkl : (keep.length : Int) ≤ 1000
    · have t1 : decide (1000 < (keep.length : Int)) = false := by simp; omega
      cases hok : d.ok
      · have e0 : check d = 1 := by simp [check, hok]
        rw [e0] at HCK
        clear e0
        go_enter Try.func6, Try.ntmps6
        go_wp2_with fail
        rw [← hW0]
        clear hW0
        refine HLIVE.out.mono ?_
        rintro e w1 ⟨rfl, hb1⟩
        have b1 := HBOX.out w1 hb1
        have HB1 := Lib.hid hb1
        clear hb1
        go_wp2_with fail
        refine (HFEW.out w1 HB1.out).mono ?_
        rintro e w2 ⟨rfl, hb2⟩
        have hb2' := HB1.out.trans (hb2.mono HB1.out.size)
        have b2 := HBOX.out w2 hb2'
        have HB2 := Lib.hid hb2'
        clear hb2 hb2' b1
        go_wp2_with fail
        refine (HCK.out w2 HB2.out).mono ?_
        rintro e w3 ⟨rfl, hb3⟩
        have HB3 := Lib.hid (HB0.out.trans ((HB2.out.trans (hb3.mono HB2.out.size)).mono (by omega)))
        clear hb3 b2
        go_wp2_with fail
        go_ret
        exact ⟨rfl, HB3.out⟩
      · have e0 : check d = 0 := by simp [check, hok]
        rw [e0] at HCK
        have HOK := Lib.hid hok
        clear e0 hok
        go_enter Try.func6, Try.ntmps6
        go_wp2_with fail
        rw [← hW0]
        clear hW0
        refine HLIVE.out.mono ?_
        rintro e w1 ⟨rfl, hb1⟩
        have b1 := HBOX.out w1 hb1
        have HB1 := Lib.hid hb1
        clear hb1
        go_wp2_with fail
        refine (HFEW.out w1 HB1.out).mono ?_
        rintro e w2 ⟨rfl, hb2⟩
        have hb2' := HB1.out.trans (hb2.mono HB1.out.size)
        have b2 := HBOX.out w2 hb2'
        have HB2 := Lib.hid hb2'
        clear hb2 hb2' b1
        go_wp2_with fail
        refine (HCK.out w2 HB2.out).mono ?_
        rintro e w3 ⟨rfl, hb3⟩
        have hb3' := HB2.out.trans (hb3.mono HB2.out.size)
        have b3 := HBOX.out w3 hb3'
        have HB3 := Lib.hid hb3'
        clear hb3 hb3' b2
        have hfw : d.wet.length ≤ 600 := by
          have := HFF.out
          simp only [few, Bool.and_eq_true, decide_eq_true_eq] at this
          exact this.1.2
        have hz3 : W0.heap.size ≤ w3.heap.size := HB3.out.size
        obtain ⟨i0, hi0, hz0', hz1', hz2'⟩ := info_parts info8
        generalize hL : d.wet.length = L at *
        have HL := Lib.hid hL
        clear hL
        go_wp2_with fail
        go_loopw [6, 35] (fun u i wr => ∃ k : Nat, k ≤ L ∧ i = .int .i64 (k : Int) ∧ wr.ownsRow w3.heap.size 5 1 u k (octets (List.replicate k 32)) ∧ Below w3.heap.size w3 wr) (fun _ i _ => L - (intOf i).toNat)
        case atStart => exact ⟨0, by omega, rfl, World.ownsRow_nil _ _ _ _, Below.refl _ _⟩
        case round =>
          obtain ⟨k, hk, rfl, hown, hbe⟩ := hrel
          have HOWN := Lib.hid hown
          have HBE := Lib.hid hbe
          clear hown hbe
          by_cases hlt : k < L
          · go_wp2_with (at_builtin; refine wpList_append_cells _ rfl (.tmp 37) (.tmp 38) _ rfl w3.heap.size 5 i0 (.int .u8 0) 1 1 Try.underlying22 hi0 hz0' hz1' hz2' rfl (by decide) _ k _ rfl (HOWN.out.alloc _) (fun _ => True) _ 1 1 [.int .u8 32] rfl rfl (cells_new (cs := #[.int .u8 32]) (heap_alloc_new wr _) trivial) (by simp [Value.oneCell']) (by unfold maxLen; omega) (by omega) (by have := HBE.out.size; simp; omega) ?_)
            rintro v' w4 hown4 hgr4 -
            have hb4 : Below w3.heap.size w3 w4 := (HBE.out.alloc HBE.out.size _).grown hgr4 (by have := HBE.out.size; simp; omega) (fun j hj => (HOWN.out.lt j hj).1)
            have HO4 := Lib.hid hown4
            have HB4 := Lib.hid hb4
            clear hown4 hgr4 hb4
            go_wp2_with fail
            refine ⟨⟨k + 1, by omega, by go_num, by rw [List.replicate_succ']; simpa [octets] using HO4.out, HB4.out⟩, by simp [intOf]; omega⟩
          · obtain rfl : k = L := by omega
            have hown := HOWN.out
            obtain ⟨A6, c6, rfl⟩ := own_slice hown
            have HALL := Lib.hid (show Bs wr (fun _ => True) (.slice A6 k c6) (List.replicate k 32) from Bs.of_own hown fun _ _ => trivial)
            have hbw : Below W0.heap.size W0 wr := HB3.out.trans (HBE.out.mono hz3)
            have b4 := HBOX.out wr hbw
            have HBW := Lib.hid hbw
            obtain ⟨X, hX⟩ : ∃ X, X = ({ dryAll (fun _ => 32) d with fuse := -1, dead := false } : Disk) := ⟨_, rfl⟩
            obtain ⟨Y, hY⟩ : ∃ Y, Y = ({ d with wet := [], fuse := -1, dead := false } : Disk) := ⟨_, rfl⟩
            have hca : crash d (List.replicate k 32) = (X, 0) := by rw [hX, ← HL.out]; exact crash_all HOK.out
            have hcn : crash d [] = (Y, 0) := by rw [hY]; exact crash_nothing HOK.out
            have HX1 := Lib.hid (show X.dry = pour (fun _ => 32) 0 d.wet d.dry by rw [hX]; rfl)
            have tX : ((X.wet.length : Int) != 0) = false := by rw [hX]; rfl
            have HY1 := Lib.hid (show Y.dry = d.dry by rw [hY])
            have tY : ((Y.wet.length : Int) != 0) = false := by rw [hY]; rfl
            have HCA := Lib.hid (crash_any (.agg #[Value.slice A d.dry.length c, Value.slice A' k c', .int .i64 d.fuse, .bool d.dead]) (.slice A6 k c6) d (List.replicate k 32) wr ((HD.out.below HB0.out).below hbw) HALL.out)
            have HCN := Lib.hid (fun W (hb : Below W0.heap.size W0 W) => crash_any (.agg #[Value.slice A d.dry.length c, Value.slice A' k c', .int .i64 d.fuse, .bool d.dead]) (.slice none 0 0) d [] W ((HD.out.below HB0.out).below hb) ⟨none, 0, rfl, by simp, by simp [maxLen], fun _ => rfl, fun hn => by simp [octets] at hn⟩)
            rw [hca] at HCA
            rw [hcn] at HCN
            clear hX hY hca hcn hown hbw HALL b3
            go_wp2_with fail
            refine HCA.out.mono ?_
            rintro e w5 hg5
            obtain ⟨A5, c5, A5', c5', rfl, ho5, hb5⟩ := gives_disk hg5
            have hb5' := HBW.out.trans (hb5.mono HBW.out.size)
            have hb5a := hb5'.alloc hb5'.size (Obj.cells #[Value.slice A5 X.dry.length c5, Value.slice A5' X.wet.length c5', .int .i64 X.fuse, .bool X.dead] 25)
            have b5 := HBOX.out _ hb5'
            have hw5 : w.heap.size < w5.heap.size := by have := hb5'.size; omega
            dsimp only at ho5 hb5a ⊢
            have hx5 := heap_alloc_new w5 (Obj.cells #[Value.slice A5 X.dry.length c5, Value.slice A5' X.wet.length c5', .int .i64 X.fuse, .bool X.dead] 25)
            have HX5 := Lib.hid hx5
            have HS5 := Lib.hid (ho5.octets.below (below_new _ (Obj.cells #[Value.slice A5 X.dry.length c5, Value.slice A5' X.wet.length c5', .int .i64 X.fuse, .bool X.dead] 25)))
            have HB5 := Lib.hid hb5a
            clear hg5 ho5 hb5 hb5' hb5a b4 hx5
            go_wp2_with fail
            refine (HCN.out _ HB5.out).mono ?_
            rintro e w6 hg6
            obtain ⟨A7, c7, A7', c7', rfl, ho6, hb6⟩ := gives_disk hg6
            dsimp only at ho6 hb6 ⊢
            have hb6' := HB5.out.trans (hb6.mono HB5.out.size)
            have b6 := HBOX.out _ hb6'
            have hw6 : w.heap.size < w6.heap.size := by have := hb6'.size; omega
            have hw56 : w5.heap.size < w6.heap.size := by have := hb6.size; simp at this; omega
            have hb6a := hb6'.alloc hb6'.size (Obj.cells #[Value.slice A7 Y.dry.length c7, Value.slice A7' Y.wet.length c7', .int .i64 Y.fuse, .bool Y.dead] 25)
            have hx6 := (hb6.block w5.heap.size (by simp)).trans HX5.out
            have x6 : ∀ i, w6.cell? ⟨w5.heap.size, i, none⟩ = #[.slice A5 X.dry.length c5, .slice A5' X.wet.length c5', .int .i64 X.fuse, .bool X.dead][i]? := fun i => cell_of_row w6 _ i _ _ _ hx6
            have hn6 := below_new w6 (Obj.cells #[Value.slice A7 Y.dry.length c7, Value.slice A7' Y.wet.length c7', .int .i64 Y.fuse, .bool Y.dead] 25)
            have HSB := Lib.hid (sameBytes_any _ _ Y.dry d.dry _ (ho6.octets.below hn6) (((HD.out.octets).below HB0.out).below hb6a))
            have HS6 := Lib.hid ((HS5.out.below hb6).below hn6)
            have HX6 := Lib.hid ((Below.heap_alloc w6 (Obj.cells #[Value.slice A7 Y.dry.length c7, Value.slice A7' Y.wet.length c7', .int .i64 Y.fuse, .bool Y.dead] 25) _ hw56).trans hx6)
            have HB6 := Lib.hid hb6a
            rw [decide_eq_true HY1.out] at HSB
            clear hg6 ho6 hb6 hb6' hb6a hx6 hn6 b5
            go_wp2_with fail
            refine HSB.out.mono ?_
            rintro e w7 ⟨rfl, rfl⟩
            have HFL := Lib.hid (flush_any (.agg #[Value.slice A d.dry.length c, Value.slice A' k c', .int .i64 d.fuse, .bool d.dead]) d _ ((HD.out.below HB0.out).below HB6.out))
            rcases flush_cases HOK.out with ⟨z, hz, hzo, hzd, hzw, hdd⟩ | ⟨z, hz, hdf⟩
            · rw [hz] at HFL
              obtain ⟨cz, hcz, hczd⟩ := crash_dry hzo hzw keep
              have HXZ := Lib.hid (show z.dry = X.dry from hzd.trans HX1.out.symm)
              have HCZ := Lib.hid hczd
              have HCR := Lib.hid (fun v W (hv : DiskR W (fun _ => True) v z) (hb : Below W0.heap.size W0 W) => crash_any v (.slice A0 keep.length c0) z keep W hv ((HBS.out.below HB0.out).below hb))
              rw [hcz] at HCR
              have HDD := Lib.hid hdd
              clear hz hzo hzd hzw hcz hczd hdd
              go_wp2_with fail
              refine HFL.out.mono ?_
              rintro e w8 hg8
              obtain ⟨A8, c8, A8', c8', rfl, ho8, hb8⟩ := gives_disk hg8
              dsimp only at ho8 hb8 ⊢
              have hb8' := HB6.out.trans (hb8.mono HB6.out.size)
              have hx8 := (hb8.block w5.heap.size (by simp; omega)).trans HX6.out
              have hw58 : w5.heap.size < w8.heap.size := (Array.getElem?_eq_some_iff.1 hx8).1
              have hn8 := below_new w8 (Obj.cells #[Value.slice A8 z.dry.length c8, Value.slice A8' z.wet.length c8', .int .i64 z.fuse, .bool z.dead] 25)
              have hb8a := hb8'.alloc hb8'.size (Obj.cells #[Value.slice A8 z.dry.length c8, Value.slice A8' z.wet.length c8', .int .i64 z.fuse, .bool z.dead] 25)
              have HX8 := Lib.hid hx8
              have HZX := Lib.hid (heap_alloc_new w8 (Obj.cells #[Value.slice A8 z.dry.length c8, Value.slice A8' z.wet.length c8', .int .i64 z.fuse, .bool z.dead] 25))
              have HN8 := Lib.hid hn8
              have HZR := Lib.hid ((ho8.reads (S := fun _ => True) fun _ => trivial).below hn8)
              have HZS := Lib.hid (ho8.octets.below hn8)
              have HS8 := Lib.hid ((HS6.out.below hb8).below hn8)
              have HB8 := Lib.hid hb8a
              clear hg8 ho8 hb8 hb8' hb8a hx8 hn8 x6 b6
              go_wp2_with fail
              refine (HCR.out _ _ HZR.out HB8.out).mono ?_
              rintro e w9 hg9
              obtain ⟨A9, c9, A9', c9', rfl, ho9, hb9⟩ := gives_disk hg9
              dsimp only at ho9 hb9 ⊢
              have hw9 := hb9.size
              rw [World.size_alloc] at hw9
              have hn9 := below_new w9 (Obj.cells #[Value.slice A9 cz.dry.length c9, Value.slice A9' cz.wet.length c9', .int .i64 cz.fuse, .bool cz.dead] 25)
              have hz9 := (hb9.block w8.heap.size (by simp)).trans HZX.out
              have z9 : ∀ i, w9.cell? ⟨w8.heap.size, i, none⟩ = #[.slice A8 z.dry.length c8, .slice A8' z.wet.length c8', .int .i64 z.fuse, .bool z.dead][i]? := fun i => cell_of_row w9 _ i _ _ _ hz9
              have hx9 := (hb9.block w5.heap.size (by simp; omega)).trans ((Below.heap_alloc w8 (Obj.cells #[Value.slice A8 z.dry.length c8, Value.slice A8' z.wet.length c8', .int .i64 z.fuse, .bool z.dead] 25) _ hw58).trans HX8.out)
              have x9 : ∀ i, w9.cell? ⟨w5.heap.size, i, none⟩ = #[.slice A5 X.dry.length c5, .slice A5' X.wet.length c5', .int .i64 X.fuse, .bool X.dead][i]? := fun i => cell_of_row w9 _ i _ _ _ hx9
              have hw59 : w5.heap.size < w9.heap.size := by omega
              have hw89 : w8.heap.size < w9.heap.size := by omega
              have HSA := Lib.hid (sameBytes_any _ _ z.dry X.dry _ ((HZS.out.below hb9).below hn9) ((HS8.out.below hb9).below hn9))
              have HSC := Lib.hid (sameBytes_any _ _ cz.dry z.dry _ (ho9.octets.below hn9) ((HZS.out.below hb9).below hn9))
              rw [decide_eq_true HXZ.out] at HSA
              rw [decide_eq_true HCZ.out] at HSC
              have HB9 := Lib.hid (HB0.out.trans (((HB8.out.trans (hb9.mono HB8.out.size)).alloc (HB8.out.trans (hb9.mono HB8.out.size)).size (Obj.cells #[Value.slice A9 cz.dry.length c9, Value.slice A9' cz.wet.length c9', .int .i64 cz.fuse, .bool cz.dead] 25)).mono (by omega)))
              clear hg9 ho9 hb9 hn9 hz9 hx9
              go_wp2_with fail
              refine HSA.out.mono ?_
              rintro e w10 ⟨rfl, rfl⟩
              go_wp2_with fail
              refine HSC.out.mono ?_
              rintro e w11 ⟨rfl, rfl⟩
              go_wp2_with fail
              go_ret
              exact ⟨rfl, HB9.out⟩
            · rw [hz] at HFL
              clear hz
              have tdf : d.dead = true ∨ d.dead = false ∧ (d.fuse == 0) = true := by
                rcases hdf with h | h
                · exact .inl h
                · cases hd : d.dead
                  · exact .inr ⟨rfl, by simp [h]⟩
                  · exact .inl rfl
              clear hdf
              go_wp2_with fail
              refine HFL.out.mono ?_
              rintro e w8 hg8
              obtain ⟨A8, c8, A8', c8', rfl, ho8, hb8⟩ := gives_disk hg8
              dsimp only at ho8 hb8 ⊢
              have hb8' := HB6.out.trans (hb8.mono HB6.out.size)
              have b8 := HBOX.out _ hb8'
              have hw8 : w.heap.size < w8.heap.size := by have := hb8'.size; omega
              have HB8 := Lib.hid (HB0.out.trans ((hb8'.alloc hb8'.size (Obj.cells #[Value.slice A8 z.dry.length c8, Value.slice A8' z.wet.length c8', .int .i64 z.fuse, .bool z.dead] 25)).mono (by omega)))
              clear hg8 ho8 hb8 hb8' x6 b6
              rcases tdf with hd | ⟨hd, hf0⟩
              · go_wp2_with fail
                go_ret
                exact ⟨rfl, HB8.out⟩
              · go_wp2_with fail
                go_ret
                exact ⟨rfl, HB8.out⟩
    · have t1 : decide (1000 < (keep.length : Int)) = true := by simp; omega
      go_enter Try.func6, Try.ntmps6
      go_wp2_with fail
      rw [← hW0]
      clear hW0
      refine HLIVE.out.mono ?_
      rintro e w1 ⟨rfl, hb1⟩
      have b1 := HBOX.out w1 hb1
      have HB1 := Lib.hid hb1
      clear hb1
      go_wp2_with fail
      refine (HFEW.out w1 HB1.out).mono ?_
      rintro e w2 ⟨rfl, hb2⟩
      have HB2 := Lib.hid (HB0.out.trans ((HB1.out.trans (hb2.mono HB1.out.size)).mono (by omega)))
      clear hb2 b1
      go_wp2_with fail
      go_ret
      exact ⟨rfl, HB2.out⟩

end Go.Proofs.Ytdbioekmhlgolaa
