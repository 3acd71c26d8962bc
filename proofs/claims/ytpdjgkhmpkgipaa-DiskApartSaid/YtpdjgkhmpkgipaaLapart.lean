/- The law DiskApart, walked. -/
import Derived.Test.YtpdjgkhmpkgipaaV
import Derived.Test.YtpdjgkhmpkgipaaLcrash
import Derived.Deep.RegionHeld3
namespace Go.Proofs.Ytpdjgkhmpkgipaa
open Go.RowKit Dk

/-- What is left of the drawn statement: a disk in a variable, and no error. -/
def Kept (B : Nat) (w : World) (d : Disk) (s s' : Value) (wx : World) : Prop := ∃ g, s = .pointer (some ⟨g, 0, none⟩) ∧ s' = .int .i64 0 ∧ DiskVar wx g d ∧ B ≤ g ∧ Below B w wx

theorem grown_far {w w' : World} {B : Nat} {row : Option Nat} (h : w.grownBy w' row) (hr : ∀ g, row = some g → g < B) :
    (∀ g i, B ≤ g → g < w.heap.size → w'.cell? ⟨g, i, none⟩ = w.cell? ⟨g, i, none⟩) ∧ (∀ g i, B ≤ g → g < w.heap.size → w'.frozen? ⟨g, i, none⟩ = w.frozen? ⟨g, i, none⟩) ∧ (∀ g, B ≤ g → g < w.heap.size → w'.heap[g]? = w.heap[g]?) := by
  have hb : ∀ g, B ≤ g → g < w.heap.size → w'.heap[g]? = w.heap[g]? := fun g h1 h2 => h.block g h2 fun e => by have := hr g e.symm; omega
  exact ⟨fun g i h1 h2 => World.cell?_of_block (hb g h1 h2), fun g i h1 h2 => World.frozen?_of_block (hb g h1 h2), hb⟩

set_option maxRecDepth 4000 in
set_option maxHeartbeats 8000000 in
theorem diskApart_any (v vb : Value) (d : Disk) (p o : Int) (b : List UInt8) (kp : UInt8) (w : World) (h : DiskR w (fun _ => True) v d) (hb : Bs w (fun _ => True) vb b) :
    Calls Try.prog 8 #[v, .int .i64 p, vb, .int .i64 o, .int .u8 (kp.toNat : Int)] w (True_ w) := by
  have HD := Lib.hid h
  have HBS := Lib.hid hb
  obtain ⟨vd, vw, rfl, ⟨A, c, rfl, hdc, hdm, _⟩, A', c', xs, rfl, hwc, hwm, _⟩ := h
  obtain ⟨A0, c0, rfl, hkc, hkm, _⟩ := hb
  unfold maxLen at hdm hwm hkm
  obtain ⟨W0, hW0⟩ : ∃ W0, W0 = w.alloc (Obj.cells #[Value.slice A d.dry.length c, Value.slice A' d.wet.length c', .int .i64 d.fuse, .bool d.dead] 25) := ⟨_, rfl⟩
  have hb0 : Below w.heap.size w W0 := by rw [hW0]; exact below_new _ _
  have hz0 : W0.heap.size = w.heap.size + 1 := by rw [hW0]; simp
  have hbox : W0.heap[w.heap.size]? = some (.cells #[Value.slice A d.dry.length c, Value.slice A' d.wet.length c', .int .i64 d.fuse, .bool d.dead] 25 (0, 0)) := by rw [hW0]; exact heap_first _ _
  have HLIVE := Lib.hid (live_any W0)
  have HFEW := Lib.hid (fun W (hb : Below W0.heap.size W0 W) => few_any _ d W ((HD.out.below hb0).below hb))
  have HRD := Lib.hid (fun W (hb : Below W0.heap.size W0 W) => read_any _ d o W ((HD.out.below hb0).below hb))
  have HWR := Lib.hid (fun W (hb : Below W0.heap.size W0 W) => write_any _ (.slice A0 b.length c0) d p b W ((HD.out.below hb0).below hb) ((HBS.out.below hb0).below hb))
  have HBOX := Lib.hid (fun W (hb : Below W0.heap.size W0 W) => fun i => cell_of_row W w.heap.size i _ _ _ (below_past hbox hb))
  have HB0 := Lib.hid hb0
  clear hb0 hbox
  cases hf : few d
  · have HFF := Lib.hid hf
    rw [hf] at HFEW
    clear hf
    go_enter Try.func8, Try.ntmps8
    go_wp2_with fail
    rw [← hW0]
    clear hW0
    refine HLIVE.out.mono ?_
    rintro e w1 ⟨rfl, hb1⟩
    have b1 := HBOX.out w1 hb1
    have HB1 := Lib.hid hb1
    clear hb1
    go_wp2_with fail
    refine (HFEW.out w1 HB1.out).mono ?_
    rintro e w2 ⟨rfl, hb2⟩
    have HB2 := Lib.hid (HB0.out.trans ((HB1.out.trans (hb2.mono HB1.out.size)).mono (by omega)))
    clear hb2 b1
    go_wp2_with fail
    go_ret
    exact ⟨rfl, HB2.out⟩
  · rw [hf] at HFEW
    have HFF := Lib.hid hf
    clear hf
    by_cases hkl : (b.length : Int) ≤ 100
    · have t1 : decide (100 < (b.length : Int)) = false := by simp; omega
      by_cases hop : o = p
      · have t2 : (o == p) = true := by simpa using hop
        have HOP := Lib.hid hop
        clear hop
        go_enter Try.func8, Try.ntmps8
        go_wp2_with fail
        rw [← hW0]
        clear hW0
        refine HLIVE.out.mono ?_
        rintro e w1 ⟨rfl, hb1⟩
        have b1 := HBOX.out w1 hb1
        have HB1 := Lib.hid hb1
        clear hb1
        go_wp2_with fail
        refine (HFEW.out w1 HB1.out).mono ?_
        rintro e w2 ⟨rfl, hb2⟩
        have HB2 := Lib.hid (HB0.out.trans ((HB1.out.trans (hb2.mono HB1.out.size)).mono (by omega)))
        clear hb2 b1
        go_wp2_with fail
        go_ret
        exact ⟨rfl, HB2.out⟩
      · have t2 : (o == p) = false := by simpa using hop
        have HOP := Lib.hid hop
        clear hop
        rcases hr : Dk.read d o with ⟨R, E⟩
        rcases hw : write d p b with ⟨z, F⟩
        rw [hr] at HRD
        rw [hw] at HWR
        have HR := Lib.hid hr
        have HW := Lib.hid hw
        clear hr hw
        go_enter Try.func8, Try.ntmps8
        go_wp2_with fail
        rw [← hW0]
        clear hW0
        refine HLIVE.out.mono ?_
        rintro e w1 ⟨rfl, hb1⟩
        have b1 := HBOX.out w1 hb1
        have HB1 := Lib.hid hb1
        clear hb1
        go_wp2_with fail
        refine (HFEW.out w1 HB1.out).mono ?_
        rintro e w2 ⟨rfl, hb2⟩
        have hb2' := HB1.out.trans (hb2.mono HB1.out.size)
        have b2 := HBOX.out w2 hb2'
        have HB2 := Lib.hid hb2'
        clear hb2 hb2' b1
        go_wp2_with fail
        refine (HRD.out w2 HB2.out).mono ?_
        rintro e w3 ⟨v3, rfl, hown3, hb3⟩
        obtain ⟨A3, c3, rfl⟩ := own_slice hown3
        dsimp only at hown3 ⊢
        have hb3' := HB2.out.trans (hb3.mono HB2.out.size)
        have b3 := HBOX.out w3 hb3'
        have HR3 := Lib.hid (Bs.of_own (S := fun _ => True) hown3 fun _ _ => trivial)
        have HB3 := Lib.hid hb3'
        clear hb3 hb3' b2 hown3
        go_wp2_with fail
        refine (HWR.out w3 HB3.out).mono ?_
        rintro e w4 hg4
        obtain ⟨A4, c4, A4', c4', rfl, ho4, hb4⟩ := gives_disk hg4
        dsimp only at ho4 ⊢
        obtain ⟨W4, hW4⟩ : ∃ W4, W4 = w4.alloc (Obj.cells #[Value.slice A4 z.dry.length c4, Value.slice A4' z.wet.length c4', .int .i64 z.fuse, .bool z.dead] 25) := ⟨_, rfl⟩
        have hn4 : Below w4.heap.size w4 W4 := by rw [hW4]; exact below_new _ _
        have hz4 : W4.heap.size = w4.heap.size + 1 := by rw [hW4]; simp
        have hx4 : W4.heap[w4.heap.size]? = some (.cells #[Value.slice A4 z.dry.length c4, Value.slice A4' z.wet.length c4', .int .i64 z.fuse, .bool z.dead] 25 (0, 0)) := by rw [hW4]; exact heap_first _ _
        have hb4' := HB3.out.trans (hb4.mono HB3.out.size)
        have hb4a : Below W0.heap.size W0 W4 := hb4'.trans (hn4.mono hb4'.size)
        have HX4 := Lib.hid hx4
        have HZ4 := Lib.hid (ho4.below hn4)
        have HR4 := Lib.hid ((HR3.out.below hb4).below hn4)
        have HB4 := Lib.hid hb4a
        have hs4 : W0.heap.size ≤ w4.heap.size := hb4'.size
        clear hg4 ho4 hb4 hb4' hb4a hn4 hx4
        by_cases hE : E = 0
        · by_cases hF : F = 0
          · obtain ⟨q1, ⟨cz, q2, q3⟩, q4⟩ := apart kp HOP.out (by rw [HR.out, hE]) (by rw [HW.out, hF])
            subst hE hF
            have HRZ := Lib.hid (fun W (hb : Below W4.heap.size W4 W) => read_any _ z o W ((HZ4.out.reads (S := fun _ => True) fun _ => trivial).below hb))
            have HRP := Lib.hid (fun W (hb : Below W4.heap.size W4 W) => read_any _ z p W ((HZ4.out.reads (S := fun _ => True) fun _ => trivial).below hb))
            have HCR := Lib.hid (fun vk W (hb : Below W4.heap.size W4 W) (hk : Bs W (fun _ => True) vk (List.replicate d.wet.length 255 ++ [kp])) => crash_any _ vk z _ W ((HZ4.out.reads (S := fun _ => True) fun _ => trivial).below hb) hk)
            have HRC := Lib.hid (fun v W (hv : DiskR W (fun _ => True) v cz) => read_any v cz o W hv)
            rw [q1] at HRZ
            rw [q4] at HRP
            rw [q2] at HCR
            rw [q3] at HRC
            have HZC := Lib.hid (fun W (hb : Below W4.heap.size W4 W) => fun i => cell_of_row W w4.heap.size i _ _ _ (below_past HX4.out hb))
            clear q1 q2 q3 q4 b3
            go_wp2_with fail
            rw [← hW4]
            clear hW4
            have z4 := HZC.out W4 (Below.refl _ _)
            have hlt4 : w4.heap.size < W4.heap.size := by omega
            go_wp2_with fail
            refine (HRZ.out W4 (Below.refl _ _)).mono ?_
            rintro e w5 ⟨v5, rfl, hown5, hb5⟩
            obtain ⟨A5, c5, rfl⟩ := own_slice hown5
            dsimp only at hown5 ⊢
            have b5 := HBOX.out w5 (HB4.out.trans (hb5.mono HB4.out.size))
            have HR5 := Lib.hid (Bs.of_own (S := fun _ => True) hown5 fun _ _ => trivial)
            have HR3 := Lib.hid (HR4.out.below hb5)
            have hs5 := hb5.size
            have hlt5 : w.heap.size < w5.heap.size := by omega
            have HB5 := Lib.hid hb5
            have hfw : d.wet.length ≤ 600 := by
              have := HFF.out
              simp only [few, Bool.and_eq_true, decide_eq_true_eq] at this
              exact this.1.2
            obtain ⟨i0, hi0, hz0', hz1', hz2'⟩ := info_parts info8
            clear z4 hb5 hown5
            generalize hL : d.wet.length = L at *
            have HL := Lib.hid hL
            clear hL
            go_wp2_with fail
            go_loopw [18, 71] (fun u i wr => ∃ k : Nat, k ≤ L ∧ i = .int .i64 (k : Int) ∧ wr.ownsRow w5.heap.size 5 1 u k (octets (List.replicate k 255)) ∧ Below w5.heap.size w5 wr) (fun _ i _ => L - (intOf i).toNat)
            case atStart => exact ⟨0, by omega, rfl, World.ownsRow_nil _ _ _ _, Below.refl _ _⟩
            case round =>
              obtain ⟨k, hk, rfl, hown, hbe⟩ := hrel
              have HOWN := Lib.hid hown
              have HBE := Lib.hid hbe
              clear hown hbe
              by_cases hlt : k < L
              · go_wp2_with (at_builtin; refine wpList_append_cells _ rfl (.tmp 73) (.tmp 74) _ rfl w5.heap.size 5 i0 (.int .u8 0) 1 1 Try.underlying22 hi0 hz0' hz1' hz2' rfl (by decide) _ k _ rfl (HOWN.out.alloc _) (fun _ => True) _ 1 1 [.int .u8 255] rfl rfl (cells_new (cs := #[.int .u8 255]) (heap_alloc_new wr _) trivial) (by simp [Value.oneCell']) (by unfold maxLen; omega) (by omega) (by have := HBE.out.size; simp; omega) ?_)
                rintro v' w6 hown6 hgr6 -
                have hb6 : Below w5.heap.size w5 w6 := (HBE.out.alloc HBE.out.size _).grown hgr6 (by have := HBE.out.size; simp; omega) (fun j hj => (HOWN.out.lt j hj).1)
                have HO6 := Lib.hid hown6
                have HB6 := Lib.hid hb6
                clear hown6 hgr6 hb6
                go_wp2_with fail
                refine ⟨⟨k + 1, by omega, by go_num, by rw [List.replicate_succ']; simpa [octets] using HO6.out, HB6.out⟩, by simp [intOf]; omega⟩
              · obtain rfl : k = L := by omega
                have hown := HOWN.out
                obtain ⟨A6, c6, rfl⟩ := own_slice hown
                have HKS := Lib.hid (fun W (hb : Below w5.heap.size w5 W) => (show W.cell? ⟨w4.heap.size, 0, none⟩ = some (.slice A4 z.dry.length c4) ∧ W.cell? ⟨w4.heap.size, 1, none⟩ = some (.slice A4' z.wet.length c4') ∧ W.cell? ⟨w4.heap.size, 2, none⟩ = some (.int .i64 z.fuse) ∧ W.cell? ⟨w4.heap.size, 3, none⟩ = some (.bool z.dead) from
                  have hc := HZC.out W (HB5.out.trans (hb.mono HB5.out.size))
                  ⟨hc 0, hc 1, hc 2, hc 3⟩))
                have hswr : w5.heap.size ≤ wr.heap.size := HBE.out.size
                clear b5 hown
                go_wp2_with fail
                go_cut [19, 20] (fun s s' wx => Kept w5.heap.size w5 cz s s' wx)
                case first =>
                  go_region_held3 (fun w' => w'.cell? ⟨w4.heap.size, 0, none⟩ = some (.slice A4 z.dry.length c4) ∧ w'.cell? ⟨w4.heap.size, 1, none⟩ = some (.slice A4' z.wet.length c4') ∧ w'.cell? ⟨w4.heap.size, 2, none⟩ = some (.int .i64 z.fuse) ∧ w'.cell? ⟨w4.heap.size, 3, none⟩ = some (.bool z.dead))
                    ((refine HKS.out _ ?_; repeat (first | exact Below.refl _ _ | exact HB7.out | exact HB6.out | exact HBE.out | assumption | refine Below.drew ?_ | (refine Below.alloc ?_ (by first | omega | (simp; done) | (simp; omega)) _) | (refine Below.setCell ?_ (by first | omega | (simp; done) | (simp; omega)) _))))
                    (first
                      | (refine step_append_cells _ rfl (.tmp 79) (.tmp 81) 22 rfl w5.heap.size 5 i0 (.int .u8 0) 1 1 Try.underlying22 hi0 hz0' hz1' hz2' rfl (by decide) (.slice A6 k c6) k (octets (List.replicate k 255)) rfl ?_ (fun _ => True) _ 1 1 [.int .u8 (kp.toNat : Int)] rfl rfl ?_ ?_ ?_ ?_ ?_ ?_
                         focus (refine own_below HOWN.out ?_ (fun j hj => (HOWN.out.lt j hj).2); repeat (first | exact Below.refl _ _ | refine Below.drew ?_ | (refine Below.alloc ?_ (by first | omega | (simp; done) | (simp; omega)) _)))
                         (first
                           | exact (cells_new (cs := #[.int .u8 (kp.toNat : Int)]) (heap_alloc_new _ _) trivial).below ((Below.refl _ _).drew)
                           | exact (cells_new (cs := #[.int .u8 (kp.toNat : Int)]) (heap_alloc_new wr _) trivial).below (Below.drew (below_new _ _))
                           | exact (cells_new (cs := #[.int .u8 (kp.toNat : Int)]) (heap_second wr _ _) trivial).below ((Below.refl _ _).drew))
                         (intro u hu; rw [List.mem_singleton] at hu; rw [hu]; rfl)
                         (unfold maxLen; omega)
                         omega
                         (first | omega | (simp; done) | (simp; omega))
                         rintro v' w6 hown6 hgr6 -
                         obtain ⟨A7, c7, rfl⟩ := own_slice hown6
                         have hb6 : Below w5.heap.size w5 w6 := by
                           refine Below.grown ?_ hgr6 ?_ (fun j hj => (HOWN.out.lt j hj).1)
                           focus (repeat (first | exact Below.refl _ _ | exact HB7.out | exact HB6.out | exact HBE.out | assumption | refine Below.drew ?_ | (refine Below.alloc ?_ (by first | omega | (simp; done) | (simp; omega)) _) | (refine Below.setCell ?_ (by first | omega | (simp; done) | (simp; omega)) _)))
                           (first | omega | (simp; done) | (simp; omega))
                         have hs6 := hb6.size
                         have HK6 := Lib.hid (Bs.of_own (S := fun _ => True) (l := List.replicate k 255 ++ [kp]) (by rw [octets, List.map_append]; exact hown6) fun _ _ => trivial)
                         have hq6 := hgr6.size
                         simp only [World.size_drew, World.size_alloc] at hq6
                         have hq1 : wr.heap.size < w6.heap.size := by omega
                         have hq2 := Nat.lt_of_succ_le hq6
                         obtain ⟨hcl6, hfr6, hd6⟩ := grown_far (B := wr.heap.size) hgr6 (fun g he => (HOWN.out.lt g he).2)
                         simp only [World.size_drew, World.size_alloc] at hcl6 hfr6
                         have HD6 := Lib.hid hd6
                         have HB6 := Lib.hid hb6
                         clear hgr6 hb6 hown6 hd6)
                      | (go_at_call 21
                         refine (HCR.out _ _ ?_ ?_).mono ?_
                         focus (refine HB5.out.trans (Below.mono ?_ HB5.out.size); repeat (first | exact Below.refl _ _ | exact HB7.out | exact HB6.out | exact HBE.out | assumption | refine Below.drew ?_ | (refine Below.alloc ?_ (by first | omega | (simp; done) | (simp; omega)) _) | (refine Below.setCell ?_ (by first | omega | (simp; done) | (simp; omega)) _)))
                         focus (refine HK6.out.below ?_; repeat (first | exact Below.refl _ _ | refine Below.drew ?_ | (refine Below.alloc ?_ (by first | omega | (simp; done) | (simp; omega)) _)))
                         rintro e w7 hg7
                         obtain ⟨A8, c8, A8', c8', rfl, ho8, hb8⟩ := gives_disk hg7
                         obtain ⟨hcl7, hfr7⟩ := old_cells hb8
                         (try simp only [World.size_drew, World.size_alloc] at hcl7 hfr7)
                         have HO8 := Lib.hid ho8
                         have HB8 := Lib.hid hb8
                         have hb7 : Below w5.heap.size w5 w7 := by
                           refine Below.trans ?_ (hb8.mono ?_)
                           focus (repeat (first | exact Below.refl _ _ | exact HB7.out | exact HB6.out | exact HBE.out | assumption | refine Below.drew ?_ | (refine Below.alloc ?_ (by first | omega | (simp; done) | (simp; omega)) _) | (refine Below.setCell ?_ (by first | omega | (simp; done) | (simp; omega)) _)))
                           (first | omega | (simp; done) | (simp; omega))
                         have hs7 := hb8.size
                         have hs7' := hb7.size
                         have HB7 := Lib.hid hb7
                         clear hg7 ho8 hb8 hb7))
                  · have ho := HO8.out
                    have HK := Lib.hid (show Kept w5.heap.size w5 cz (.pointer (some ⟨w7.heap.size, 0, none⟩)) (.int .i64 0) _ from ⟨_, rfl, rfl, DiskVar.new ho, hs7', HB7.out.alloc hs7' _⟩)
                    clear ho
                    go_wp2_with fail
                    go_meet
                    exact HK.out
                  · have ho := HO8.out
                    have hx : w7.heap[w6.heap.size]? = some (.cells #[.slice none 0 0, .slice none 0 0, .int .i64 0, .bool false] 25 (0, 0)) := (HB8.out.block _ (by first | (simp; done) | (simp; omega))).trans (heap_first _ _)
                    have hst := DiskVar.store hx rfl ho (by first | (simp; done) | (simp; omega))
                    have hbl := below_res HB7.out (show w5.heap.size ≤ w6.heap.size by omega) (.slice A8 cz.dry.length c8) (.slice A8' cz.wet.length c8') (.int .i64 cz.fuse) (.bool cz.dead)
                    simp only [resCells] at hst hbl
                    have HK := Lib.hid (show ∃ g', some (⟨w6.heap.size, 0, none⟩ : Addr) = some ⟨g', 0, none⟩ ∧ DiskVar _ g' cz ∧ w5.heap.size ≤ g' ∧ Below w5.heap.size w5 _ from ⟨_, rfl, hst, by omega, hbl⟩)
                    clear ho hx hst hbl
                    go_wp2_with fail
                    go_meet
                    obtain ⟨g', he, h1, h2, h3⟩ := HK.out
                    exact ⟨g', congrArg _ he, rfl, h1, h2, h3⟩
                  · have ho := HO8.out
                    have hx : w7.heap[wr.heap.size + 1]? = some (.cells #[.slice none 0 0, .slice none 0 0, .int .i64 0, .bool false] 25 (0, 0)) := (HB8.out.block _ (by first | omega | (simp; done) | (simp; omega))).trans ((HD6.out _ (by omega) (by first | omega | (simp; done) | (simp; omega))).trans (heap_second _ _ _))
                    have hst := DiskVar.store hx rfl ho (by first | omega | (simp; done) | (simp; omega))
                    have hbl := below_res HB7.out (show w5.heap.size ≤ wr.heap.size + 1 by omega) (.slice A8 cz.dry.length c8) (.slice A8' cz.wet.length c8') (.int .i64 cz.fuse) (.bool cz.dead)
                    simp only [resCells] at hst hbl
                    have HK := Lib.hid (show ∃ g', some (⟨wr.heap.size + 1, 0, none⟩ : Addr) = some ⟨g', 0, none⟩ ∧ DiskVar _ g' cz ∧ w5.heap.size ≤ g' ∧ Below w5.heap.size w5 _ from ⟨_, rfl, hst, by omega, hbl⟩)
                    clear ho hx hst hbl
                    go_wp2_with fail
                    go_meet
                    obtain ⟨g', he, h1, h2, h3⟩ := HK.out
                    exact ⟨g', congrArg _ he, rfl, h1, h2, h3⟩
                  · have ho := HO8.out
                    have hx : w7.heap[wr.heap.size]? = some (.cells #[.slice none 0 0, .slice none 0 0, .int .i64 0, .bool false] 25 (0, 0)) := (HB8.out.block _ (by first | omega | (simp; done) | (simp; omega))).trans ((HD6.out _ (by omega) (by first | omega | (simp; done) | (simp; omega))).trans ((Below.heap_alloc _ _ _ (by first | omega | (simp; done) | (simp; omega))).trans (heap_first _ _)))
                    have hst := DiskVar.store hx rfl ho (by first | omega | (simp; done) | (simp; omega))
                    have hbl := below_res HB7.out (show w5.heap.size ≤ wr.heap.size by omega) (.slice A8 cz.dry.length c8) (.slice A8' cz.wet.length c8') (.int .i64 cz.fuse) (.bool cz.dead)
                    simp only [resCells] at hst hbl
                    have HK := Lib.hid (show ∃ g', some (⟨wr.heap.size, 0, none⟩ : Addr) = some ⟨g', 0, none⟩ ∧ DiskVar _ g' cz ∧ w5.heap.size ≤ g' ∧ Below w5.heap.size w5 _ from ⟨_, rfl, hst, by omega, hbl⟩)
                    clear ho hx hst hbl
                    go_wp2_with fail
                    go_meet
                    obtain ⟨g', he, h1, h2, h3⟩ := HK.out
                    exact ⟨g', congrArg _ he, rfl, h1, h2, h3⟩
                case rest =>
                  obtain ⟨g, rfl, rfl, hdv, hg, hbk⟩ := hcut
                  have hlg := hdv.lt
                  obtain ⟨A9, c9, A9', c9', hh, hr9⟩ := hdv
                  have x9 : ∀ i, wc.cell? ⟨g, i, none⟩ = #[.slice A9 cz.dry.length c9, .slice A9' cz.wet.length c9', .int .i64 cz.fuse, .bool cz.dead][i]? := fun i => cell_of_row wc g i _ _ _ hh
                  have HR9 := Lib.hid hr9.any
                  have HR3 := Lib.hid (HR3.out.below hbk)
                  have HR5 := Lib.hid (HR5.out.below hbk)
                  have hbk' := HB5.out.trans (hbk.mono HB5.out.size)
                  have HBK := Lib.hid hbk'
                  clear hh hr9 hbk hbk'
                  go_wp2_with fail
                  refine (HRC.out _ _ HR9.out).mono ?_
                  rintro e w10 ⟨v10, rfl, hown10, hb10⟩
                  obtain ⟨A10, c10, rfl⟩ := own_slice hown10
                  dsimp only at hown10 ⊢
                  have HR10 := Lib.hid (Bs.of_own (S := fun _ => True) hown10 fun _ _ => trivial)
                  have HR3 := Lib.hid (HR3.out.below hb10)
                  have HR5 := Lib.hid (HR5.out.below hb10)
                  have hb10' := HBK.out.trans (hb10.mono HBK.out.size)
                  have z10 := HZC.out w10 hb10'
                  have hlz : w4.heap.size < w10.heap.size := by have := hb10'.size; omega
                  have HB10 := Lib.hid hb10'
                  clear hown10 hb10 hb10' x9
                  go_wp2_with fail
                  refine (HRP.out w10 HB10.out).mono ?_
                  rintro e w11 ⟨v11, rfl, hown11, hb11⟩
                  obtain ⟨A11, c11, rfl⟩ := own_slice hown11
                  dsimp only at hown11 ⊢
                  have hb11' := HB10.out.trans (hb11.mono HB10.out.size)
                  have hb11a := HB4.out.trans (hb11'.mono HB4.out.size)
                  have HSA := Lib.hid (sameBytes_any _ _ R R w11 (HR3.out.below hb11) (HR5.out.below hb11))
                  have HSC := Lib.hid (sameBytes_any _ _ R R w11 (HR3.out.below hb11) (HR10.out.below hb11))
                  have HSO := Lib.hid (sameBytes_any _ _ b b w11 (Bs.of_own (S := fun _ => True) hown11 fun _ _ => trivial) ((HBS.out.below HB0.out).below hb11a))
                  rw [decide_eq_true rfl] at HSA HSC HSO
                  have HB11 := Lib.hid (HB0.out.trans (hb11a.mono (by omega)))
                  clear hown11 hb11 hb11' hb11a z10
                  go_wp2_with fail
                  refine HSA.out.mono ?_
                  rintro e w12 ⟨rfl, rfl⟩
                  go_wp2_with fail
                  refine HSC.out.mono ?_
                  rintro e w13 ⟨rfl, rfl⟩
                  go_wp2_with fail
                  refine HSO.out.mono ?_
                  rintro e w14 ⟨rfl, rfl⟩
                  go_wp2_with fail
                  go_ret
                  exact ⟨rfl, HB11.out⟩
          · have tF : (F != 0) = true := by simpa using hF
            have tE : (E != 0) = false := by simpa using hE
            have HBE := Lib.hid (HB0.out.trans (HB4.out.mono (by omega)))
            clear b3
            go_wp2_with fail
            rw [← hW4]
            clear hW4
            go_wp2_with fail
            go_ret
            exact ⟨rfl, HBE.out⟩
        · have tE : (E != 0) = true := by simpa using hE
          have HBE := Lib.hid (HB0.out.trans (HB4.out.mono (by omega)))
          clear b3
          go_wp2_with fail
          rw [← hW4]
          clear hW4
          go_wp2_with fail
          go_ret
          exact ⟨rfl, HBE.out⟩
    · have t1 : decide (100 < (b.length : Int)) = true := by simp; omega
      go_enter Try.func8, Try.ntmps8
      go_wp2_with fail
      rw [← hW0]
      clear hW0
      refine HLIVE.out.mono ?_
      rintro e w1 ⟨rfl, hb1⟩
      have b1 := HBOX.out w1 hb1
      have HB1 := Lib.hid hb1
      clear hb1
      go_wp2_with fail
      refine (HFEW.out w1 HB1.out).mono ?_
      rintro e w2 ⟨rfl, hb2⟩
      have HB2 := Lib.hid (HB0.out.trans ((HB1.out.trans (hb2.mono HB1.out.size)).mono (by omega)))
      clear hb2 b1
      go_wp2_with fail
      go_ret
      exact ⟨rfl, HB2.out⟩

end Go.Proofs.Ytpdjgkhmpkgipaa
