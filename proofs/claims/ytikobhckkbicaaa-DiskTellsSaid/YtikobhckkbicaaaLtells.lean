/- The law DiskTells, walked. -/
import Derived.Test.YtikobhckkbicaaaY
import Derived.Deep.RegionHeld3
import Derived.Deep.RegionWith
namespace Go.Proofs.Ytikobhckkbicaaa
open Go.RowKit Dk

theorem same_self (d : Disk) : same d d = true := by
  have h : sameWs d.wet d.wet = true := sameWs_yes d.wet d.wet rfl fun j x y hx hy => by
    rw [hx] at hy
    injection hy with hy
    subst hy
    simp [sameWr]
  simp [same, h]

set_option maxRecDepth 10000 in
set_option maxHeartbeats 4000000 in
theorem diskTells_any (n : Int) (v v' : Value) (d o : Disk) (w : World) (h : DiskR w (fun _ => True) v d) (h' : DiskR w (fun _ => True) v' o) :
    Calls Try.prog 4 #[.int .i64 n, v, v'] w (True_ w) := by
  have HD := Lib.hid h
  have HO := Lib.hid h'
  obtain ⟨vd, vw, rfl, ⟨A, c, rfl, _⟩, A', c', xs, rfl, _⟩ := h
  obtain ⟨ud, uw, rfl, ⟨B, k, rfl, _⟩, B', k', ys, rfl, _⟩ := h'
  obtain ⟨W0, hW0⟩ : ∃ W0, W0 = (w.alloc (Obj.cells #[Value.slice A d.dry.length c, Value.slice A' d.wet.length c', .int .i64 d.fuse, .bool d.dead] 25)).alloc (Obj.cells #[Value.slice B o.dry.length k, Value.slice B' o.wet.length k', .int .i64 o.fuse, .bool o.dead] 25) := ⟨_, rfl⟩
  have hb0 : Below w.heap.size w W0 := by rw [hW0]; exact ((Below.refl _ _).alloc (Nat.le_refl _) _).alloc (by simp) _
  have hz0 : W0.heap.size = w.heap.size + 2 := by rw [hW0]; simp
  have hbox : W0.heap[w.heap.size]? = some (.cells #[Value.slice A d.dry.length c, Value.slice A' d.wet.length c', .int .i64 d.fuse, .bool d.dead] 25 (0, 0)) := by rw [hW0, Below.heap_alloc _ _ _ (by simp)]; exact heap_first _ _
  have hbox' : W0.heap[w.heap.size + 1]? = some (.cells #[Value.slice B o.dry.length k, Value.slice B' o.wet.length k', .int .i64 o.fuse, .bool o.dead] 25 (0, 0)) := by rw [hW0]; exact heap_second _ _ _
  have HLIVE := Lib.hid (live_any W0)
  have HF1 := Lib.hid (fun W (hb : Below W0.heap.size W0 W) => few_any _ d W ((HD.out.below hb0).below hb))
  have HF2 := Lib.hid (fun W (hb : Below W0.heap.size W0 W) => few_any _ o W ((HO.out.below hb0).below hb))
  have HC1 := Lib.hid (fun W (hb : Below W0.heap.size W0 W) => check_any _ d W ((HD.out.below hb0).below hb))
  have HC2 := Lib.hid (fun W (hb : Below W0.heap.size W0 W) => refCheck_any _ d W ((HD.out.below hb0).below hb))
  have HS1 := Lib.hid (fun W (hb : Below W0.heap.size W0 W) => same_any _ _ d o W ((HD.out.below hb0).below hb) ((HO.out.below hb0).below hb))
  have HS2 := Lib.hid (fun W (hb : Below W0.heap.size W0 W) => refSame_any _ _ d o W ((HD.out.below hb0).below hb) ((HO.out.below hb0).below hb))
  have HBOX := Lib.hid (fun W (hb : Below W0.heap.size W0 W) => fun i => cell_of_row W w.heap.size i _ _ _ (below_past hbox hb))
  have HBOX' := Lib.hid (fun W (hb : Below W0.heap.size W0 W) => fun i => cell_of_row W (w.heap.size + 1) i _ _ _ (below_past hbox' hb))
  have HB0 := Lib.hid hb0
  clear hb0 hbox hbox'
  have key : few d = false ∨ (few d = true ∧ few o = false) ∨ (few d = true ∧ few o = true ∧ 1000 < n ∧ n ≤ 8192) ∨ (few d = true ∧ few o = true ∧ (n ≤ 1000 ∨ (1000 < n ∧ 8192 < n))) := by
    cases few d
    · exact .inl rfl
    · cases few o
      · exact .inr (.inl ⟨rfl, rfl⟩)
      · by_cases h1 : 1000 < n
        · by_cases h2 : n ≤ 8192
          · exact .inr (.inr (.inl ⟨rfl, rfl, h1, h2⟩))
          · exact .inr (.inr (.inr ⟨rfl, rfl, .inr ⟨h1, by omega⟩⟩))
        · exact .inr (.inr (.inr ⟨rfl, rfl, .inl (by omega)⟩))
  rcases key with f1 | ⟨f1, f2⟩ | ⟨f1, f2, n1, n2⟩ | ⟨f1, f2, hn⟩
  · rw [f1] at HF1
    clear f1
    go_enter Try.func4, Try.ntmps4
    go_wp2_with fail
    rw [← hW0]
    clear hW0
    refine HLIVE.out.mono ?_
    rintro e w1 ⟨rfl, hb1⟩
    have b1 := HBOX.out w1 hb1
    have HB1 := Lib.hid hb1
    clear hb1
    go_wp2_with fail
    refine (HF1.out w1 HB1.out).mono ?_
    rintro e w2 ⟨rfl, hb2⟩
    have HB2 := Lib.hid (HB0.out.trans ((HB1.out.trans (hb2.mono HB1.out.size)).mono (by omega)))
    clear hb2 b1
    go_wp2_with fail
    go_ret
    exact ⟨rfl, HB2.out⟩
  · rw [f1] at HF1
    rw [f2] at HF2
    clear f1 f2
    go_enter Try.func4, Try.ntmps4
    go_wp2_with fail
    rw [← hW0]
    clear hW0
    refine HLIVE.out.mono ?_
    rintro e w1 ⟨rfl, hb1⟩
    have b1 := HBOX.out w1 hb1
    have HB1 := Lib.hid hb1
    clear hb1
    go_wp2_with fail
    refine (HF1.out w1 HB1.out).mono ?_
    rintro e w2 ⟨rfl, hb2⟩
    have hb2' := HB1.out.trans (hb2.mono HB1.out.size)
    have b2 := HBOX'.out w2 hb2'
    have HB2 := Lib.hid hb2'
    clear hb2 hb2' b1
    go_wp2_with fail
    refine (HF2.out w2 HB2.out).mono ?_
    rintro e w3 ⟨rfl, hb3⟩
    have HB3 := Lib.hid (HB0.out.trans ((HB2.out.trans (hb3.mono HB2.out.size)).mono (by omega)))
    clear hb3 b2
    go_wp2_with fail
    go_ret
    exact ⟨rfl, HB3.out⟩
  · rw [f1] at HF1
    rw [f2] at HF2
    clear f1 f2
    go_enter Try.func4, Try.ntmps4
    go_wp2_with fail
    rw [← hW0]
    clear hW0
    refine HLIVE.out.mono ?_
    rintro e w1 ⟨rfl, hb1⟩
    have b1 := HBOX.out w1 hb1
    have HB1 := Lib.hid hb1
    clear hb1
    go_wp2_with fail
    refine (HF1.out w1 HB1.out).mono ?_
    rintro e w2 ⟨rfl, hb2⟩
    have hb2' := HB1.out.trans (hb2.mono HB1.out.size)
    have b2 := HBOX'.out w2 hb2'
    have HB2 := Lib.hid hb2'
    clear hb2 hb2' b1
    go_wp2_with fail
    refine (HF2.out w2 HB2.out).mono ?_
    rintro e w3 ⟨rfl, hb3⟩
    have HB3 := Lib.hid (HB0.out.trans ((HB2.out.trans (hb3.mono HB2.out.size)).mono (by omega)))
    clear hb3 b2
    go_wp2_with fail
    go_ret
    exact ⟨rfl, HB3.out⟩
  · rw [f1] at HF1
    rw [f2] at HF2
    clear f1 f2
    have HN1 := Lib.hid (fun W => new_any n W)
    have HN2 := Lib.hid (fun W => refNew_any n W)
    generalize new n = r at *
    obtain ⟨N, e1⟩ := r
    rcases hn with hn | ⟨hn, hn2⟩
    all_goals
      go_enter Try.func4, Try.ntmps4
      go_wp2_with fail
      rw [← hW0]
      clear hW0
      refine HLIVE.out.mono ?_
      rintro e w1 ⟨rfl, hb1⟩
      have b1 := HBOX.out w1 hb1
      have HB1 := Lib.hid hb1
      clear hb1
      go_wp2_with fail
      refine (HF1.out w1 HB1.out).mono ?_
      rintro e w2 ⟨rfl, hb2⟩
      have hb2' := HB1.out.trans (hb2.mono HB1.out.size)
      have b2 := HBOX'.out w2 hb2'
      have HB2 := Lib.hid hb2'
      clear hb2 hb2' b1
      go_wp2_with fail
      refine (HF2.out w2 HB2.out).mono ?_
      rintro e w3 ⟨rfl, hb3⟩
      have HB3 := Lib.hid (HB2.out.trans (hb3.mono HB2.out.size))
      clear hb3 b2
      go_wp2_with fail
      refine (HN1.out _).mono ?_
      intro e w4 hg
      obtain ⟨A4, c4, A4', c4', rfl, ho4, hb4⟩ := gives_disk hg
      dsimp only at ho4 ⊢
      have HO4 := Lib.hid ho4
      have HB4 := Lib.hid (HB3.out.trans (hb4.mono HB3.out.size))
      clear hg ho4 hb4
      go_wp2_with fail
      refine (HN2.out _).mono ?_
      intro e w5 hg
      obtain ⟨A5, c5, A5', c5', rfl, ho5, hb5⟩ := gives_disk hg
      dsimp only at ho5 ⊢
      have HO5 := Lib.hid ho5
      have HB5 := Lib.hid hb5
      clear hg ho5 hb5
      go_wp2_with fail
      obtain ⟨W6, hW6⟩ : ∃ W6, W6 = w5.alloc (Obj.cells #[Value.slice A5 N.dry.length c5, Value.slice A5' N.wet.length c5', .int .i64 N.fuse, .bool N.dead] 25) := ⟨_, rfl⟩
      rw [← hW6]
      have hx4 : (w4.alloc (Obj.cells #[Value.slice A4 N.dry.length c4, Value.slice A4' N.wet.length c4', .int .i64 N.fuse, .bool N.dead] 25)).heap[w4.heap.size]? = _ := heap_alloc_new w4 _
      have h56 : Below w5.heap.size w5 W6 := by rw [hW6]; exact below_new _ _
      have hx5 : W6.heap[w5.heap.size]? = some (.cells #[Value.slice A5 N.dry.length c5, Value.slice A5' N.wet.length c5', .int .i64 N.fuse, .bool N.dead] 25 (0, 0)) := by rw [hW6]; exact heap_alloc_new w5 _
      have h46 := HB5.out.trans (h56.mono HB5.out.size)
      have hx46 := below_past hx4 h46
      have h06 : Below W0.heap.size W0 W6 := (HB4.out.alloc HB4.out.size _).trans (h46.mono (by have := HB4.out.size; simp; omega))
      have HKEEP := Lib.hid (fun W (hb : Below W6.heap.size W6 W) => (show W.cell? ⟨w.heap.size, 0, none⟩ = some (Value.slice A d.dry.length c) ∧ W.cell? ⟨w.heap.size, 1, none⟩ = some (Value.slice A' d.wet.length c') ∧ W.cell? ⟨w.heap.size, 2, none⟩ = some (.int .i64 d.fuse) ∧ W.cell? ⟨w.heap.size, 3, none⟩ = some (.bool d.dead) ∧ W.cell? ⟨w.heap.size + 1, 0, none⟩ = some (Value.slice B o.dry.length k) ∧ W.cell? ⟨w.heap.size + 1, 1, none⟩ = some (Value.slice B' o.wet.length k') ∧ W.cell? ⟨w.heap.size + 1, 2, none⟩ = some (.int .i64 o.fuse) ∧ W.cell? ⟨w.heap.size + 1, 3, none⟩ = some (.bool o.dead) ∧ W.cell? ⟨w4.heap.size, 0, none⟩ = some (Value.slice A4 N.dry.length c4) ∧ W.cell? ⟨w4.heap.size, 1, none⟩ = some (Value.slice A4' N.wet.length c4') ∧ W.cell? ⟨w4.heap.size, 2, none⟩ = some (.int .i64 N.fuse) ∧ W.cell? ⟨w4.heap.size, 3, none⟩ = some (.bool N.dead) ∧ W.cell? ⟨w5.heap.size, 0, none⟩ = some (Value.slice A5 N.dry.length c5) ∧ W.cell? ⟨w5.heap.size, 1, none⟩ = some (Value.slice A5' N.wet.length c5') ∧ W.cell? ⟨w5.heap.size, 2, none⟩ = some (.int .i64 N.fuse) ∧ W.cell? ⟨w5.heap.size, 3, none⟩ = some (.bool N.dead) from
        have q1 := HBOX.out W (h06.trans (hb.mono h06.size))
        have q2 := HBOX'.out W (h06.trans (hb.mono h06.size))
        have q3 := fun i => cell_of_row W w4.heap.size i _ _ _ (below_past hx46 hb)
        have q4 := fun i => cell_of_row W w5.heap.size i _ _ _ (below_past hx5 hb)
        ⟨q1 0, q1 1, q1 2, q1 3, q2 0, q2 1, q2 2, q2 3, q3 0, q3 1, q3 2, q3 3, q4 0, q4 1, q4 2, q4 3⟩))
      have hr4 : DiskR W6 (fun _ => True) (.agg #[Value.slice A4 N.dry.length c4, Value.slice A4' N.wet.length c4', .int .i64 N.fuse, .bool N.dead]) N := ((HO4.out.below (below_new w4 _)).below h46).reads fun _ => trivial
      have hr5 : DiskR W6 (fun _ => True) (.agg #[Value.slice A5 N.dry.length c5, Value.slice A5' N.wet.length c5', .int .i64 N.fuse, .bool N.dead]) N := (HO5.out.below h56).reads fun _ => trivial
      have HA1 := Lib.hid (fun W (hb : Below W6.heap.size W6 W) => refSame_any _ _ N N W (hr4.below hb) (hr5.below hb))
      rw [same_self] at HA1
      have HA2 := Lib.hid (fun W (hb : Below W6.heap.size W6 W) => HC1.out W (h06.trans (hb.mono h06.size)))
      have HA3 := Lib.hid (fun W (hb : Below W6.heap.size W6 W) => HC2.out W (h06.trans (hb.mono h06.size)))
      have HA4 := Lib.hid (fun W (hb : Below W6.heap.size W6 W) => HS1.out W (h06.trans (hb.mono h06.size)))
      have HA5 := Lib.hid (fun W (hb : Below W6.heap.size W6 W) => HS2.out W (h06.trans (hb.mono h06.size)))
      have HW6 := Lib.hid (HB0.out.trans (h06.mono (by omega)))
      generalize check d = ck at *
      generalize same d o = sm at *
      have k6 := HKEEP.out W6 (Below.refl _ _)
      obtain ⟨k00, k01, k02, k03, k10, k11, k12, k13, k20, k21, k22, k23, k30, k31, k32, k33⟩ := k6
      clear hW6 hx4 h56 hx5 h46 hx46 h06 hr4 hr5 HBOX HBOX' HC1 HC2 HS1 HS2 HF1 HF2 HN1 HN2 HLIVE
      go_region_held3 (fun w' => w'.cell? ⟨w.heap.size, 0, none⟩ = some (Value.slice A d.dry.length c) ∧ w'.cell? ⟨w.heap.size, 1, none⟩ = some (Value.slice A' d.wet.length c') ∧ w'.cell? ⟨w.heap.size, 2, none⟩ = some (.int .i64 d.fuse) ∧ w'.cell? ⟨w.heap.size, 3, none⟩ = some (.bool d.dead) ∧ w'.cell? ⟨w.heap.size + 1, 0, none⟩ = some (Value.slice B o.dry.length k) ∧ w'.cell? ⟨w.heap.size + 1, 1, none⟩ = some (Value.slice B' o.wet.length k') ∧ w'.cell? ⟨w.heap.size + 1, 2, none⟩ = some (.int .i64 o.fuse) ∧ w'.cell? ⟨w.heap.size + 1, 3, none⟩ = some (.bool o.dead) ∧ w'.cell? ⟨w4.heap.size, 0, none⟩ = some (Value.slice A4 N.dry.length c4) ∧ w'.cell? ⟨w4.heap.size, 1, none⟩ = some (Value.slice A4' N.wet.length c4') ∧ w'.cell? ⟨w4.heap.size, 2, none⟩ = some (.int .i64 N.fuse) ∧ w'.cell? ⟨w4.heap.size, 3, none⟩ = some (.bool N.dead) ∧ w'.cell? ⟨w5.heap.size, 0, none⟩ = some (Value.slice A5 N.dry.length c5) ∧ w'.cell? ⟨w5.heap.size, 1, none⟩ = some (Value.slice A5' N.wet.length c5') ∧ w'.cell? ⟨w5.heap.size, 2, none⟩ = some (.int .i64 N.fuse) ∧ w'.cell? ⟨w5.heap.size, 3, none⟩ = some (.bool N.dead))
        ((refine HKEEP.out _ ?_; (repeat (first | exact Below.refl _ _ | exact HV5.out | exact HV4.out | exact HV3.out | exact HV2.out | exact HV1.out | assumption | refine Below.drew ?_ | (refine Below.alloc ?_ (by first | omega | (simp; done) | (simp; omega)) _)))))
        (first
          | (go_at_call_of 30 (Value.slice A4 N.dry.length c4)
             refine (HA1.out _ ?_).mono ?_
             focus (repeat (first | exact Below.refl _ _ | exact HV5.out | exact HV4.out | exact HV3.out | exact HV2.out | exact HV1.out | assumption | refine Below.drew ?_ | (refine Below.alloc ?_ (by first | omega | (simp; done) | (simp; omega)) _)))
             rintro e wn ⟨rfl, hbn⟩
             have hb1 : Below W6.heap.size W6 wn := by
               refine Below.trans ?_ (hbn.mono ?_)
               focus (repeat (first | exact Below.refl _ _ | exact HV5.out | exact HV4.out | exact HV3.out | exact HV2.out | exact HV1.out | assumption | refine Below.drew ?_ | (refine Below.alloc ?_ (by first | omega | (simp; done) | (simp; omega)) _)))
               (first | omega | (simp; done) | (simp; omega))
             have hs1 := hb1.size
             have HV1 := Lib.hid hb1
             clear hbn hb1)
          | (go_at_call 33
             refine (HA2.out _ ?_).mono ?_
             focus (repeat (first | exact Below.refl _ _ | exact HV5.out | exact HV4.out | exact HV3.out | exact HV2.out | exact HV1.out | assumption | refine Below.drew ?_ | (refine Below.alloc ?_ (by first | omega | (simp; done) | (simp; omega)) _)))
             rintro e wn ⟨rfl, hbn⟩
             have hb2 : Below W6.heap.size W6 wn := by
               refine Below.trans ?_ (hbn.mono ?_)
               focus (repeat (first | exact Below.refl _ _ | exact HV5.out | exact HV4.out | exact HV3.out | exact HV2.out | exact HV1.out | assumption | refine Below.drew ?_ | (refine Below.alloc ?_ (by first | omega | (simp; done) | (simp; omega)) _)))
               (first | omega | (simp; done) | (simp; omega))
             have hs2 := hb2.size
             have HV2 := Lib.hid hb2
             clear hbn hb2)
          | (go_at_call 34
             refine (HA3.out _ ?_).mono ?_
             focus (repeat (first | exact Below.refl _ _ | exact HV5.out | exact HV4.out | exact HV3.out | exact HV2.out | exact HV1.out | assumption | refine Below.drew ?_ | (refine Below.alloc ?_ (by first | omega | (simp; done) | (simp; omega)) _)))
             rintro e wn ⟨rfl, hbn⟩
             have hb3 : Below W6.heap.size W6 wn := by
               refine Below.trans ?_ (hbn.mono ?_)
               focus (repeat (first | exact Below.refl _ _ | exact HV5.out | exact HV4.out | exact HV3.out | exact HV2.out | exact HV1.out | assumption | refine Below.drew ?_ | (refine Below.alloc ?_ (by first | omega | (simp; done) | (simp; omega)) _)))
               (first | omega | (simp; done) | (simp; omega))
             have hs3 := hb3.size
             have HV3 := Lib.hid hb3
             clear hbn hb3)
          | (go_at_call 35
             refine (HA4.out _ ?_).mono ?_
             focus (repeat (first | exact Below.refl _ _ | exact HV5.out | exact HV4.out | exact HV3.out | exact HV2.out | exact HV1.out | assumption | refine Below.drew ?_ | (refine Below.alloc ?_ (by first | omega | (simp; done) | (simp; omega)) _)))
             rintro e wn ⟨rfl, hbn⟩
             have hb4 : Below W6.heap.size W6 wn := by
               refine Below.trans ?_ (hbn.mono ?_)
               focus (repeat (first | exact Below.refl _ _ | exact HV5.out | exact HV4.out | exact HV3.out | exact HV2.out | exact HV1.out | assumption | refine Below.drew ?_ | (refine Below.alloc ?_ (by first | omega | (simp; done) | (simp; omega)) _)))
               (first | omega | (simp; done) | (simp; omega))
             have hs4 := hb4.size
             have HV4 := Lib.hid hb4
             clear hbn hb4)
          | (go_at_call 30
             refine (HA5.out _ ?_).mono ?_
             focus (repeat (first | exact Below.refl _ _ | exact HV5.out | exact HV4.out | exact HV3.out | exact HV2.out | exact HV1.out | assumption | refine Below.drew ?_ | (refine Below.alloc ?_ (by first | omega | (simp; done) | (simp; omega)) _)))
             rintro e wn ⟨rfl, hbn⟩
             have hb5 : Below W6.heap.size W6 wn := by
               refine Below.trans ?_ (hbn.mono ?_)
               focus (repeat (first | exact Below.refl _ _ | exact HV5.out | exact HV4.out | exact HV3.out | exact HV2.out | exact HV1.out | assumption | refine Below.drew ?_ | (refine Below.alloc ?_ (by first | omega | (simp; done) | (simp; omega)) _)))
               (first | omega | (simp; done) | (simp; omega))
             have hs5 := hb5.size
             have HV5 := Lib.hid hb5
             clear hbn hb5))
      all_goals
        go_wp2_with fail
        go_ret
        refine ⟨rfl, HW6.out.trans (Below.mono ?_ HW6.out.size)⟩
        (repeat (first | exact Below.refl _ _ | exact HV5.out | exact HV4.out | exact HV3.out | exact HV2.out | exact HV1.out | assumption | refine Below.drew ?_ | (refine Below.alloc ?_ (by first | omega | (simp; done) | (simp; omega)) _)))

end Go.Proofs.Ytikobhckkbicaaa
