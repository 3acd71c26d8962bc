/- Contract: Open. -/
import Derived.Test.Ytikobhckkbicaaa2D
import Derived.Test.Ytikobhckkbicaaa2T
import Derived.Deep.Cut
import Derived.Deep.DeepCutAuto
import Derived.WalkSmall
namespace Go.Proofs.Ytikobhckkbicaaa
open Go.RowKit Sk

/-- The answer of Open. -/
def GivesO (w : World) (r : Int × List UInt8 × Int) (e : Ending) (w' : World) : Prop :=
  ∃ v, e = .returned (.tuple #[.int .i64 r.1, v, .int .i64 r.2.2]) ∧ w'.ownsRow w.heap.size 5 1 v r.2.1.length (octets r.2.1) ∧ Below w.heap.size w w'

/-- A sector's cells, eight from a place on. -/
theorem eight_cells {w : World} {S : Nat → Prop} {A : Option Addr} {b : List UInt8} (hc : Cells w S A (octets b)) (hb : b.length = 32) : ∃ ad, A = some ad ∧ ∀ i x, b[i]? = some x → w.cell? (ad.add i) = some (.int .u8 (x.toNat : Int)) := by
  obtain ⟨ad, h1, _, h2⟩ := hc (by rw [octets_length]; omega)
  exact ⟨ad, h1, fun i x hx => h2 i _ (octets_at hx)⟩

theorem run_arrayAt_mark (W : World) (A : Option Addr) (c : Nat) : (Instr.arrayAt 89 (.slice A 8 c)).run Try.prog W = .ok (.pointer A) W := by
  simp [Instr.arrayAt, run_underlying Try.underlying89]

theorem open_torn {w w' : World} {R : Int × List UInt8 × Int} {k : Int} (hR : R = (0, [], k)) (hb : Below w.heap.size w w') : GivesO w R (.returned (.tuple #[.int .i64 0, .slice none 0 0, .int .i64 k])) w' := by
  subst hR
  exact ⟨_, rfl, World.ownsRow_nil _ _ _ _, hb⟩
theorem take_h (h p t : List UInt8) (hh : h.length = 8) : (h ++ (p ++ t)).take 8 = h := by rw [← hh]; simp
theorem drop_t (h p t : List UInt8) (hh : h.length = 8) (hp : p.length = 16) : (h ++ (p ++ t)).drop 24 = t := by
  rw [← List.append_assoc, show 24 = (h ++ p).length from by simp [hh, hp], List.drop_left]
theorem drop_p (h p t : List UInt8) (hh : h.length = 8) (hp : p.length = 16) : ((h ++ (p ++ t)).drop 8).take 16 = p := by
  rw [show 8 = h.length from hh.symm, List.drop_left, ← hp, List.take_left]
/-- Open, part by part. -/
theorem opens_parts (h p t : List UInt8) (hh : h.length = 8) (hp : p.length = 16) (ht : t.length = 8) : opens (h ++ (p ++ t)) =
    if h = zeros 8 ∧ t = zeros 8 then (0, [], 5) else if h ≠ t ∨ isSt (val h) = false then (0, [], 8) else (val h, p, 0) := by
  unfold opens
  rw [if_neg (by simp [hh, hp, ht]), take_h h p t hh, drop_t h p t hh hp, drop_p h p t hh hp]

/-- Two arrays in blocks of the call's own. -/
def Two (w : World) (h t : Array Value) (s s' : Value) (wx : World) : Prop :=
  ∃ g1 g2, s = .pointer (some ⟨g1, 0, none⟩) ∧ s' = .pointer (some ⟨g2, 0, none⟩) ∧ wx.heap[g1]? = some (.cells h 89 (0, 0)) ∧ wx.heap[g2]? = some (.cells t 89 (0, 0)) ∧ Below w.heap.size w wx

theorem Two.drew {w wx : World} {h t : Array Value} {s s' : Value} (e : Two w h t s s' wx) : Two w h t s s' wx.drew := by
  obtain ⟨g1, g2, h1, h2, h3, h4, h5⟩ := e
  exact ⟨g1, g2, h1, h2, h3, h4, h5.drew⟩
theorem two_one (w : World) (h t : Array Value) : Two w h t (.pointer (some ⟨w.heap.size, 0, none⟩)) (.pointer (some ⟨w.heap.size + 1, 0, none⟩)) ((w.alloc (.cells h 89)).alloc (.cells t 89)) :=
  ⟨_, _, rfl, rfl, ((below_new (w.alloc _) _).block w.heap.size (by simp)).trans (heap_alloc_new _ _), heap_second _ _ _, ((Below.refl _ _).alloc (Nat.le_refl _) _).alloc (by simp) _⟩
theorem two_two (w : World) (h t : Array Value) : Two w h t (.pointer (some ⟨w.heap.size + 1, 0, none⟩)) (.pointer (some ⟨w.heap.size, 0, none⟩)) ((w.alloc (.cells t 89)).alloc (.cells h 89)) :=
  ⟨_, _, rfl, rfl, heap_second _ _ _, ((below_new (w.alloc _) _).block w.heap.size (by simp)).trans (heap_alloc_new _ _), ((Below.refl _ _).alloc (Nat.le_refl _) _).alloc (by simp) _⟩

set_option maxHeartbeats 8000000 in
theorem open_try (a0 a1 a2 a3 a4 a5 a6 a7 b0 b1 b2 b3 b4 b5 b6 b7 : UInt8) (p : List UInt8) (hp : p.length = 16) (ad : Addr) (c : Nat) (w : World) (hc : 32 ≤ (c : Int)) (hc2 : c ≤ 9223372036854775807) (hc3 : ¬ c = 24) (hlt : ad.block < w.heap.size)
   (c0 : w.cell? ad = some (.int .u8 (a0.toNat : Int)))
   (c1 : w.cell? ⟨ad.block, ad.off + 1, none⟩ = some (.int .u8 (a1.toNat : Int)))
   (c2 : w.cell? ⟨ad.block, ad.off + 2, none⟩ = some (.int .u8 (a2.toNat : Int)))
   (c3 : w.cell? ⟨ad.block, ad.off + 3, none⟩ = some (.int .u8 (a3.toNat : Int)))
   (c4 : w.cell? ⟨ad.block, ad.off + 4, none⟩ = some (.int .u8 (a4.toNat : Int)))
   (c5 : w.cell? ⟨ad.block, ad.off + 5, none⟩ = some (.int .u8 (a5.toNat : Int)))
   (c6 : w.cell? ⟨ad.block, ad.off + 6, none⟩ = some (.int .u8 (a6.toNat : Int)))
   (c7 : w.cell? ⟨ad.block, ad.off + 7, none⟩ = some (.int .u8 (a7.toNat : Int)))
   (d0 : w.cell? ⟨ad.block, ad.off + 24, none⟩ = some (.int .u8 (b0.toNat : Int)))
   (d1 : w.cell? ⟨ad.block, ad.off + 24 + 1, none⟩ = some (.int .u8 (b1.toNat : Int)))
   (d2 : w.cell? ⟨ad.block, ad.off + 24 + 2, none⟩ = some (.int .u8 (b2.toNat : Int)))
   (d3 : w.cell? ⟨ad.block, ad.off + 24 + 3, none⟩ = some (.int .u8 (b3.toNat : Int)))
   (d4 : w.cell? ⟨ad.block, ad.off + 24 + 4, none⟩ = some (.int .u8 (b4.toNat : Int)))
   (d5 : w.cell? ⟨ad.block, ad.off + 24 + 5, none⟩ = some (.int .u8 (b5.toNat : Int)))
   (d6 : w.cell? ⟨ad.block, ad.off + 24 + 6, none⟩ = some (.int .u8 (b6.toNat : Int)))
   (d7 : w.cell? ⟨ad.block, ad.off + 24 + 7, none⟩ = some (.int .u8 (b7.toNat : Int)))
   (hB : Bs w (fun _ => True) (.slice (some (ad.add 8)) 16 (c - 8)) p) :
    Calls Try.prog 40 #[.slice (some ad) 32 c] w (GivesO w (opens ([a0, a1, a2, a3, a4, a5, a6, a7] ++ (p ++ [b0, b1, b2, b3, b4, b5, b6, b7])))) := by
  have h8 : (8 : Int) ≤ c := by omega
  have ha := run_arrayAt_mark
  have HBS := Lib.hid hB
  have HP := Lib.hid hp
  clear hB hp
  generalize hR : opens ([a0, a1, a2, a3, a4, a5, a6, a7] ++ (p ++ [b0, b1, b2, b3, b4, b5, b6, b7])) = R
  have HR := Lib.hid hR
  clear hR
  go_enter Try.func40, Try.ntmps40
  go_upto_region 3 with fail
  go_cut [5, 6] (fun s s' wx => Two w #[.int .u8 (a0.toNat : Int), .int .u8 (a1.toNat : Int), .int .u8 (a2.toNat : Int), .int .u8 (a3.toNat : Int), .int .u8 (a4.toNat : Int), .int .u8 (a5.toNat : Int), .int .u8 (a6.toNat : Int), .int .u8 (a7.toNat : Int)] #[.int .u8 (b0.toNat : Int), .int .u8 (b1.toNat : Int), .int .u8 (b2.toNat : Int), .int .u8 (b3.toNat : Int), .int .u8 (b4.toNat : Int), .int .u8 (b5.toNat : Int), .int .u8 (b6.toNat : Int), .int .u8 (b7.toNat : Int)] s s' wx)
  case first =>
    go_region_held3 (fun w' => w'.cell? ad = some (.int .u8 (a0.toNat : Int)) ∧ w'.cell? ⟨ad.block, ad.off + 1, none⟩ = some (.int .u8 (a1.toNat : Int)) ∧ w'.cell? ⟨ad.block, ad.off + 2, none⟩ = some (.int .u8 (a2.toNat : Int)) ∧ w'.cell? ⟨ad.block, ad.off + 3, none⟩ = some (.int .u8 (a3.toNat : Int)) ∧ w'.cell? ⟨ad.block, ad.off + 4, none⟩ = some (.int .u8 (a4.toNat : Int)) ∧ w'.cell? ⟨ad.block, ad.off + 5, none⟩ = some (.int .u8 (a5.toNat : Int)) ∧ w'.cell? ⟨ad.block, ad.off + 6, none⟩ = some (.int .u8 (a6.toNat : Int)) ∧ w'.cell? ⟨ad.block, ad.off + 7, none⟩ = some (.int .u8 (a7.toNat : Int)) ∧ w'.cell? ⟨ad.block, ad.off + 24, none⟩ = some (.int .u8 (b0.toNat : Int)) ∧ w'.cell? ⟨ad.block, ad.off + 24 + 1, none⟩ = some (.int .u8 (b1.toNat : Int)) ∧ w'.cell? ⟨ad.block, ad.off + 24 + 2, none⟩ = some (.int .u8 (b2.toNat : Int)) ∧ w'.cell? ⟨ad.block, ad.off + 24 + 3, none⟩ = some (.int .u8 (b3.toNat : Int)) ∧ w'.cell? ⟨ad.block, ad.off + 24 + 4, none⟩ = some (.int .u8 (b4.toNat : Int)) ∧ w'.cell? ⟨ad.block, ad.off + 24 + 5, none⟩ = some (.int .u8 (b5.toNat : Int)) ∧ w'.cell? ⟨ad.block, ad.off + 24 + 6, none⟩ = some (.int .u8 (b6.toNat : Int)) ∧ w'.cell? ⟨ad.block, ad.off + 24 + 7, none⟩ = some (.int .u8 (b7.toNat : Int))) (first | go_keep) (fail)
    all_goals go_wp2_with fail
    all_goals go_meet
    all_goals (repeat (first | exact two_one _ _ _ | exact two_two _ _ _ | refine Two.drew ?_))
  case rest =>
    clear ha
    obtain ⟨g1, g2, rfl, rfl, hh1, hh2, hb⟩ := hcut
    have HB := Lib.hid hb
    have hz1 : g1 < wc.heap.size := (Array.getElem?_eq_some_iff.1 hh1).1
    have hz2 : g2 < wc.heap.size := (Array.getElem?_eq_some_iff.1 hh2).1
    have e0 : wc.cell? ⟨g1, 0, none⟩ = some (.int .u8 (a0.toNat : Int)) := cell_of_row wc _ 0 _ _ _ hh1
    have e1 : wc.cell? ⟨g1, 1, none⟩ = some (.int .u8 (a1.toNat : Int)) := cell_of_row wc _ 1 _ _ _ hh1
    have e2 : wc.cell? ⟨g1, 2, none⟩ = some (.int .u8 (a2.toNat : Int)) := cell_of_row wc _ 2 _ _ _ hh1
    have e3 : wc.cell? ⟨g1, 3, none⟩ = some (.int .u8 (a3.toNat : Int)) := cell_of_row wc _ 3 _ _ _ hh1
    have e4 : wc.cell? ⟨g1, 4, none⟩ = some (.int .u8 (a4.toNat : Int)) := cell_of_row wc _ 4 _ _ _ hh1
    have e5 : wc.cell? ⟨g1, 5, none⟩ = some (.int .u8 (a5.toNat : Int)) := cell_of_row wc _ 5 _ _ _ hh1
    have e6 : wc.cell? ⟨g1, 6, none⟩ = some (.int .u8 (a6.toNat : Int)) := cell_of_row wc _ 6 _ _ _ hh1
    have e7 : wc.cell? ⟨g1, 7, none⟩ = some (.int .u8 (a7.toNat : Int)) := cell_of_row wc _ 7 _ _ _ hh1
    have f0 : wc.cell? ⟨g2, 0, none⟩ = some (.int .u8 (b0.toNat : Int)) := cell_of_row wc _ 0 _ _ _ hh2
    have f1 : wc.cell? ⟨g2, 1, none⟩ = some (.int .u8 (b1.toNat : Int)) := cell_of_row wc _ 1 _ _ _ hh2
    have f2 : wc.cell? ⟨g2, 2, none⟩ = some (.int .u8 (b2.toNat : Int)) := cell_of_row wc _ 2 _ _ _ hh2
    have f3 : wc.cell? ⟨g2, 3, none⟩ = some (.int .u8 (b3.toNat : Int)) := cell_of_row wc _ 3 _ _ _ hh2
    have f4 : wc.cell? ⟨g2, 4, none⟩ = some (.int .u8 (b4.toNat : Int)) := cell_of_row wc _ 4 _ _ _ hh2
    have f5 : wc.cell? ⟨g2, 5, none⟩ = some (.int .u8 (b5.toNat : Int)) := cell_of_row wc _ 5 _ _ _ hh2
    have f6 : wc.cell? ⟨g2, 6, none⟩ = some (.int .u8 (b6.toNat : Int)) := cell_of_row wc _ 6 _ _ _ hh2
    have f7 : wc.cell? ⟨g2, 7, none⟩ = some (.int .u8 (b7.toNat : Int)) := cell_of_row wc _ 7 _ _ _ hh2
    clear hb hh1 hh2 c0 c1 c2 c3 c4 c5 c6 c7 d0 d1 d2 d3 d4 d5 d6 d7
    obtain ⟨z1, hz1'⟩ : ∃ z, z = decide ([a0, a1, a2, a3, a4, a5, a6, a7] = zeros 8) := ⟨_, rfl⟩
    obtain ⟨z2, hz2'⟩ : ∃ z, z = decide ([b0, b1, b2, b3, b4, b5, b6, b7] = zeros 8) := ⟨_, rfl⟩
    obtain ⟨q, hq⟩ : ∃ z, z = decide ([a0, a1, a2, a3, a4, a5, a6, a7] = [b0, b1, b2, b3, b4, b5, b6, b7]) := ⟨_, rfl⟩
    have r1 : ∀ W, (binOp .eql 89 (.agg #[.int .u8 (a0.toNat : Int), .int .u8 (a1.toNat : Int), .int .u8 (a2.toNat : Int), .int .u8 (a3.toNat : Int), .int .u8 (a4.toNat : Int), .int .u8 (a5.toNat : Int), .int .u8 (a6.toNat : Int), .int .u8 (a7.toNat : Int)]) (.agg #[.int .u8 0, .int .u8 0, .int .u8 0, .int .u8 0, .int .u8 0, .int .u8 0, .int .u8 0, .int .u8 0])).run Try.prog W = .ok (.bool z1) W := fun W => by rw [hz1']; exact run_eql_mark [a0, a1, a2, a3, a4, a5, a6, a7] (zeros 8) rfl rfl W
    have r2 : ∀ W, (binOp .eql 89 (.agg #[.int .u8 (b0.toNat : Int), .int .u8 (b1.toNat : Int), .int .u8 (b2.toNat : Int), .int .u8 (b3.toNat : Int), .int .u8 (b4.toNat : Int), .int .u8 (b5.toNat : Int), .int .u8 (b6.toNat : Int), .int .u8 (b7.toNat : Int)]) (.agg #[.int .u8 0, .int .u8 0, .int .u8 0, .int .u8 0, .int .u8 0, .int .u8 0, .int .u8 0, .int .u8 0])).run Try.prog W = .ok (.bool z2) W := fun W => by rw [hz2']; exact run_eql_mark [b0, b1, b2, b3, b4, b5, b6, b7] (zeros 8) rfl rfl W
    have r3 : ∀ W, (binOp .neq 89 (.agg #[.int .u8 (a0.toNat : Int), .int .u8 (a1.toNat : Int), .int .u8 (a2.toNat : Int), .int .u8 (a3.toNat : Int), .int .u8 (a4.toNat : Int), .int .u8 (a5.toNat : Int), .int .u8 (a6.toNat : Int), .int .u8 (a7.toNat : Int)]) (.agg #[.int .u8 (b0.toNat : Int), .int .u8 (b1.toNat : Int), .int .u8 (b2.toNat : Int), .int .u8 (b3.toNat : Int), .int .u8 (b4.toNat : Int), .int .u8 (b5.toNat : Int), .int .u8 (b6.toNat : Int), .int .u8 (b7.toNat : Int)])).run Try.prog W = .ok (.bool (!q)) W := fun W => by rw [hq]; exact run_neq_mark [a0, a1, a2, a3, a4, a5, a6, a7] [b0, b1, b2, b3, b4, b5, b6, b7] rfl rfl W
    have HZ1 := Lib.hid hz1'
    have HZ2 := Lib.hid hz2'
    have HQ := Lib.hid hq
    have HST := Lib.hid (fun W => stamp_any a0 a1 a2 a3 a4 a5 a6 a7 W)
    clear hz1' hz2' hq
    cases z1
    · clear r2
      cases q
      · go_wp2_with fail
        refine (HST.out _).mono ?_
        rintro e w1 ⟨rfl, hb1⟩
        obtain ⟨hcl, hfr⟩ := old_cells hb1
        have HB1 := Lib.hid hb1
        clear hb1
        go_wp2_with fail
        go_ret3
        refine open_torn ?_ (HB.out.trans (((below_new wc _).trans (HB1.out.mono (by simp))).mono HB.out.size))
        have h1 := of_decide_eq_false HZ1.out.symm
        have h2 := of_decide_eq_false HQ.out.symm
        rw [← HR.out, opens_parts _ _ _ rfl HP.out rfl, if_neg (fun h => h1 h.1), if_pos (.inl h2)]
      · have hst := fun W => isStamp_any (val [a0, a1, a2, a3, a4, a5, a6, a7]) W
        generalize hv : val [a0, a1, a2, a3, a4, a5, a6, a7] = n at *
        cases hs : isSt n
        · rw [hs] at hst
          have HIS := Lib.hid hst
          have HS := Lib.hid hs
          have HV := Lib.hid hv
          clear hst hs hv
          go_wp2_with fail
          refine (HST.out _).mono ?_
          rintro e w1 ⟨rfl, hb1⟩
          obtain ⟨hcl, hfr⟩ := old_cells hb1
          have HB1 := Lib.hid hb1
          clear hb1
          go_wp2_with fail
          refine (HIS.out _).mono ?_
          rintro e w2 ⟨rfl, rfl⟩
          go_wp2_with fail
          go_ret3
          refine open_torn ?_ (HB.out.trans (((below_new wc _).trans (HB1.out.mono (by simp))).mono HB.out.size))
          have h1 := of_decide_eq_false HZ1.out.symm
          rw [← HR.out, opens_parts _ _ _ rfl HP.out rfl, if_neg (fun h => h1 h.1), if_pos (.inr (by rw [HV.out]; exact HS.out))]
        · rw [hs] at hst
          have HIS := Lib.hid hst
          have HS := Lib.hid hs
          have HV := Lib.hid hv
          clear hst hs hv
          have t24 : (24 : Int) ≤ c := by omega
          go_wp2_with fail
          refine (HST.out _).mono ?_
          rintro e w1 ⟨rfl, hb1⟩
          obtain ⟨hcl, hfr⟩ := old_cells hb1
          have hbw : Below w.heap.size w w1 := HB.out.trans (((below_new wc _).trans (hb1.mono (by simp))).mono HB.out.size)
          have HBW := Lib.hid hbw
          clear hb1 hbw
          go_wp2_with fail
          refine (HIS.out _).mono ?_
          rintro e w2 ⟨rfl, rfl⟩
          go_wp2_with fail
          refine (bclone_any _ p _ (HBS.out.below HBW.out) (by rw [HP.out]; omega)).mono ?_
          rintro e w3 ⟨v3, rfl, hown, hb3⟩
          have HO := Lib.hid hown
          have HB3 := Lib.hid hb3
          clear hown hb3
          go_wp2_with fail
          go_ret3
          have h1 := of_decide_eq_false HZ1.out.symm
          have h2 := of_decide_eq_true HQ.out.symm
          have e : R = (n, p, 0) := by
            rw [← HR.out, opens_parts _ _ _ rfl HP.out rfl, if_neg (fun h => h1 h.1), if_neg (by rw [HV.out, HS.out]; simpa using h2), HV.out]
          subst e
          exact ⟨_, rfl, own_mono HO.out HBW.out.size, HBW.out.trans (HB3.out.mono HBW.out.size)⟩
    · cases z2
      · have hq' : q = false := by
          have h1 := of_decide_eq_true HZ1.out.symm
          have h2 := of_decide_eq_false HZ2.out.symm
          rw [HQ.out]
          exact decide_eq_false fun h => h2 (h ▸ h1)
        subst hq'
        go_wp2_with fail
        refine (HST.out _).mono ?_
        rintro e w1 ⟨rfl, hb1⟩
        obtain ⟨hcl, hfr⟩ := old_cells hb1
        have HB1 := Lib.hid hb1
        clear hb1
        go_wp2_with fail
        go_ret3
        refine open_torn ?_ (HB.out.trans (((below_new wc _).trans (HB1.out.mono (by simp))).mono HB.out.size))
        have h1 := of_decide_eq_false HZ2.out.symm
        have h2 := of_decide_eq_false HQ.out.symm
        rw [← HR.out, opens_parts _ _ _ rfl HP.out rfl, if_neg (fun h => h1 h.2), if_pos (.inl h2)]
      · go_wp2_with fail
        go_ret3
        refine open_torn ?_ (HB.out.trans ((below_new wc _).mono HB.out.size))
        have h1 := of_decide_eq_true HZ1.out.symm
        have h2 := of_decide_eq_true HZ2.out.symm
        rw [← HR.out, opens_parts _ _ _ rfl HP.out rfl, if_pos ⟨h1, h2⟩]

theorem eight_of {l : List UInt8} (h : l.length = 8) : ∃ a0 a1 a2 a3 a4 a5 a6 a7, l = [a0, a1, a2, a3, a4, a5, a6, a7] := by
  match l, h with
  | [x0, x1, x2, x3, x4, x5, x6, x7], _ => exact ⟨_, _, _, _, _, _, _, _, rfl⟩

theorem sector_parts (b : List UInt8) (h : b.length = 32) : ∃ a0 a1 a2 a3 a4 a5 a6 a7 p b0 b1 b2 b3 b4 b5 b6 b7, b = [a0, a1, a2, a3, a4, a5, a6, a7] ++ (p ++ [b0, b1, b2, b3, b4, b5, b6, b7]) ∧ p.length = 16 := by
  obtain ⟨a0, a1, a2, a3, a4, a5, a6, a7, h1⟩ := eight_of (l := b.take 8) (by simp; omega)
  obtain ⟨b0, b1, b2, b3, b4, b5, b6, b7, h2⟩ := eight_of (l := b.drop 24) (by simp; omega)
  refine ⟨a0, a1, a2, a3, a4, a5, a6, a7, (b.drop 8).take 16, b0, b1, b2, b3, b4, b5, b6, b7, ?_, by simp; omega⟩
  rw [← h1, ← h2]
  have e : b.drop 24 = (b.drop 8).drop 16 := by rw [List.drop_drop]
  rw [e, List.take_append_drop, List.take_append_drop]

theorem cells_drop {w : World} {S : Nat → Prop} {A : Addr} {l m p : List UInt8} {n : Nat} (h : ∀ (i : Nat) (x : UInt8), (l ++ (p ++ m))[i]? = some x → w.cell? (A.add i) = some (.int .u8 (x.toNat : Int))) (hn : l.length = n) (hS : S A.block) : Cells w S (some (A.add n)) (octets p) := by
  refine fun _ => ⟨_, rfl, by rw [add_block]; exact hS, fun j u hu => ?_⟩
  simp only [octets, List.getElem?_map, Option.map_eq_some_iff] at hu
  obtain ⟨x, hx, rfl⟩ := hu
  rw [add_add]
  refine h (n + j) x ?_
  rw [List.getElem?_append_right (by omega), hn, Nat.add_sub_cancel_left, List.getElem?_append_left (List.getElem?_eq_some_iff.1 hx).1]
  exact hx

set_option maxHeartbeats 800000 in
theorem open_any (v : Value) (b : List UInt8) (w : World) (h : Bs w (fun _ => True) v b) :
    Calls Try.prog 40 #[v] w (GivesO w (opens b)) := by
  obtain ⟨A, c, rfl, hc1, hc2, hc3, hc⟩ := h
  unfold maxLen at hc2
  by_cases hl : b.length = 32
  · obtain ⟨ad, rfl, hcell⟩ := eight_cells hc hl
    rw [hl] at hc1 ⊢
    have hlt : ad.block < w.heap.size := by
      have := World.block_lt_of_cell? w _ (hcell 0 _ (List.getElem?_eq_getElem (by omega)))
      rwa [add_block] at this
    obtain ⟨a0, a1, a2, a3, a4, a5, a6, a7, p, b0, b1, b2, b3, b4, b5, b6, b7, hb, hp⟩ := sector_parts b hl
    rw [hb] at hcell ⊢
    have ht : ∀ (i : Nat) (x : UInt8), [b0, b1, b2, b3, b4, b5, b6, b7][i]? = some x → w.cell? ⟨ad.block, ad.off + 24 + i, none⟩ = some (.int .u8 (x.toNat : Int)) := fun i x hx => by
      have h1 := hcell (24 + i) x (by rw [← List.append_assoc, List.getElem?_append_right (by simp [hp]), show 24 + i - ([a0, a1, a2, a3, a4, a5, a6, a7] ++ p).length = i from by simp [hp]]; exact hx)
      have e : ad.add (24 + i) = ⟨ad.block, ad.off + 24 + i, none⟩ := by unfold Addr.add; rw [if_neg (by omega), Nat.add_assoc]
      rwa [e] at h1
    exact open_try a0 a1 a2 a3 a4 a5 a6 a7 b0 b1 b2 b3 b4 b5 b6 b7 p hp ad c w (by omega) hc2 (by omega) hlt (by simpa [Addr.add] using hcell 0 a0 rfl) (hcell 1 a1 rfl) (hcell 2 a2 rfl) (hcell 3 a3 rfl) (hcell 4 a4 rfl) (hcell 5 a5 rfl) (hcell 6 a6 rfl) (hcell 7 a7 rfl) (ht 0 b0 rfl) (ht 1 b1 rfl) (ht 2 b2 rfl) (ht 3 b3 rfl) (ht 4 b4 rfl) (ht 5 b5 rfl) (ht 6 b6 rfl) (ht 7 b7 rfl)
      ⟨some (ad.add 8), c - 8, by rw [hp], by omega, by unfold maxLen; omega, (fun h => by cases h), cells_drop hcell rfl trivial⟩
  · have HE := Lib.hid (show opens b = (0, [], 1) by simp [opens, hl])
    have t1 : ((b.length : Int) != 32) = true := by simp; omega
    have HN := Lib.hid (World.ownsRow_nil w w.heap.size 5 1)
    clear hl hc hc3
    generalize b.length = N at *
    go_enter Try.func40, Try.ntmps40
    go_wp2_with fail
    go_ret3
    exact ⟨_, by rw [HE.out]; rfl, by rw [HE.out]; exact HN.out, Below.refl _ _⟩

end Go.Proofs.Ytikobhckkbicaaa
