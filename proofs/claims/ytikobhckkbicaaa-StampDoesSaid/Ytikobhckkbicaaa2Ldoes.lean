/- The law StampDoes, walked. -/
import Derived.Test.Ytikobhckkbicaaa2G
namespace Go.Proofs.Ytikobhckkbicaaa
open Go.RowKit Sk

/-- The octets of a slice of the call's own, each of which may be written. -/
def Bump (B : Nat) (wr : World) (A : Option Addr) (n : Nat) : Prop := ∀ j, j < n → ∃ ad y, A = some ad ∧ B ≤ ad.block ∧ wr.cell? (ad.add j) = some (.int .u8 y) ∧ wr.frozen? (ad.add j) = false

theorem Bump.set {B : Nat} {wr : World} {A : Option Addr} {n : Nat} (h : Bump B wr A n) (p : Addr) (y : Int) : Bump B (wr.setCell p (.int .u8 y)) A n := fun j hj => by
  obtain ⟨ad, z, h1, h2, h3, h4⟩ := h j hj
  by_cases hp : p = ad.add j
  · exact ⟨ad, y, h1, h2, by rw [hp]; exact World.cell?_setCell_same _ _ _ h3, by simpa using h4⟩
  · exact ⟨ad, z, h1, h2, by rw [World.cell?_setCell_other _ _ _ _ hp]; exact h3, by simpa using h4⟩
theorem Bump.below {B : Nat} {wr w' : World} {A : Option Addr} {n : Nat} (h : Bump B wr A n) (hb : Below wr.heap.size wr w') : Bump B w' A n := fun j hj => by
  obtain ⟨ad, z, h1, h2, h3, h4⟩ := h j hj
  have hl := World.block_lt_of_cell? wr _ h3
  exact ⟨ad, z, h1, h2, (hb.cell hl).trans h3, (hb.frozen hl).trans h4⟩
theorem Bump.of_own {B n c : Nat} {wr : World} {A : Option Addr} {l : List UInt8} (h : wr.ownsRow B 5 1 (.slice A n c) n (octets l)) : Bump B wr A n := fun j hj => by
  rcases h.2 with ⟨_, h0⟩ | ⟨g, cap, cur, he, hg, hh, hc, hm, hs, ht⟩
  · omega
  · injection he with e1
    subst e1
    obtain ⟨ad, e, _, hcell⟩ := own_cells (S := fun _ => True) h (fun _ _ => trivial) (by have := h.1; omega)
    injection e with e
    subst e
    have hl : j < l.length := by have := h.1; rw [octets_length] at this; omega
    refine ⟨_, _, rfl, hg, hcell j _ (octets_at (List.getElem?_eq_getElem hl)), ?_⟩
    have e : (⟨g, 0, none⟩ : Addr).add j = ⟨g, j, none⟩ := by unfold Addr.add; split <;> simp_all
    rw [e]
    simp [World.frozen?, hh]

/-- Octets of the call's own and an error, as a caller reads and writes them. -/
theorem gives_own {w : World} {l : List UInt8} {k : Int} {e : Ending} {w' : World} (h : GivesRE w (l, k) e w') : ∃ A c, e = .returned (.tuple #[.slice A l.length c, .int .i64 k]) ∧ Bs w' (fun _ => True) (.slice A l.length c) l ∧ Bump w.heap.size w' A l.length ∧ Below w.heap.size w w' := by
  obtain ⟨v, he, ho, hb⟩ := h
  dsimp only at he ho
  obtain ⟨A, c, rfl⟩ := own_slice ho
  exact ⟨A, c, he, Bs.of_own ho fun _ _ => trivial, Bump.of_own ho, hb⟩
theorem gives_o_own {w : World} {n : Int} {l : List UInt8} {k : Int} {e : Ending} {w' : World} (h : GivesO w (n, l, k) e w') : ∃ A c, e = .returned (.tuple #[.int .i64 n, .slice A l.length c, .int .i64 k]) ∧ Bs w' (fun _ => True) (.slice A l.length c) l ∧ Bump w.heap.size w' A l.length ∧ Below w.heap.size w w' := by
  obtain ⟨v, he, ho, hb⟩ := h
  dsimp only at he ho
  obtain ⟨A, c, rfl⟩ := own_slice ho
  exact ⟨A, c, he, Bs.of_own ho fun _ _ => trivial, Bump.of_own ho, hb⟩
theorem Bump.mono {B B' : Nat} {wr : World} {A : Option Addr} {n : Nat} (h : Bump B wr A n) (hb : B' ≤ B) : Bump B' wr A n := fun j hj => by
  obtain ⟨ad, z, h1, h2, h3, h4⟩ := h j hj
  exact ⟨ad, z, h1, by omega, h3, h4⟩

set_option maxRecDepth 10000 in
set_option maxHeartbeats 4000000 in
theorem stampDoes_any (vp vb vo : Value) (p b o : List UInt8) (n many g a : Int) (w : World) (hn : -9223372036854775808 ≤ n ∧ n ≤ 9223372036854775807) (hp : Bs w (fun _ => True) vp p) (hb : Bs w (fun _ => True) vb b) (ho : Bs w (fun _ => True) vo o) :
    Calls Try.prog 10 #[.int .i64 n, vp, vb, vo, .int .i64 many, .int .i64 g, .int .i64 a] w (True_ w) := by
  have HP := Lib.hid hp
  have HB := Lib.hid hb
  have HO := Lib.hid ho
  obtain ⟨A, c, rfl, _, _, _⟩ := hp
  obtain ⟨A', c', rfl, _, _, _⟩ := hb
  obtain ⟨A'', c'', rfl, _, _, _⟩ := ho
  by_cases hl : p.length ≤ 200 ∧ b.length ≤ 200 ∧ o.length ≤ 200
  · obtain ⟨l1, l2, l3⟩ := hl
    have t1 : decide (200 < (p.length : Int)) = false := by simp; omega
    have t2 : decide (200 < (b.length : Int)) = false := by simp; omega
    have t3 : decide (200 < (o.length : Int)) = false := by simp; omega
    have HS1 := Lib.hid (fun W (hw : Below w.heap.size w W) => seal_any n _ p W (HP.out.below hw))
    have HS2 := Lib.hid (fun W (hw : Below w.heap.size w W) => refSeal_any n _ p W (HP.out.below hw))
    have HO1 := Lib.hid (fun W (hw : Below w.heap.size w W) => open_any _ b W (HB.out.below hw))
    have HO2 := Lib.hid (fun W (hw : Below w.heap.size w W) => refOpen_any _ b W (HB.out.below hw))
    have HM1 := Lib.hid (fun W (hw : Below w.heap.size w W) => mix_any _ _ b o many W (HB.out.below hw) (HO.out.below hw))
    have HM2 := Lib.hid (fun W (hw : Below w.heap.size w W) => refMix_any _ _ b o many W (HB.out.below hw) (HO.out.below hw))
    have HP1 := Lib.hid (fun W => pair_any g a W)
    have HP2 := Lib.hid (fun W => refPair_any g a W)
    have HT1 := Lib.hid (fun W => part_any n W hn.1 hn.2)
    have HT2 := Lib.hid (fun W => refPart_any n W hn.1 hn.2)
    have HTX := Lib.hid (fun W (hw : Below w.heap.size w W) => run_text (HB.out.below hw))
    generalize seal_ n p = r1 at *
    generalize opens b = r2 at *
    generalize mix b o many = r3 at *
    generalize pair g a = r4 at *
    generalize unpair n = r5 at *
    obtain ⟨X, e1⟩ := r1
    obtain ⟨m, C, e2⟩ := r2
    obtain ⟨M, e3⟩ := r3
    obtain ⟨u, e4⟩ := r4
    obtain ⟨q1, q2, e5⟩ := r5
    clear hn l1 l2 l3
    generalize p.length = N1 at *
    generalize b.length = N2 at *
    generalize o.length = N3 at *
    go_enter Try.func10, Try.ntmps10
    go_wp2_with fail
    refine (live2_any _).mono ?_
    rintro e w1 ⟨rfl, hb1⟩
    have tx1 := HTX.out _ hb1
    have HB1 := Lib.hid hb1
    clear hb1
    go_wp2_with fail
    clear tx1
    refine (HS1.out _ HB1.out).mono ?_
    intro e w2 hg
    obtain ⟨A2, c2, rfl, hs2, hb2⟩ := gives_re hg
    generalize hX : X.length = NX at *
    have HB2 := Lib.hid (HB1.out.trans (hb2.mono HB1.out.size))
    have HX2 := Lib.hid hs2
    have HXN := Lib.hid hX
    clear hg hs2 hb2 hX
    go_wp2_with fail
    refine (HS2.out _ HB2.out).mono ?_
    intro e w3 hg
    obtain ⟨A3, c3, rfl, hs3, hb3⟩ := gives_re hg
    rw [HXN.out] at hs3 ⊢
    have HB3 := Lib.hid (HB2.out.trans (hb3.mono HB2.out.size))
    have HX2 := Lib.hid (HX2.out.below hb3)
    have HX3 := Lib.hid hs3
    clear hg hs3 hb3
    go_wp2_with fail
    refine (HO1.out _ HB3.out).mono ?_
    intro e w4 hg
    obtain ⟨A4, c4, rfl, hs4, hu4, hb4⟩ := gives_o_own hg
    generalize hC : C.length = NC at *
    have HCN := Lib.hid hC
    have HU4 := Lib.hid (hu4.mono HB3.out.size)
    have HB4 := Lib.hid (HB3.out.trans (hb4.mono HB3.out.size))
    have HX2 := Lib.hid (HX2.out.below hb4)
    have HX3 := Lib.hid (HX3.out.below hb4)
    have hn4 : NC ≤ 9223372036854775807 := by have := hs4.caps; omega
    have HX4 := Lib.hid hs4
    clear hg hs4 hb4 hu4 hC
    go_wp2_with fail
    refine (HO2.out _ HB4.out).mono ?_
    intro e w5 hg
    obtain ⟨A5, c5, rfl, hs5, hb5⟩ := gives_o hg
    rw [HCN.out] at hs5 ⊢
    have HU4 := Lib.hid (HU4.out.below hb5)
    have HB5 := Lib.hid (HB4.out.trans (hb5.mono HB4.out.size))
    have HX2 := Lib.hid (HX2.out.below hb5)
    have HX3 := Lib.hid (HX3.out.below hb5)
    have HX4 := Lib.hid (HX4.out.below hb5)
    have HX5 := Lib.hid hs5
    clear hg hs5 hb5
    go_wp2_with fail
    refine (HM1.out _ HB5.out).mono ?_
    intro e w6 hg
    obtain ⟨A6, c6, rfl, hs6, hu6, hb6⟩ := gives_own hg
    generalize hM : M.length = NM at *
    have HMN := Lib.hid hM
    have HU4 := Lib.hid (HU4.out.below hb6)
    have HU6 := Lib.hid (hu6.mono HB5.out.size)
    have HB6 := Lib.hid (HB5.out.trans (hb6.mono HB5.out.size))
    have HX2 := Lib.hid (HX2.out.below hb6)
    have HX3 := Lib.hid (HX3.out.below hb6)
    have HX4 := Lib.hid (HX4.out.below hb6)
    have HX5 := Lib.hid (HX5.out.below hb6)
    have hn6 : NM ≤ 9223372036854775807 := by have := hs6.caps; omega
    have HX6 := Lib.hid hs6
    clear hg hs6 hb6 hu6 hM
    go_wp2_with fail
    refine (HM2.out _ HB6.out).mono ?_
    intro e w7 hg
    obtain ⟨A7, c7, rfl, hs7, hb7⟩ := gives_re hg
    rw [HMN.out] at hs7 ⊢
    have HU4 := Lib.hid (HU4.out.below hb7)
    have HU6 := Lib.hid (HU6.out.below hb7)
    have HB7 := Lib.hid (HB6.out.trans (hb7.mono HB6.out.size))
    have HX2 := Lib.hid (HX2.out.below hb7)
    have HX3 := Lib.hid (HX3.out.below hb7)
    have HX4 := Lib.hid (HX4.out.below hb7)
    have HX5 := Lib.hid (HX5.out.below hb7)
    have HX6 := Lib.hid (HX6.out.below hb7)
    have HX7 := Lib.hid hs7
    clear hg hs7 hb7
    go_wp2_with fail
    refine (HP1.out _).mono ?_
    rintro e w9 ⟨rfl, rfl⟩
    go_wp2_with fail
    refine (HP2.out _).mono ?_
    rintro e w9 ⟨rfl, rfl⟩
    go_wp2_with fail
    refine (HT1.out _).mono ?_
    rintro e w9 ⟨rfl, rfl⟩
    go_wp2_with fail
    refine (HT2.out _).mono ?_
    rintro e w9 ⟨rfl, rfl⟩
    go_wp2_with fail
    refine (sameBytes_any _ _ X X _ HX2.out HX3.out).mono ?_
    rw [decide_eq_true rfl]
    rintro e w9 ⟨rfl, rfl⟩
    go_wp2_with fail
    refine (sameBytes_any _ _ C C _ HX4.out HX5.out).mono ?_
    rw [decide_eq_true rfl]
    rintro e w9 ⟨rfl, rfl⟩
    go_wp2_with fail
    refine (sameBytes_any _ _ M M _ HX6.out HX7.out).mono ?_
    rw [decide_eq_true rfl]
    rintro e w9 ⟨rfl, rfl⟩
    clear HX2 HX3 HX4 HX5 HX6 HX7
    go_wp2_with fail
    go_loopw [185] (fun i wr => ∃ k : Nat, k ≤ NC ∧ i = .int .i64 (k : Int) ∧ Below w.heap.size w wr ∧ Bump w.heap.size wr A4 NC ∧ Bump w.heap.size wr A6 NM) (fun i _ => NC - (intOf i).toNat)
    case atStart => exact ⟨0, by omega, rfl, HB7.out, HU4.out, HU6.out⟩
    case round =>
      obtain ⟨k, hk, rfl, hbe, hu4, hu6⟩ := hrel
      have HBE := Lib.hid hbe
      have HU4 := Lib.hid hu4
      have HU6 := Lib.hid hu6
      clear hbe hu4 hu6
      by_cases hlt : k < NC
      · obtain ⟨ad, y, rfl, had, hc, hf⟩ := HU4.out k hlt
        have HAD := Lib.hid had
        clear had
        go_wp2_with fail
        refine ⟨⟨k + 1, by omega, by go_num, HBE.out.setCell (by rw [add_block]; exact HAD.out) _, HU4.out.set _ _, HU6.out.set _ _⟩, by simp [intOf]; omega⟩
      · clear HU4
        obtain ⟨wo, rfl⟩ : ∃ wo : World, wo = wr := ⟨_, rfl⟩
        go_wp2_with fail
        go_loopw [197] (fun i wr => ∃ k : Nat, k ≤ NM ∧ i = .int .i64 (k : Int) ∧ Below w.heap.size w wr ∧ Bump w.heap.size wr A6 NM) (fun i _ => NM - (intOf i).toNat)
        case atStart => exact ⟨0, by omega, rfl, HBE.out, HU6.out⟩
        case round =>
          obtain ⟨k, hk, rfl, hbe, hu6⟩ := hrel
          have HBE := Lib.hid hbe
          have HU6 := Lib.hid hu6
          clear hbe hu6
          by_cases hlt : k < NM
          · obtain ⟨ad, y, rfl, had, hc, hf⟩ := HU6.out k hlt
            have HAD := Lib.hid had
            clear had
            go_wp2_with fail
            refine ⟨⟨k + 1, by omega, by go_num, HBE.out.setCell (by rw [add_block]; exact HAD.out) _, HU6.out.set _ _⟩, by simp [intOf]; omega⟩
          · have tx := HTX.out _ HBE.out
            go_wp2_with fail
            go_ret
            exact ⟨rfl, HBE.out⟩
  · have key : decide (200 < (p.length : Int)) = true ∨ (decide (200 < (p.length : Int)) = false ∧ decide (200 < (b.length : Int)) = true) ∨ (decide (200 < (p.length : Int)) = false ∧ decide (200 < (b.length : Int)) = false ∧ decide (200 < (o.length : Int)) = true) := by
      by_cases h1 : 200 < (p.length : Int)
      · exact .inl (by simpa using h1)
      · by_cases h2 : 200 < (b.length : Int)
        · exact .inr (.inl ⟨by simp; omega, by simpa using h2⟩)
        · exact .inr (.inr ⟨by simp; omega, by simp; omega, by simp; omega⟩)
    clear hl hn
    generalize p.length = N1 at *
    generalize b.length = N2 at *
    generalize o.length = N3 at *
    rcases key with t1 | ⟨t1, t2⟩ | ⟨t1, t2, t3⟩
    all_goals
      go_enter Try.func10, Try.ntmps10
      go_wp2_with fail
      refine (live2_any _).mono ?_
      rintro e w1 ⟨rfl, hb1⟩
      have HB1 := Lib.hid hb1
      clear hb1
      go_wp2_with fail
      go_ret
      exact ⟨rfl, HB1.out⟩

end Go.Proofs.Ytikobhckkbicaaa
