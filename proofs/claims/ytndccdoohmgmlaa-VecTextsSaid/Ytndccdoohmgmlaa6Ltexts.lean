/- The law VecTexts, walked. -/
import Derived.Test.Ytndccdoohmgmlaa6L
import Derived.Test.Ytndccdoohmgmlaa6F
namespace Go.Proofs.Ytndccdoohmgmlaa
open Go.RowKit Pk Vc

theorem gives_vec {w : World} {l : List Int} {k : Int} {e : Ending} {w' : World} (h : GivesV w (l, k) e w') : ∃ A c, e = .returned (.tuple #[.slice A l.length c, .int .i64 k]) ∧ w'.ownsRow w.heap.size 36 1 (.slice A l.length c) l.length (nshorts l) ∧ Vs w' (fun _ => True) (.slice A l.length c) l ∧ Below w.heap.size w w' := by
  obtain ⟨v, he, ho, hb⟩ := h
  dsimp only at he ho
  obtain ⟨A, c, rfl⟩ := own_slice ho
  exact ⟨A, c, he, ho, Vs.of_own ho fun _ _ => trivial, hb⟩

/-- A block of numbers of sixteen bits. -/
def Nums16 (w : World) (g L : Nat) : Prop := ∃ cur, w.heap[g]? = some (.cells cur 36 (0, 0)) ∧ ∀ k, k < L → ∃ x : Int, cur[k]? = some (.int .i16 x)
theorem Nums16.cell {w : World} {g L : Nat} (h : Nums16 w g L) {k : Nat} (hk : k < L) : ∃ x : Int, w.cell? ⟨g, k, none⟩ = some (.int .i16 x) ∧ w.frozen? ⟨g, k, none⟩ = false := by
  obtain ⟨cur, h1, h2⟩ := h
  obtain ⟨x, hx⟩ := h2 k hk
  exact ⟨x, (cell_of_row w _ k _ _ _ h1).trans hx, by simp [World.frozen?, h1]⟩
theorem Nums16.set {w : World} {g L : Nat} (h : Nums16 w g L) (j : Nat) (y : Int) : Nums16 (w.setCell ⟨g, j, none⟩ (.int .i16 y)) g L := by
  obtain ⟨cur, h1, h2⟩ := h
  refine ⟨_, blk_set h1 _ _, fun k hk => ?_⟩
  obtain ⟨x, hx⟩ := h2 k hk
  rw [Array.getElem?_setIfInBounds]
  split
  · rename_i e
    subst e
    have := (Array.getElem?_eq_some_iff.1 hx).1
    rw [if_pos this]
    exact ⟨y, rfl⟩
  · exact ⟨x, hx⟩
theorem Nums16.below {w w' : World} {g L : Nat} (h : Nums16 w g L) (hb : Below w.heap.size w w') : Nums16 w' g L := by
  obtain ⟨cur, h1, h2⟩ := h
  exact ⟨cur, (hb.block g (Array.getElem?_eq_some_iff.1 h1).1).trans h1, h2⟩
theorem nums16_own {w : World} {base L c : Nat} {A : Option Addr} {l : List Int} (hl : l.length = L) (h : w.ownsRow base 36 1 (.slice A L c) L (nshorts l)) : (A = none ∧ L = 0 ∧ c = 0) ∨ ∃ g, A = some ⟨g, 0, none⟩ ∧ base ≤ g ∧ Nums16 w g L := by
  rcases h.2 with ⟨he, h0⟩ | ⟨g, cap, cur, he, hg, hh, hc, hm, hs, ht⟩
  · injection he with e1 e2 e3
    exact .inl ⟨e1, h0, e3⟩
  · injection he with e1 e2 e3
    refine .inr ⟨g, e1, hg, cur, hh, fun k hk => ?_⟩
    obtain ⟨x, hx⟩ : ∃ x, l[k]? = some x := ⟨_, List.getElem?_eq_getElem (by omega)⟩
    have h1 := nshorts_at hx
    rw [← ht, List.getElem?_take] at h1
    split at h1
    · exact ⟨x, by rw [← Array.getElem?_toList]; exact h1⟩
    · cases h1

set_option maxRecDepth 10000 in
set_option maxHeartbeats 4000000 in
theorem vecTexts_any (va vb : Value) (a : List Int) (b : List UInt8) (w : World) (ha : Vs w (fun _ => True) va a) (hb : Bs w (fun _ => True) vb b) (sa : Small a) :
    Calls Try.prog 4 #[va, vb] w (True_ w) := by
  have HLIVE := Lib.hid (live4_any w)
  have HA := Lib.hid ha
  have HB := Lib.hid hb
  obtain ⟨A, c, rfl, hc1, hc2, _⟩ := ha
  obtain ⟨A', c', rfl, hc1', hc2', _⟩ := hb
  unfold maxLen at hc2 hc2'
  by_cases hlen : (500 : Int) < (a.length : Int) ∨ (¬ (500 : Int) < (a.length : Int) ∧ (1000 : Int) < (b.length : Int))
  · clear HA HB sa
    generalize a.length = M at *
    generalize b.length = N at *
    rcases hlen with h1 | ⟨h1, h2⟩
    all_goals
      go_enter Try.func4, Try.ntmps4
      go_wp2_with fail
      refine HLIVE.out.mono ?_
      rintro e w1 ⟨rfl, hb1⟩
      have HB1 := Lib.hid hb1
      clear hb1
      go_wp2_with fail
      go_ret
      exact ⟨rfl, HB1.out⟩
  · have g1 : a.length ≤ 500 := by omega
    have g2 : b.length ≤ 1000 := by omega
    clear hlen
    have H1 := Lib.hid (fun W (h : Below w.heap.size w W) => bytes_any _ a W (HA.out.below h) sa)
    have H2 := Lib.hid (fun W (h : Below w.heap.size w W) => refBytes_any _ a W (HA.out.below h) sa)
    have H3 := Lib.hid (fun W (h : Below w.heap.size w W) => from_any _ b W (HB.out.below h) (by omega))
    have H4 := Lib.hid (fun W (h : Below w.heap.size w W) => refFrom_any _ b W (HB.out.below h) (by omega))
    obtain ⟨T, k, hT⟩ : ∃ T k, bts a = (T, k) := ⟨_, _, rfl⟩
    obtain ⟨l, q, hl⟩ : ∃ l q, frm b = (l, q) := ⟨_, _, rfl⟩
    rw [hT] at H1 H2
    rw [hl] at H3 H4
    clear hT hl sa HA
    generalize a.length = M at *
    generalize b.length = N at *
    go_enter Try.func4, Try.ntmps4
    go_wp2_with fail
    refine HLIVE.out.mono ?_
    rintro e w1 ⟨rfl, hb1⟩
    have z1 := run_text (HB.out.below hb1)
    have HB1 := Lib.hid hb1
    clear hb1
    go_wp2_with fail
    refine (H1.out _ HB1.out).mono ?_
    clear z1
    intro e w2 hg
    obtain ⟨A2, c2, rfl, -, hs2, hb2⟩ := gives_re hg
    have HS2 := Lib.hid hs2
    have HB2 := Lib.hid (HB1.out.trans (hb2.mono HB1.out.size))
    clear hg hs2 hb2
    go_wp2_with fail
    refine (H2.out _ HB2.out).mono ?_
    intro e w3 hg
    obtain ⟨A3, c3, rfl, -, hs3, hb3⟩ := gives_re hg
    have HS2' := Lib.hid (HS2.out.below hb3)
    have HS3 := Lib.hid hs3
    have HB3 := Lib.hid (HB2.out.trans (hb3.mono HB2.out.size))
    clear hg hs3 hb3 HS2
    generalize hTL : T.length = TL at *
    go_wp2_with fail
    refine (H3.out _ HB3.out).mono ?_
    intro e w4 hg
    obtain ⟨A4, c4, rfl, ho4, hs4, hb4⟩ := gives_vec hg
    have HO4 := Lib.hid ho4
    have HV4 := Lib.hid hs4
    have HLM := Lib.hid (show l.length ≤ 9223372036854775807 from Nat.le_trans hs4.caps.2.1 hs4.caps.2.2)
    have HT4 := Lib.hid (And.intro (HS2'.out.below hb4) (HS3.out.below hb4))
    have HB4 := Lib.hid (HB3.out.trans (hb4.mono HB3.out.size))
    have HZ := Lib.hid (show w.heap.size ≤ w3.heap.size from HB3.out.size)
    clear hg ho4 hs4 hb4 HS2' HS3
    go_wp2_with fail
    refine (H4.out _ HB4.out).mono ?_
    intro e w5 hg
    obtain ⟨A5, c5, rfl, -, hs5, hb5⟩ := gives_vec hg
    have HV5 := Lib.hid hs5
    have HV4' := Lib.hid (HV4.out.below hb5)
    have HT5 := Lib.hid (And.intro (HT4.out.1.below hb5) (HT4.out.2.below hb5))
    have HR5 := Lib.hid hb5
    have HB5 := Lib.hid (HB4.out.trans (hb5.mono HB4.out.size))
    clear hg hs5 hb5 HT4 HV4
    go_wp2_with fail
    refine (sameBytes_any _ _ T T _ HT5.out.1 HT5.out.2).mono ?_
    rw [decide_eq_true rfl]
    rintro e w6 ⟨rfl, rfl⟩
    go_wp2_with fail
    refine (refSame_any _ _ l l _ HV4'.out HV5.out).mono ?_
    rw [decide_eq_true rfl]
    rintro e w6 ⟨rfl, hb6⟩
    have HR6 := Lib.hid (HR5.out.trans (hb6.mono HR5.out.size))
    have HB6 := Lib.hid (HB5.out.trans (hb6.mono HB5.out.size))
    clear hb6
    rcases nums16_own rfl HO4.out with ⟨rfl, hL0, rfl⟩ | ⟨g, rfl, hg, hn⟩
    · rw [hL0]
      clear hL0 HO4 HV4' HV5 HT5 HR5 HR6
      go_wp2_with fail
      go_loopw [16, 71] (fun _ i wr => i = .int .i64 0 ∧ Hid (Below w.heap.size w wr)) (fun _ _ _ => 0)
      case atStart => exact ⟨rfl, HB6⟩
      case round =>
        obtain ⟨rfl, HBE⟩ := hrel
        have z3 := run_text (HB.out.below HBE.out)
        go_wp2_with fail
        go_ret
        exact ⟨rfl, HBE.out⟩
    · have HN := Lib.hid (hn.below HR6.out)
      have hgw : w.heap.size ≤ g := by have := HZ.out; omega
      have HGW := Lib.hid hgw
      clear HO4 HV4' HV5 HT5 HR5 HR6 hn hg hgw
      have hmx : l.length ≤ 9223372036854775807 := HLM.out
      generalize l.length = L at *
      go_wp2_with fail
      go_loopw [16, 71] (fun _ i wr => ∃ j : Nat, j ≤ L ∧ i = .int .i64 (j : Int) ∧ Hid (Nums16 wr g L) ∧ Hid (Below w.heap.size w wr)) (fun _ i _ => L - (intOf i).toNat)
      case atStart => exact ⟨0, by omega, rfl, HN, HB6⟩
      case round =>
        obtain ⟨j, hj, rfl, HNW, HBE⟩ := hrel
        by_cases hlt : j < L
        · obtain ⟨x, hc, hf⟩ := HNW.out.cell hlt
          go_wp2_with fail
          go_roundw
          case rel => exact ⟨j + 1, by omega, by go_num, Lib.hid (HNW.out.set j _), Lib.hid (HBE.out.setCell HGW.out _)⟩
          case measure => simp [intOf]; omega
        · obtain rfl : j = L := by omega
          have z3 := run_text (HB.out.below HBE.out)
          go_wp2_with fail
          go_ret
          exact ⟨rfl, HBE.out⟩

end Go.Proofs.Ytndccdoohmgmlaa
