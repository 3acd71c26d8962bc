/- Contracts: the closures that are handed to dry and to deed. -/
import Derived.Test.YtdbioekmhlgolaaD
import Derived.Deep.RegionHeld3
import Derived.Deep.DeepCutAuto
namespace Go.Proofs.Ytdbioekmhlgolaa
open Go.RowKit Dk

theorem all32_any (i : Int) (w : World) : Calls Try.prog 40 #[.int .i64 i] w fun e w' => e = .returned (.int .i64 32) ∧ w = w' := by
  go_enter Try.func40, Try.ntmps40
  go_wp2
  go_ret
  exact ⟨rfl, rfl⟩

set_option maxRecDepth 4000 in
set_option maxHeartbeats 400000 in
theorem keepOf_any (i : Nat) (p : Addr) (A : Option Addr) (c : Nat) (keep : List UInt8) (w : World) (hp : w.cell? p = some (.slice A keep.length c)) (hk : Bs w (fun _ => True) (.slice A keep.length c) keep) (hi : i ≤ 9000) :
    Calls Try.prog 43 #[.int .i64 (i : Int), .pointer (some p)] w fun e w' => e = .returned (.int .i64 (keepOf keep i : Int)) ∧ w = w' := by
  obtain ⟨A0, c0, he, hc1, hc2, _, hc⟩ := hk
  injection he with h1 h2 h3
  subst h1 h3
  unfold maxLen at hc2
  generalize hK : keep.length = K at *
  have HK := Lib.hid hK
  have HC := Lib.hid hc
  clear hK hc
  by_cases hlt : i < K
  · obtain ⟨x, hx⟩ : ∃ x, keep[i]? = some x := ⟨_, List.getElem?_eq_getElem (by rw [HK.out]; exact hlt)⟩
    obtain ⟨ad, hA, _, hcell⟩ := HC.out (by rw [octets_length, HK.out]; omega)
    subst hA
    have c1 := hcell i _ (octets_at hx)
    have hx8 : x.toNat < 256 := x.toNat_lt
    have HX := Lib.hid hx
    clear hx hcell
    by_cases h32 : x.toNat ≤ 32
    · go_enter Try.func43, Try.ntmps43
      go_wp2
      go_ret
      exact ⟨ret_int (by rw [keepOf, HX.out]; simp; omega), rfl⟩
    · go_enter Try.func43, Try.ntmps43
      go_wp2
      go_ret
      exact ⟨ret_int (by rw [keepOf, HX.out]; simp; omega), rfl⟩
  · go_enter Try.func43, Try.ntmps43
    go_wp2
    go_ret
    exact ⟨ret_int (by rw [keepOf, List.getElem?_eq_none (by rw [HK.out]; omega)]; rfl), rfl⟩

/-- What a closure does to a disk that lies in a block of its own. -/
def Does (fid : Nat) (caps : Array Value) (W0 : World) (ok : Disk → Prop) (f : Disk → Disk) : Prop :=
  ∀ (g base : Nat) (d : Disk) (w : World), W0.heap.size ≤ base → DiskIn w base g d → ok d → Below W0.heap.size W0 w →
    Calls Try.prog fid (#[.pointer (some ⟨g, 0, none⟩)] ++ caps) w fun e w' => e = .returned (.tuple #[]) ∧ Below base w w' ∧ DiskIn w' base g (f d)

set_option maxRecDepth 4000 in
set_option maxHeartbeats 400000 in
theorem flushIt_any (W0 : World) : Does 38 #[] W0 (fun d => d.ok = true) (dryAll fun _ => 32) := by
  intro g base d w hW hd hok _
  have hb : base ≤ g := let ⟨_, _, _, _, h, _⟩ := hd; h
  obtain ⟨cs, hg, ho⟩ := hd.own
  have hcall := dry_any 40 #[] (fun _ => 32) g base cs d w (.inl ⟨rfl, rfl⟩) hg hb ho hok (fun _ => Nat.le_refl _) (fun i W _ _ => all32_any _ _)
  have H := Lib.hid hcall
  have HD := Lib.hid hd
  clear hcall hg hd hok ho
  show Calls Try.prog 38 #[.pointer (some ⟨g, 0, none⟩)] w _
  go_enter Try.func38, Try.ntmps38
  go_wp2_with fail
  refine H.out.mono ?_
  rintro e w' ⟨rfl, hbe, vd, hh, ho⟩
  have hfin : DiskIn w' base g (dryAll (fun _ => 32) d) :=
    ⟨vd, .slice none 0 0, [], hh, hb, by
      have h1 := ho.1
      rw [octets_length] at h1
      simpa [dryAll, show (pour (fun _ => 32) 0 d.wet d.dry).length = d.dry.length by omega] using ho, World.ownsRow_nil _ _ _ _, by simp [dryAll], fun j x hx => by simp [dryAll] at hx⟩
  have HF := Lib.hid hfin
  clear hfin hh ho
  go_wp2_with fail
  go_end0
  exact ⟨rfl, hbe, HF.out⟩

theorem put_end {w w1 w2 : World} {g base : Nat} {d : Disk} {at_ : Int} {b : List UInt8} {A1 A' : Option Addr} {k1 c' : Nat} {vd v2 : Value} {xs : List Value} {o : Obj}
    (hg : w.heap[g]? = some (.cells #[vd, .slice A' d.wet.length c', .int .i64 d.fuse, .bool d.dead] 25 (0, 0))) (hbg : base ≤ g) (hbw : base ≤ w.heap.size)
    (ho1 : w.ownsRow base 5 1 vd d.dry.length (octets d.dry)) (ho2 : w.ownsRow base 56 2 (.slice A' d.wet.length c') d.wet.length xs)
    (hx : WrCells w (fun b => base ≤ b ∧ b ≠ g ∧ some b ≠ vd.ownBlock ∧ some b ≠ (Value.slice A' d.wet.length c').ownBlock) xs d.wet)
    (hbe : Below w.heap.size w w1) (hown : w1.ownsRow w.heap.size 5 1 (.slice A1 b.length k1) b.length (octets b))
    (hown2 : w2.ownsRow base 56 2 v2 (d.wet.length + 1) (xs ++ [.int .i64 at_, .slice A1 b.length k1])) (hgr2 : (w1.alloc o).grownBy w2 (Value.slice A' d.wet.length c').ownBlock)
    (hat : v2.ownBlock = (Value.slice A' d.wet.length c').ownBlock ∨ v2.ownBlock = some (w1.alloc o).heap.size) :
    Below base w (w2.setCell ⟨g, 1, none⟩ v2) ∧ DiskIn (w2.setCell ⟨g, 1, none⟩ v2) base g (put at_ b d) := by
  have hgl : g < w.heap.size := by
    rcases Nat.lt_or_ge g w.heap.size with h | h
    · exact h
    · rw [Array.getElem?_eq_none h] at hg; cases hg
  have hz : w.heap.size ≤ w1.heap.size := hbe.size
  have hne : ∀ k, (Value.slice A' d.wet.length c').ownBlock = some k → k ≠ g := own_blk_ne ho2 hg (by decide)
  have hb1 : Below w.heap.size w (w1.alloc o) := hbe.alloc hz o
  have hg2 : w2.heap[g]? = some (.cells #[vd, .slice A' d.wet.length c', .int .i64 d.fuse, .bool d.dead] 25 (0, 0)) :=
    ((hgr2.block g (by simp; omega) (fun e => hne g e.symm rfl)).trans (hb1.block g hgl)).trans hg
  have hbB : Below base w w2 := (hb1.mono hbw).grown hgr2 (by simp; omega) (fun k hk => (ho2.lt k hk).1)
  have hd2 : w2.ownsRow base 5 1 vd d.dry.length (octets d.dry) := by
    refine (own_below ho1 hb1 fun k hk => (ho1.lt k hk).2).kept hgr2 ?_
    cases hv : vd.ownBlock with
    | none => exact .inl rfl
    | some k =>
      refine .inr fun e => ?_
      rcases ho2.2 with ⟨he, _⟩ | ⟨g', cap, cur, he, _, hh, _⟩
      · rw [he] at e; simp [Value.ownBlock] at e
      · rw [he] at e
        obtain rfl : k = g' := by simpa [Value.ownBlock] using e
        exact own_blk_ne ho1 hh (by decide) k hv rfl
  have hl1 : ∀ k, (Value.slice A1 b.length k1).ownBlock = some k → w.heap.size ≤ k ∧ k < w1.heap.size := hown.lt
  have hwl : ∀ k, (Value.slice A' d.wet.length c').ownBlock = some k → k < w.heap.size := fun k hk => (ho2.lt k hk).2
  have hdl : ∀ k, vd.ownBlock = some k → k < w.heap.size := fun k hk => (ho1.lt k hk).2
  refine ⟨hbB.setCell (by simpa using hbg) _, vd, v2, _, ?_, hbg, own_far hd2 (fun k hk e => ?_) _, own_far (by simpa [put] using hown2) (own_blk_ne hown2 hg2 (by decide)) _, ?_, ?_⟩
  · have := blk_set hg2 1 v2
    simpa [put] using this
  · exact own_blk_ne ho1 hg (by decide) k hk e
  · simp [put, hx.1]; omega
  · intro j x hj
    have hkeep : ∀ p : Addr, base ≤ p.block → p.block ≠ g → some p.block ≠ (Value.slice A' d.wet.length c').ownBlock → (∃ u, w.cell? p = some u) → (w2.setCell ⟨g, 1, none⟩ v2).cell? p = w.cell? p := by
      intro p _ hpg hpw ⟨u, hu⟩
      have hpl := World.block_lt_of_cell? w p hu
      rw [World.cell?_setCell_other w2 ⟨g, 1, none⟩ p v2 (fun e => hpg (e ▸ rfl)), hgr2.cell_far p (by simp; omega) hpw]
      exact hb1.cell hpl
    by_cases hjl : j < d.wet.length
    · rw [put, List.getElem?_append_left hjl] at hj
      obtain ⟨h1, vb, h2, h3⟩ := hx.2 j x hj
      refine ⟨by rw [List.getElem?_append_left (by rw [hx.1]; omega)]; exact h1, vb, by rw [List.getElem?_append_left (by rw [hx.1]; omega)]; exact h2, ?_⟩
      have h4 := h3.more (S' := fun k => base ≤ k ∧ k ≠ g ∧ some k ≠ vd.ownBlock ∧ some k ≠ (Value.slice A' d.wet.length c').ownBlock ∧ k < w.heap.size) fun k hk hS => ⟨hS.1, hS.2.1, hS.2.2.1, hS.2.2.2, hk⟩
      refine (h4.keep (fun p hS hu => hkeep p hS.1 hS.2.1 hS.2.2.2.1 hu)).more fun k _ hS => ⟨hS.1, hS.2.1, hS.2.2.1, ?_⟩
      intro e
      rcases hat with h | h
      · rw [h] at e; exact hS.2.2.2.1 e
      · rw [h] at e
        injection e with e
        have := hS.2.2.2.2
        rw [World.size_alloc] at e
        omega
    · obtain rfl : j = d.wet.length := by
        have := (List.getElem?_eq_some_iff.1 hj).1
        simp [put] at this
        omega
      rw [put, List.getElem?_append_right (Nat.le_refl _), Nat.sub_self] at hj
      obtain rfl : (⟨at_, b⟩ : Wr) = x := by simpa using hj
      refine ⟨by rw [List.getElem?_append_right (by rw [hx.1]; exact Nat.le_refl _), hx.1, Nat.sub_self]; rfl, .slice A1 b.length k1, ?_, ?_⟩
      · rw [List.getElem?_append_right (by rw [hx.1]; omega), hx.1, show d.wet.length * 2 + 1 - d.wet.length * 2 = 1 by omega]; rfl
      · have h1 : Bs w1 (fun k => w.heap.size ≤ k ∧ k < w1.heap.size) (.slice A1 b.length k1) b := .of_own hown fun k hk => hl1 k hk.symm
        have h2 : Bs (w2.setCell ⟨g, 1, none⟩ v2) (fun k => w.heap.size ≤ k ∧ k < w1.heap.size) (.slice A1 b.length k1) b := h1.keep fun p hS ⟨u, hu⟩ => by
          rw [World.cell?_setCell_other w2 ⟨g, 1, none⟩ p v2 (fun e => by have h : p.block = g := e ▸ rfl; omega), hgr2.cell_far p (by simp; omega) (fun e => by have := hwl _ e.symm; omega)]
          exact World.cell?_alloc_lt w1 _ _ hS.2
        refine h2.more fun k _ hS => ⟨by omega, by omega, fun e => by have := hdl _ e.symm; omega, fun e => ?_⟩
        rcases hat with h | h
        · rw [h] at e; have := hwl _ e.symm; omega
        · rw [h] at e
          injection e with e
          rw [World.size_alloc] at e
          omega

set_option maxRecDepth 4000 in
set_option maxHeartbeats 2000000 in
theorem putIt_any (at_ : Int) (b : List UInt8) (pa pb : Addr) (vb : Value) (W0 : World) (ha : W0.cell? pa = some (.int .i64 at_)) (hpb : W0.cell? pb = some vb) (hbs : Bs W0 (fun _ => True) vb b) (hbl : b.length = 32) :
    Does 36 #[.pointer (some pa), .pointer (some pb)] W0 (fun d => d.wet.length ≤ 8192) (put at_ b) := by
  intro g base d w hW hd hok hb0
  obtain ⟨iw, hiw, hzw, hsw, hbw⟩ := info_parts infoW
  obtain ⟨A0, c0, rfl, hc1, hc2, hA0, hcb⟩ := hbs
  have HBS : Hid (Bs W0 (fun _ => True) (.slice A0 b.length c0) b) := ⟨A0, c0, rfl, hc1, hc2, hA0, hcb⟩
  clear hA0 hcb
  obtain ⟨vd, vw, xs, hg, hbg, ho1, ho2, hx⟩ := hd
  obtain ⟨A', c', rfl⟩ := own_slice ho2
  have hgl : g < w.heap.size := by
    rcases Nat.lt_or_ge g w.heap.size with h | h
    · exact h
    · rw [Array.getElem?_eq_none h] at hg; cases hg
  have la := World.block_lt_of_cell? W0 _ ha
  have lb := World.block_lt_of_cell? W0 _ hpb
  have hwz := hb0.size
  have c1 : w.cell? pa = some (.int .i64 at_) := (hb0.cell la).trans ha
  have c2 : w.cell? pb = some (.slice A0 b.length c0) := (hb0.cell lb).trans hpb
  have c3 : w.cell? ⟨g, 1, none⟩ = some (.slice A' d.wet.length c') := (cell_of_row w g 1 _ _ _ hg).trans rfl
  have hne : ∀ k, (Value.slice A' d.wet.length c').ownBlock = some k → k ≠ g := own_blk_ne ho2 hg (by decide)
  show Calls Try.prog 36 #[.pointer (some ⟨g, 0, none⟩), .pointer (some pa), .pointer (some pb)] w _
  have HG := Lib.hid hg
  have HO1 := Lib.hid ho1
  have HO2 := Lib.hid ho2
  have HX := Lib.hid hx
  have HA := Lib.hid ha
  have HPB := Lib.hid hpb
  have HB0 := Lib.hid hb0
  have HNE := Lib.hid hne
  have HBL := Lib.hid hbl
  have C1 := Lib.hid c1
  have C2 := Lib.hid c2
  have C3 := Lib.hid c3
  clear hg ho1 ho2 hx ha hpb hb0 hne hbl
  generalize hL : d.wet.length = L at *
  have HL := Lib.hid hL
  clear hL
  go_enter Try.func36, Try.ntmps36
  go_wp2_with fail
  go_region_law (first
    | (refine step_append_cells _ rfl (.tmp 8) (.tmp 13) 23 rfl base 56 iw _ 2 32 Try.underlying23 hiw hzw hsw hbw rfl (by decide) (.slice A' L c') L xs rfl (own_below HO2.out (HBE.out.alloc (by omega) _) fun k hk => (HO2.out.lt k hk).2) (fun _ => True) (some ⟨w1.heap.size, 0, none⟩) 1 1 [.int .i64 at_, .slice A1 b.length k1] rfl rfl (cells_new (heap_alloc_new w1 _) trivial) (by simp [Value.oneCell']) (by unfold maxLen; omega) (by omega) (by simp; omega) ?_
       intro v2 w2 hown2 hgr2 hat2
       have s1 : w2.heap[g]? = some (.cells #[vd, .slice A' L c', .int .i64 d.fuse, .bool d.dead] 25 (0, 0)) := ((hgr2.block g (by simp; omega) (fun e => HNE.out g e.symm rfl)).trans ((HBE.out.alloc (by omega) _).block g hgl)).trans HG.out
       have s2 : w2.cell? ⟨g, 1, none⟩ = some (.slice A' L c') := (cell_of_row w2 g 1 _ _ _ s1).trans rfl
       have s3 : w2.frozen? ⟨g, 1, none⟩ = false := by simp [World.frozen?, s1]
       obtain ⟨A2, k2, rfl⟩ := own_slice hown2
       have HOWN2 := Lib.hid hown2
       have HGR2 := Lib.hid hgr2
       have HAT2 := Lib.hid hat2
       clear s1 hown2 hgr2 hat2)
    | (go_simp
       go_at_call 34
       refine (bclone_any _ b _ ?_ ?_).mono ?_
       exact HBS.out.below (by first | exact HB0.out | exact HB0.out.drew)
       rw [HBL.out]; omega
       rintro e w1 ⟨v1, rfl, hown, hbe⟩
       obtain ⟨A1, k1, rfl⟩ := own_slice hown
       have q1 : w1.cell? pa = some (.int .i64 at_) := (hbe.cell (show pa.block < w.heap.size by omega)).trans C1.out
       have q2 : w1.cell? pb = some (.slice A0 b.length c0) := (hbe.cell (show pb.block < w.heap.size by omega)).trans C2.out
       have q3 : w1.cell? ⟨g, 1, none⟩ = some (.slice A' L c') := (hbe.cell (show g < w.heap.size by omega)).trans C3.out
       have hbe2 : Below w.heap.size w w1 := ⟨hbe.os, hbe.tape, hbe.output, hbe.size, hbe.block⟩
       have hsz1 : w.heap.size ≤ w1.heap.size := hbe.size
       have hg1 : g < w1.heap.size := by omega
       have HBE := Lib.hid hbe2
       have HOWN : Hid (w1.ownsRow w.heap.size 5 1 (.slice A1 b.length k1) b.length (octets b)) := hown
       clear hown hbe hbe2))
  all_goals (
    have hL := HL.out
    subst hL
    have HFIN := Lib.hid (put_end HG.out hbg (by omega) HO1.out HO2.out HX.out HBE.out HOWN.out HOWN2.out HGR2.out HAT2.out)
    go_wp2_with fail
    go_end0
    exact ⟨rfl, HFIN.out.1, HFIN.out.2⟩)

end Go.Proofs.Ytdbioekmhlgolaa
