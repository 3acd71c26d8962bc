/- Contract: dry. -/
import Derived.Test.YtdbioekmhlgolaaC
import Derived.Deep.RegionHeld3
import Derived.Deep.DeepCutAuto
namespace Go.Proofs.Ytdbioekmhlgolaa
open Go.RowKit Dk

theorem over_length {α : Type} (l : List α) (off : Nat) (cs : List α) (h : off + cs.length ≤ l.length) : (over l off cs).length = l.length := by simp [over]; omega
theorem pour_snoc (many : Nat → Nat) : ∀ (l : List Wr) (i : Nat) (x : Wr) (b : List UInt8), pour many i (l ++ [x]) b = over (pour many i l b) (x.pos.toNat * 32) (x.b.take (many (i + l.length)))
  | [], i, x, b => rfl
  | y :: r, i, x, b => by
    rw [List.cons_append, pour, pour, pour_snoc many r (i + 1) x _, List.length_cons, show i + 1 + r.length = i + (r.length + 1) by omega]

theorem over_splice {α : Type} (l : List α) (off : Nat) (cs : List α) : over l off cs = splice l off cs := by simp [over, splice]
theorem splice_take {α : Type} (L : List α) (off N : Nat) (cs : List α) (h : off + cs.length ≤ N) (hN : N ≤ L.length) : (splice L off cs).take N = splice (L.take N) off cs := by
  apply List.ext_getElem?
  intro i
  rw [splice_at _ _ _ (by rw [List.length_take]; omega)]
  by_cases hi : i < N
  · rw [List.getElem?_take_of_lt hi, splice_at _ _ _ (by omega), List.getElem?_take_of_lt hi]
  · rw [List.getElem?_eq_none (by rw [List.length_take]; omega), if_neg (by omega), List.getElem?_eq_none (by rw [List.length_take]; omega)]
theorem octets_splice (l : List UInt8) (off : Nat) (cs : List UInt8) : octets (splice l off cs) = splice (octets l) off (octets cs) := by simp [octets, splice]
theorem grown_trans {a b c : World} {row : Option Nat} (h : a.grownBy b row) (k : b.grownBy c row) : a.grownBy c row :=
  ⟨k.os.trans h.os, k.tape.trans h.tape, k.output.trans h.output, Nat.le_trans h.size k.size, fun i hi hne => (k.block i (Nat.lt_of_lt_of_le hi h.size) hne).trans (h.block i hi hne)⟩
theorem pour_step (many : Nat → Nat) {l : List Wr} {k : Nat} {x : Wr} (hx : l[k]? = some x) (b : List UInt8) :
    pour many 0 (l.take (k + 1)) b = splice (pour many 0 (l.take k) b) (x.pos.toNat * 32) (x.b.take (many k)) := by
  have hk := (List.getElem?_eq_some_iff.1 hx).1
  rw [List.take_add_one, hx, Option.toList_some, pour_snoc, over_splice, List.length_take, Nat.zero_add, Nat.min_eq_left (by omega)]

theorem grown_drew {a b : World} {row : Option Nat} (h : a.grownBy b row) : a.grownBy b.drew row := ⟨h.os, h.tape, h.output, h.size, h.block⟩

/-- What a loop of copies has come to. -/
def DryInv (d : Disk) (w : World) (gd : Nat) (L N n : Nat) (many : Nat → Nat) (i : Value) (wr : World) : Prop :=
  ∃ (k : Nat) (cur : List Value), k ≤ L ∧ i = .int .i64 (k : Int) ∧ w.grownBy wr (some gd) ∧ wr.heap[gd]? = some (.cells cur.toArray 5 (0, 0)) ∧ cur.length = n ∧
    cur.take N = octets (pour many 0 (d.wet.take k) d.dry) ∧ (pour many 0 (d.wet.take k) d.dry).length = N

set_option maxRecDepth 4000 in
set_option maxHeartbeats 2000000 in
theorem dry_any (fid : Nat) (caps : Array Value) (many : Nat → Nat) (g base : Nat) (cs : Array Value) (d : Disk) (w : World)
    (hf : fid = 40 ∧ caps = #[] ∨ fid = 43 ∧ ∃ p, caps = #[p])
    (hg : w.heap[g]? = some (.cells cs 25 (0, 0))) (hbg : base ≤ g) (hd : DiskOwn w base (.agg cs) d) (hok : d.ok = true) (hm : ∀ i, many i ≤ 32)
    (hcall : ∀ (i : Nat) (W : World), i < d.wet.length → Below base w W → Calls Try.prog fid (#[.int .i64 (i : Int)] ++ caps) W fun e W' => e = .returned (.int .i64 (many i : Int)) ∧ W = W') :
    Calls Try.prog 39 #[.pointer (some ⟨g, 0, none⟩), .func (.func fid) #[] caps] w fun e w' => e = .returned (.tuple #[]) ∧ Below base w w' ∧
      ∃ vd, w'.heap[g]? = some (.cells #[vd, .slice none 0 0, .int .i64 d.fuse, .bool d.dead] 25 (0, 0)) ∧
        w'.ownsRow base 5 1 vd d.dry.length (octets (pour many 0 d.wet d.dry)) := by
  obtain ⟨vd, vw, xs, hcs, ho1, ho2, hx⟩ := hd
  injection hcs with hcs
  subst hcs
  obtain ⟨hk, hall⟩ : (32 ≤ d.dry.length ∧ d.dry.length ≤ 262144 ∧ d.dry.length % 32 = 0 ∧ d.wet.length ≤ 8192 ∧ -1 ≤ d.fuse ∧ d.fuse ≤ 1073741824) ∧ ∀ x ∈ d.wet, okWr d.dry.length x = true := by
    simp only [Disk.ok, Bool.and_eq_true, decide_eq_true_eq, List.all_eq_true] at hok
    exact hok
  obtain ⟨k1, k2, k3, k4, k5, k6⟩ := hk
  obtain ⟨A', c', rfl⟩ := own_slice ho2
  have hcl := own_cells (S := fun b => some b ≠ vd.ownBlock) ho2 (fun b hb e => by
    rcases ho1.2 with ⟨rfl, _⟩ | ⟨gd, cap, cur, rfl, _, hh, _⟩
    · simp [Value.ownBlock] at e
    · obtain rfl : b = gd := by simpa [Value.ownBlock] using e
      exact own_blk_ne ho2 hh (by decide) b hb rfl)
  rcases ho1.2 with ⟨_, h0⟩ | ⟨gd, cap, cur0, rfl, hbgd, hgd, hNc, hcm, hcs, htk⟩
  · omega
  have hgg : g ≠ gd := fun e => by
    subst e
    rw [hg] at hgd
    injection hgd with hgd
    injection hgd with _ h2
    exact absurd h2 (by decide)
  have hgl : g < w.heap.size := by
    rcases Nat.lt_or_ge g w.heap.size with h | h
    · exact h
    · rw [Array.getElem?_eq_none h] at hg; cases hg
  have hgdl : gd < w.heap.size := by
    rcases Nat.lt_or_ge gd w.heap.size with h | h
    · exact h
    · rw [Array.getElem?_eq_none h] at hgd; cases hgd
  have e1 : ∀ i, w.cell? ⟨g, i, none⟩ = #[.slice (some ⟨gd, 0, none⟩) d.dry.length cap, .slice A' d.wet.length c', .int .i64 d.fuse, .bool d.dead][i]? := fun i => cell_of_row w g i _ _ _ hg
  generalize hL : d.wet.length = L at *
  generalize hN : d.dry.length = N at *
  have HL := Lib.hid hL
  have HN := Lib.hid hN
  have HG := Lib.hid hg
  have HGD := Lib.hid hgd
  have HX := Lib.hid hx
  have HCL := Lib.hid hcl
  have HO1 := Lib.hid ho1
  have HO2 := Lib.hid ho2
  have HALL := Lib.hid hall
  have HCS := Lib.hid hcs
  have HTK := Lib.hid htk
  have HCALL := Lib.hid hcall
  have HM := Lib.hid hm
  have K3 := Lib.hid k3
  clear hL hN hg hgd hx hcl ho1 ho2 hall hcs htk hcall hok hm k3
  unfold maxLen at hcm
  rcases hf with ⟨rfl, rfl⟩ | ⟨rfl, p, rfl⟩
  all_goals (
    simp only [List.append_toArray, List.append_nil, List.cons_append, List.nil_append] at HCALL
    go_enter Try.func39, Try.ntmps39
    go_wp2_with fail
    go_loopw [11] (fun i wr => DryInv d w gd L N cap many i wr) (fun i _ => L - (intOf i).toNat)
    case atStart =>
      refine ⟨0, cur0.toList, by omega, rfl, World.grownBy.refl _ _, by simpa using HGD.out, by have := HCS.out; simpa using this, ?_, by simpa [pour] using HN.out⟩
      have := HTK.out
      simpa [pour] using this
    case round =>
      obtain ⟨k, cur, hk, rfl, hgr, hcur, hcl, htk, hpl⟩ := hrel
      have HCUR := Lib.hid hcur
      have HCL2 := Lib.hid hcl
      have HTK2 := Lib.hid htk
      have HPL := Lib.hid hpl
      have HGR := Lib.hid hgr
      clear hcur hcl htk hpl hgr
      by_cases hlt : k < L
      · have hkx : ∃ x, d.wet[k]? = some x := ⟨_, List.getElem?_eq_getElem (by rw [HL.out]; exact hlt)⟩
        obtain ⟨x, hkx⟩ := hkx
        obtain ⟨f1, vb, f2, B, cb, rfl, hb1, hb2, hb3, hcb⟩ := HX.out.2 k x hkx
        obtain ⟨ad, hA, had, hcell⟩ := HCL.out (by rw [HX.out.1, HL.out]; omega)
        subst hA
        have hxo := HALL.out x (List.mem_of_getElem? hkx)
        simp only [okWr, decide_eq_true_eq] at hxo
        obtain ⟨hxl, hp0, hp1⟩ := hxo
        rw [hxl] at hb1 f2
        obtain ⟨q, hq⟩ : ∃ q : Nat, x.pos = (q : Int) := ⟨x.pos.toNat, by omega⟩
        rw [hq] at f1 hp0 hp1
        have hqn : q * 32 + 32 ≤ N := by have := K3.out; omega
        have hadl := World.block_lt_of_cell? w _ (hcell _ _ f1)
        rw [add_block] at hadl
        have hne : some ad.block ≠ some gd := by simpa [Value.ownBlock] using had
        have c1 : wr.cell? (ad.add (k * 2)) = some (.int .i64 (q : Int)) := HGR.out.cell (hcell _ _ f1) (by rw [add_block]; exact hne)
        have c2 := cell_next (HGR.out.cell (hcell _ _ f2) (by rw [add_block]; exact hne))
        have c3 : wr.cell? ⟨g, 0, none⟩ = some (.slice (some ⟨gd, 0, none⟩) N cap) := HGR.out.cell ((e1 0).trans rfl) (by simpa using hgg)
        have hwl : w.heap.size ≤ wr.heap.size := HGR.out.size
        have hgr2 : g < wr.heap.size := by omega
        have hgd2 : gd < wr.heap.size := by omega
        have HKX := Lib.hid hkx
        have HXL := Lib.hid hxl
        have HQ := Lib.hid hq
        have HCB := Lib.hid hcb
        have HB3 := Lib.hid hb3
        clear hkx hxl hq hcb hb3 f1 f2 hcell had hadl hne e1
        have hcl8 : (Try.prog.info? 5).map (·.size) = some 1 := by kernel_rfl
        have HC8 := Lib.hid hcl8
        clear hcl8
        have hbase : Below base w (wr.alloc (Obj.cells #[.int .i64 (q : Int), .slice B 32 cb] 56)) := ((Below.refl _ _).grown HGR.out (by omega) (by simp; omega)).alloc (by omega) _
        have HBASE := Lib.hid hbase
        clear hbase
        have w1 : IntKind.i64.wrap ((q : Int) * 32) = (q : Int) * 32 := IntWalk.i64_in _ (by omega)
        have w2 : (0 : Int) ≤ (q : Int) * 32 := by omega
        have w3 : ((q : Int) * 32).toNat = q * 32 := by omega
        have w4 : (q : Int) * 32 ≤ (N : Int) := by omega
        have w5 : q * 32 < cap := by omega
        have w6 : ¬ cap = q * 32 := by omega
        have w7 : 0 ≤ (many k : Int) := by omega
        have w8 : (many k : Int) ≤ 32 := by have := HM.out k; omega
        have w9 : (many k : Int) ≤ (cb : Int) := by have := HM.out k; omega
        have hW0 : (wr.alloc (Obj.cells #[.int .i64 (q : Int), .slice B 32 cb] 56)).heap[gd]? = some (.cells cur.toArray 5 (0, 0)) := (Below.heap_alloc _ _ _ hgd2).trans HCUR.out
        have hlen : (octets (x.b.take (many k))).length = many k := by rw [octets_length, List.length_take, HXL.out]; have := HM.out k; omega
        have hmin : (octets (x.b.take (many k))).length = Nat.min (many k) (N - q * 32) := by rw [hlen]; have := HM.out k; exact (Nat.min_eq_left (by omega)).symm
        have hpos : 0 < (octets (x.b.take (many k))).length → ∃ ad, B = some ad ∧ ∀ j v, (octets (x.b.take (many k)))[j]? = some v → (wr.alloc (Obj.cells #[.int .i64 (q : Int), .slice B 32 cb] 56)).cell? (ad.add j) = some v := by
          intro _
          obtain ⟨adb, hadb, hS, hcells⟩ := HCB.out (by rw [octets_length, HXL.out]; omega)
          refine ⟨adb, hadb, fun j u hu => ?_⟩
          have hu2 : (octets x.b)[j]? = some u := by
            simp only [octets, List.getElem?_map, List.getElem?_take] at hu ⊢
            split at hu
            · exact hu
            · cases hu
          have h1 := HGR.out.cell (hcells j u hu2) (by rw [add_block]; simpa [Value.ownBlock] using hS.2.1)
          exact (World.cell?_alloc_lt wr _ _ (World.block_lt_of_cell? wr _ h1)).trans h1
        have hfit : q * 32 + (octets (x.b.take (many k))).length ≤ cur.length := by rw [hlen, HCL2.out]; have := HM.out k; omega
        have HW0 := Lib.hid hW0
        have HLEN := Lib.hid hlen
        have HMIN := Lib.hid hmin
        have HPOS := Lib.hid hpos
        have HFIT := Lib.hid hfit
        clear hW0 hlen hmin hpos hfit
        go_wp2_with fail
        go_region_held3 (fun w' => w'.cell? ⟨g, 0, none⟩ = some (.slice (some ⟨gd, 0, none⟩) N cap) ∧ w'.cell? ⟨wr.heap.size, 0, none⟩ = some (.int .i64 (q : Int)) ∧ w'.cell? ⟨wr.heap.size, 1, none⟩ = some (.slice B 32 cb))
          (first | go_keep)
          (first
            | (refine step_copy_only rfl (.tmp 23) (.tmp 29) 22 22 rfl 5 Try.underlying22 HC8.out (some ⟨gd, q * 32, none⟩) B (N - q * 32) (cap - q * 32) (many k) cb rfl rfl gd (q * 32) cur 5 HW0.out (octets (x.b.take (many k))) HMIN.out (fun h => ⟨rfl, HPOS.out h⟩) HFIT.out octets_one ?_; intro w2 hsp2 hgr2 hsz2; have q0 := hgr2.cell_far ⟨g, 0, none⟩ (by simp; omega) (by simp; omega); have q1 := hgr2.cell_far ⟨wr.heap.size, 0, none⟩ (by simp) (by simp; omega); have q2 := hgr2.cell_far ⟨wr.heap.size, 1, none⟩ (by simp) (by simp; omega); have HGR2 := Lib.hid hgr2; clear hgr2)
            | (go_at_call 40; refine (HCALL.out k _ (by omega) (by first | exact HBASE.out | exact HBASE.out.drew)).mono ?_; rintro e w1 ⟨rfl, rfl⟩)
            | (go_at_call 43; refine (HCALL.out k _ (by omega) (by first | exact HBASE.out | exact HBASE.out.drew)).mono ?_; rintro e w1 ⟨rfl, rfl⟩))
        go_wp2_with fail
        have hpn : x.pos.toNat = q := by rw [HQ.out]; omega
        have hstep := pour_step many HKX.out d.dry
        rw [hpn] at hstep
        have htl : (x.b.take (many k)).length = many k := by rw [List.length_take, HXL.out]; have := HM.out k; omega
        have hml := HM.out k
        have hgr3 : w.grownBy w2 (some gd) := grown_trans (grown_drew (grown_trans HGR.out (World.grownBy_alloc wr _ _))) HGR2.out
        refine ⟨⟨k + 1, splice cur (q * 32) (octets (x.b.take (many k))), by omega, by go_num, hgr3, hsp2.out, ?_, ?_, ?_⟩, by simp [intOf]; omega⟩
        · rw [length_splice _ _ _ HFIT.out]; exact HCL2.out
        · rw [splice_take _ _ _ _ (by rw [octets_length, htl]; omega) (by rw [HCL2.out]; omega), HTK2.out, hstep, octets_splice]
        · rw [hstep, length_splice _ _ _ (by rw [htl, HPL.out]; omega)]; exact HPL.out
      · obtain rfl : k = L := by omega
        have c1 : ∀ i, wr.cell? ⟨g, i, none⟩ = #[.slice (some ⟨gd, 0, none⟩) N cap, .slice A' k c', .int .i64 d.fuse, .bool d.dead][i]? := fun i => cell_of_row wr g i _ _ _ ((HGR.out.block g hgl (by simpa using hgg)).trans HG.out)
        have c2 : ∀ i, wr.frozen? ⟨g, i, none⟩ = false := fun i => by
          have := (HGR.out.block g hgl (by simpa using hgg)).trans HG.out
          simp [World.frozen?, this]
        have hb1 : Below base w wr := (Below.refl _ _).grown HGR.out (by omega) (by simp; omega)
        have HB1 := Lib.hid hb1
        clear e1 hb1
        go_wp2_with fail
        go_end0
        refine ⟨rfl, HB1.out.setCell (by simpa using hbg) _, .slice (some ⟨gd, 0, none⟩) N cap, ?_, by rw [octets_length]; have := HPL.out; rw [List.take_of_length_le (by rw [HL.out]; exact Nat.le_refl _)] at this; omega, .inr ⟨gd, cap, cur.toArray, rfl, hbgd, ?_, hNc, by unfold maxLen; omega, by simpa using HCL2.out, ?_⟩⟩
        · exact blk_set ((HGR.out.block g hgl (by simpa using hgg)).trans HG.out) 1 _
        · rw [blk_far (by simpa using fun e => hgg e.symm) _]; exact HCUR.out
        · have hwl : d.wet.take k = d.wet := List.take_of_length_le (by rw [HL.out]; exact Nat.le_refl _)
          have := HTK2.out
          rw [hwl] at this
          simpa using this)

end Go.Proofs.Ytdbioekmhlgolaa
