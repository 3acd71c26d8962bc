/- Contracts: Few; a disk in a variable. -/
import Derived.Test.YtdbioekmhlgolaaJ
namespace Go.Proofs.Ytdbioekmhlgolaa
open Go.RowKit Dk

def few (d : Disk) : Bool := decide (d.dry.length ≤ 40000 ∧ d.wet.length ≤ 600) && d.wet.all (fun x => decide (x.b.length ≤ 100))

set_option maxRecDepth 4000 in
set_option maxHeartbeats 400000 in
theorem few_any (v : Value) (d : Disk) (w : World) (h : DiskR w (fun _ => True) v d) :
    Calls Try.prog 11 #[v] w fun e w' => e = .returned (.bool (few d)) ∧ Below w.heap.size w w' := by
  obtain ⟨vd, vw, rfl, ⟨A, c, rfl, hc1, hc2, _⟩, A', c', xs, rfl, hc1', hc2', _, hx, hc⟩ := h
  generalize d.fuse = f at *
  generalize d.dead = dd at *
  generalize hL : d.wet.length = L at *
  generalize hN : d.dry.length = N at *
  have HL := Lib.hid hL
  have HN := Lib.hid hN
  clear hL hN
  unfold maxLen at hc2 hc2'
  have HX := Lib.hid hx
  have HC := Lib.hid hc
  clear hx hc
  by_cases g1 : (N : Int) ≤ 40000
  · by_cases g2 : (L : Int) ≤ 600
    · have t1 : decide (40000 < (N : Int)) = false := by simp; omega
      have t2 : decide (600 < (L : Int)) = false := by simp; omega
      go_enter Try.func11, Try.ntmps11
      go_wp2_with fail
      go_loopw [18] (fun i wr => ∃ k : Nat, k ≤ L ∧ i = .int .i64 (k : Int) ∧ (∀ j x, j < k → d.wet[j]? = some x → x.b.length ≤ 100) ∧ Below w.heap.size w wr) (fun i _ => L - (intOf i).toNat)
      case atStart => exact ⟨0, by omega, rfl, (fun j x h _ => by omega), below_new _ _⟩
      case round =>
        obtain ⟨k, hk, rfl, hok, hb⟩ := hrel
        have HOK := Lib.hid hok
        clear hok
        by_cases hlt : k < L
        · have hkx : ∃ x, d.wet[k]? = some x := ⟨_, List.getElem?_eq_getElem (by rw [HL.out]; exact hlt)⟩
          obtain ⟨x, hkx⟩ := hkx
          obtain ⟨e1, vb, e2, B, cb, rfl, hb1, hb2, _, _⟩ := HX.out.2 k x hkx
          obtain ⟨ad, hA, _, hcell⟩ := HC.out (by rw [HX.out.1, HL.out]; omega)
          subst hA
          have c1 : wr.cell? (ad.add (k * 2)) = some (.int .i64 x.pos) := (hb.cell (World.block_lt_of_cell? w _ (hcell _ _ e1))).trans (hcell _ _ e1)
          have c2 := cell_next ((hb.cell (World.block_lt_of_cell? w _ (hcell _ _ e2))).trans (hcell _ _ e2))
          generalize hM : x.b.length = M at *
          have HM := Lib.hid hM
          have HKX := Lib.hid hkx
          have hz := hb.size
          have HB := Lib.hid hb
          clear hM e1 e2 hcell hkx hb
          by_cases g3 : (M : Int) ≤ 100
          · have t3 : decide (100 < (M : Int)) = false := by simp; omega
            go_wp2_with fail
            refine ⟨⟨k + 1, by omega, by go_num, fun j y hj hy => ?_, HB.out.alloc hz _⟩, by simp [intOf]; omega⟩
            by_cases hjk : j < k
            · exact HOK.out j y hjk hy
            · obtain rfl : j = k := by omega
              rw [HKX.out] at hy
              injection hy with hy
              subst hy
              have := HM.out
              omega
          · have t3 : decide (100 < (M : Int)) = true := by simp; omega
            go_wp2_with fail
            go_ret
            refine ⟨ret_bool ?_, HB.out.alloc hz _⟩
            have h2 : d.wet.all (fun x => decide (x.b.length ≤ 100)) = false := by
              rw [List.all_eq_false]
              exact ⟨x, List.mem_of_getElem? HKX.out, by have := HM.out; simp; omega⟩
            simp [few, h2]
        · obtain rfl : k = L := by omega
          have HB := Lib.hid hb
          clear hb
          go_wp2_with fail
          go_ret
          refine ⟨ret_bool ?_, HB.out⟩
          have h2 : d.wet.all (fun x => decide (x.b.length ≤ 100)) = true := by
            rw [List.all_eq_true]
            intro x hx
            obtain ⟨j, hj, rfl⟩ := List.getElem_of_mem hx
            exact decide_eq_true (HOK.out j _ (by have := HL.out; omega) (List.getElem?_eq_getElem hj))
          rw [few, h2, Bool.and_true, HN.out, HL.out]
          exact (decide_eq_true (by omega)).symm
    · have t1 : decide (40000 < (N : Int)) = false := by simp; omega
      have t2 : decide (600 < (L : Int)) = true := by simp; omega
      go_enter Try.func11, Try.ntmps11
      go_wp2_with fail
      go_ret
      refine ⟨ret_bool ?_, below_new _ _⟩
      rw [few, HN.out, HL.out, decide_eq_false (by omega)]
      rfl
  · have t1 : decide (40000 < (N : Int)) = true := by simp; omega
    go_enter Try.func11, Try.ntmps11
    go_wp2_with fail
    go_ret
    refine ⟨ret_bool ?_, below_new _ _⟩
    rw [few, HN.out, HL.out, decide_eq_false (by omega)]
    rfl

/-- In block g lies a disk; its octets, and its writes, lie elsewhere. -/
def DiskVar (w : World) (g : Nat) (d : Disk) : Prop :=
  ∃ A c A' c', w.heap[g]? = some (.cells #[.slice A d.dry.length c, .slice A' d.wet.length c', .int .i64 d.fuse, .bool d.dead] 25 (0, 0)) ∧
    DiskR w (fun b => b ≠ g) (.agg #[.slice A d.dry.length c, .slice A' d.wet.length c', .int .i64 d.fuse, .bool d.dead]) d

theorem DiskVar.lt {w : World} {g : Nat} {d : Disk} (h : DiskVar w g d) : g < w.heap.size := by
  obtain ⟨_, _, _, _, h, _⟩ := h
  exact (Array.getElem?_eq_some_iff.1 h).1
theorem DiskVar.below {w w' : World} {g : Nat} {d : Disk} (h : DiskVar w g d) (hb : Below w.heap.size w w') : DiskVar w' g d := by
  have hl := h.lt
  obtain ⟨A, c, A', c', h1, h2⟩ := h
  exact ⟨A, c, A', c', (hb.block g hl).trans h1, h2.below hb⟩
theorem Bs.any {w : World} {S : Nat → Prop} {v : Value} {l : List UInt8} (h : Bs w S v l) : Bs w (fun _ => True) v l := h.more fun _ _ _ => trivial
theorem DiskR.any {w : World} {S : Nat → Prop} {v : Value} {d : Disk} (h : DiskR w S v d) : DiskR w (fun _ => True) v d := h.more fun _ _ _ => trivial

/-- A disk that was made stands in a variable. -/
theorem DiskVar.new {w : World} {base : Nat} {x0 x1 x2 x3 : Value} {d : Disk} (h : DiskOwn w base (.agg #[x0, x1, x2, x3]) d) : DiskVar (w.alloc (.cells #[x0, x1, x2, x3] 25)) w.heap.size d := by
  have hr := h.reads (S := fun _ => True) (fun _ => trivial)
  obtain ⟨vd, vw, he, ⟨A, c, rfl, r1⟩, A', c', xs, rfl, r2⟩ := hr
  injection he with he
  obtain ⟨rfl, rfl, rfl, rfl⟩ : x0 = _ ∧ x1 = _ ∧ x2 = _ ∧ x3 = _ := by simpa using he
  refine ⟨A, c, A', c', heap_alloc_new w _, ?_⟩
  have h3 : DiskR w (fun b => b < w.heap.size) (.agg #[.slice A d.dry.length c, .slice A' d.wet.length c', .int .i64 d.fuse, .bool d.dead]) d :=
    (h.reads (S := fun _ => True) (fun _ => trivial)).more fun b hb _ => hb
  exact (h3.below (below_new w _)).more fun b _ hb => Nat.ne_of_lt hb

/-- A disk that was made is stored into a variable. -/
theorem DiskVar.store {w : World} {g base : Nat} {x0 x1 x2 x3 : Value} {d : Disk} {cs0 : Array Value} (hg : w.heap[g]? = some (.cells cs0 25 (0, 0))) (h4 : cs0.size = 4) (h : DiskOwn w base (.agg #[x0, x1, x2, x3]) d) (hb : g < base) :
    DiskVar (resCells w g x0 x1 x2 x3) g d := by
  have hr := (h.res hb x0 x1 x2 x3).reads (S := fun _ => True) (fun _ => trivial)
  obtain ⟨vd, vw, xs, he, h1, h2, h3⟩ := h.res hb x0 x1 x2 x3
  have hn1 : ∀ b, vd.ownBlock = some b → b ≠ g := fun b hv => by have := (h1.lt b hv).1; omega
  have hn2 : ∀ b, vw.ownBlock = some b → b ≠ g := fun b hv => by have := (h2.lt b hv).1; omega
  obtain ⟨A, c, rfl⟩ := own_slice h1
  obtain ⟨A', c', rfl⟩ := own_slice h2
  injection he with he
  obtain ⟨rfl, rfl, rfl, rfl⟩ : x0 = _ ∧ x1 = _ ∧ x2 = _ ∧ x3 = _ := by simpa using he
  refine ⟨A, c, A', c', ?_, _, _, rfl, .of_own h1 (fun b hb => hn1 b hb.symm), ?_⟩
  · have hh := blk_set (blk_set (blk_set (blk_set hg 0 (Value.slice A d.dry.length c)) 1 (Value.slice A' d.wet.length c')) 2 (Value.int .i64 d.fuse)) 3 (Value.bool d.dead)
    obtain ⟨l⟩ := cs0
    match l, h4 with
    | [a, b, c, e], _ => simpa [resCells] using hh
  · rcases h2.2 with ⟨he, h0⟩ | ⟨g', cap, cur, he, _, hh, hc, hm, hs, ht⟩
    · injection he with e1 e2 e3
      subst e1 e3
      exact ⟨none, 0, xs, rfl, by omega, by simp [maxLen], fun _ => rfl, h3.more fun b _ hb => by omega, fun hl => by rw [h2.1] at hl; omega⟩
    · injection he with e1 e2 e3
      subst e1 e3
      exact ⟨some ⟨g', 0, none⟩, c', xs, rfl, hc, hm, (fun h => by cases h), h3.more fun b _ hb => by omega, fun _ => ⟨_, rfl, hn2 _ rfl, h2.cells rfl⟩⟩

end Go.Proofs.Ytdbioekmhlgolaa
