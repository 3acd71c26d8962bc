/- Contract: deed. -/
import Derived.Test.YtdbioekmhlgolaaE
namespace Go.Proofs.Ytdbioekmhlgolaa
open Go.RowKit Dk

/-- A disk and an error are answered. -/
def GivesDE (w : World) (r : Disk × Int) (e : Ending) (w' : World) : Prop :=
  ∃ v, e = .returned (.tuple #[v, .int .i64 r.2]) ∧ DiskOwn w' w.heap.size v r.1 ∧ Below w.heap.size w w'

theorem DiskIn.new {w : World} {base : Nat} {vd vw : Value} {d : Disk} {f : Int} {dd : Bool} (h : DiskOwn w base (.agg #[vd, vw, .int .i64 d.fuse, .bool d.dead]) d) (hb : base ≤ w.heap.size) :
    DiskIn (w.alloc (.cells #[vd, vw, .int .i64 f, .bool dd] 25)) base w.heap.size { d with fuse := f, dead := dd } := by
  obtain ⟨vd', vw', xs, he, h1, h2, h3⟩ := h
  injection he with he
  have e1 : vd = vd' := by injection he with he; injection he with he
  have e2 : vw = vw' := by injection he with he; injection he with _ he; injection he with he
  subst e1 e2
  refine ⟨vd, vw, xs, heap_alloc_new w _, hb, h1.alloc _, h2.alloc _, ?_⟩
  exact (h3.more fun k hk hS => ⟨hS.1, by omega, hS.2.1, hS.2.2⟩).below (below_new w _)

/-- The result's cells are written: four of them, in an older block. -/
def resCells (w : World) (b : Nat) (x0 x1 x2 x3 : Value) : World := (((w.setCell ⟨b, 0, none⟩ x0).setCell ⟨b, 1, none⟩ x1).setCell ⟨b, 2, none⟩ x2).setCell ⟨b, 3, none⟩ x3
theorem DiskOwn.res {w : World} {base b : Nat} {v : Value} {d : Disk} (h : DiskOwn w base v d) (hb : b < base) (x0 x1 x2 x3 : Value) : DiskOwn (resCells w b x0 x1 x2 x3) base v d :=
  (((h.far (p := ⟨b, 0, none⟩) hb x0).far (p := ⟨b, 1, none⟩) hb x1).far (p := ⟨b, 2, none⟩) hb x2).far (p := ⟨b, 3, none⟩) hb x3
theorem below_res {w0 w : World} {base b : Nat} (h : Below base w0 w) (hb : base ≤ b) (x0 x1 x2 x3 : Value) : Below base w0 (resCells w b x0 x1 x2 x3) :=
  (((h.setCell (p := ⟨b, 0, none⟩) hb x0).setCell (p := ⟨b, 1, none⟩) hb x1).setCell (p := ⟨b, 2, none⟩) hb x2).setCell (p := ⟨b, 3, none⟩) hb x3

theorem DiskOwn.parts {w : World} {base : Nat} {vd vw : Value} {d : Disk} (h : DiskOwn w base (.agg #[vd, vw, .int .i64 d.fuse, .bool d.dead]) d) (f : Int) (dd : Bool) :
    DiskOwn w base (.agg #[vd, vw, .int .i64 f, .bool dd]) { d with fuse := f, dead := dd } := by
  obtain ⟨vd', vw', xs, he, h1, h2, h3⟩ := h
  injection he with he
  have e1 : vd = vd' := by injection he with he; injection he with he
  have e2 : vw = vw' := by injection he with he; injection he with _ he; injection he with he
  subst e1 e2
  exact ⟨vd, vw, xs, rfl, h1, h2, h3⟩

/-- A new disk is told as a result. -/
theorem dead_end {w w0 w1 : World} {b N L k1 k2 : Nat} {B1 B2 : Option Addr} {d : Disk} (hz0 : w0.heap.size = w.heap.size + 2) (hb0 : Below w.heap.size w w0) (hbe : Below w0.heap.size w0 w1)
    (ho : DiskOwn w1 w0.heap.size (.agg #[.slice B1 N k1, .slice B2 L k2, .int .i64 d.fuse, .bool d.dead]) d) (hb : b = w.heap.size + 1) (o : Obj) :
    DiskOwn ((resCells w1 b (.slice B1 N k1) (.slice B2 L k2) (.int .i64 d.fuse) (.bool true)).alloc o) w.heap.size (.agg #[.slice B1 N k1, .slice B2 L k2, .int .i64 d.fuse, .bool true]) { d with dead := true } ∧
      Below w.heap.size w ((resCells w1 b (.slice B1 N k1) (.slice B2 L k2) (.int .i64 d.fuse) (.bool true)).alloc o) := by
  have hz1 := hbe.size
  have h1 := (((ho.parts d.fuse true).res (b := b) (by omega) (.slice B1 N k1) (.slice B2 L k2) (.int .i64 d.fuse) (.bool true)).below (below_new _ o)).mono (base' := w.heap.size) (by omega)
  have hbl := hb0.trans (hbe.mono (by omega))
  have hz2 : w.heap.size ≤ (resCells w1 b (.slice B1 N k1) (.slice B2 L k2) (.int .i64 d.fuse) (.bool true)).heap.size := (below_res hbl (by omega) _ _ _ _).size
  exact ⟨h1, (below_res hbl (by omega) _ _ _ _).alloc hz2 o⟩

theorem deed_end {w w0 w3 : World} {b g N L k1 k2 : Nat} {B1 B2 : Option Addr} {d : Disk} {xs : List Value} (hz0 : w0.heap.size = w.heap.size + 2) (hbl : Below w.heap.size w w3)
    (hg : w0.heap.size ≤ g) (h1 : w3.ownsRow w0.heap.size 5 1 (.slice B1 N k1) d.dry.length (octets d.dry)) (h2 : w3.ownsRow w0.heap.size 56 2 (.slice B2 L k2) d.wet.length xs)
    (h3 : WrCells w3 (fun k => w0.heap.size ≤ k ∧ k ≠ g ∧ some k ≠ (Value.slice B1 N k1).ownBlock ∧ some k ≠ (Value.slice B2 L k2).ownBlock) xs d.wet) (hb : b = w.heap.size + 1) :
    DiskOwn (resCells w3 b (.slice B1 N k1) (.slice B2 L k2) (.int .i64 d.fuse) (.bool d.dead)) w.heap.size (.agg #[.slice B1 N k1, .slice B2 L k2, .int .i64 d.fuse, .bool d.dead]) d ∧
      Below w.heap.size w (resCells w3 b (.slice B1 N k1) (.slice B2 L k2) (.int .i64 d.fuse) (.bool d.dead)) := by
  have h : DiskOwn w3 w0.heap.size (.agg #[.slice B1 N k1, .slice B2 L k2, .int .i64 d.fuse, .bool d.dead]) d := ⟨_, _, xs, rfl, h1, h2, h3.more fun k _ hS => ⟨hS.1, hS.2.2⟩⟩
  exact ⟨(h.res (by omega) _ _ _ _).mono (by omega), below_res hbl (by omega) _ _ _ _⟩

set_option maxRecDepth 4000 in
set_option maxHeartbeats 4000000 in
theorem deed_any (fid : Nat) (caps : Array Value) (ok : Disk → Prop) (f : Disk → Disk) (v : Value) (d : Disk) (w : World) (hf : fid = 38 ∧ caps = #[] ∨ fid = 36 ∧ ∃ p q, caps = #[p, q])
    (h : DiskR w (fun _ => True) v d) (hs : Small d) (hfu : d.fuse ≤ 1073741824) (hfl : -1 ≤ d.fuse) (hdo : Does fid caps w ok f) (hok : ok (burn d).1) :
    Calls Try.prog 35 #[v, .func (.func fid) #[] caps] w (GivesDE w (deed d f)) := by
  have HD := Lib.hid h
  obtain ⟨vd, vw, rfl, ⟨A, c, rfl, _⟩, A', c', xs, rfl, _⟩ := h
  have HDO := Lib.hid hdo
  have HOK := Lib.hid hok
  clear hdo hok
  obtain ⟨W0, hW0⟩ : ∃ W0, W0 = (w.alloc (Obj.cells #[Value.slice A d.dry.length c, Value.slice A' d.wet.length c', .int .i64 d.fuse, .bool d.dead] 25)).alloc (Obj.cells #[.slice none 0 0, .slice none 0 0, .int .i64 0, .bool false] 25) := ⟨_, rfl⟩
  have hb0 : Below w.heap.size w W0 := by rw [hW0]; exact (below_new _ _).alloc (by simp) _
  have hz0 : W0.heap.size = w.heap.size + 2 := by rw [hW0]; simp
  have hres : W0.heap[w.heap.size + 1]? = some (.cells #[.slice none 0 0, .slice none 0 0, .int .i64 0, .bool false] 25 (0, 0)) := by
    have := heap_alloc_new (w.alloc (Obj.cells #[Value.slice A d.dry.length c, Value.slice A' d.wet.length c', .int .i64 d.fuse, .bool d.dead] 25)) (Obj.cells #[.slice none 0 0, .slice none 0 0, .int .i64 0, .bool false] 25)
    rw [World.size_alloc] at this
    rw [hW0]
    exact this
  have HCL := Lib.hid (clone_any _ d W0 (HD.out.below hb0) hs)
  have HRES := Lib.hid hres
  have HB0 := Lib.hid hb0
  have HW0 := Lib.hid hW0
  clear hres hb0
  rcases hf with ⟨rfl, rfl⟩ | ⟨rfl, p, q, rfl⟩
  all_goals (
    go_enter Try.func35, Try.ntmps35
    go_wp2_with fail
    rw [← hW0]
    clear hW0
    refine HCL.out.mono ?_
    rintro e w1 ⟨v1, rfl, hown, hbe⟩
    have HOWN := Lib.hid hown
    obtain ⟨vd1, vw1, ys, rfl, ho1, ho2, _⟩ := hown
    obtain ⟨B1, k1, rfl⟩ := own_slice ho1
    obtain ⟨B2, k2, rfl⟩ := own_slice ho2
    have hz1 := hbe.size
    have hr1 := (hbe.block (w.heap.size + 1) (by omega)).trans HRES.out
    have HR1 := Lib.hid hr1
    have r1 : ∀ i, w1.cell? ⟨w.heap.size + 1, i, none⟩ = #[.slice none 0 0, .slice none 0 0, .int .i64 0, .bool false][i]? := fun i => cell_of_row w1 _ i _ _ _ hr1
    have r2 : ∀ i, w1.frozen? ⟨w.heap.size + 1, i, none⟩ = false := fun i => by simp [World.frozen?, hr1]
    have HBE := Lib.hid hbe
    have hlt1 : w.heap.size + 1 < w1.heap.size := by omega
    clear hr1 ho1 ho2 hbe
    by_cases h0 : d.fuse = 0
    · have t0 : (d.fuse == 0) = true := by simp [h0]
      have H0 := Lib.hid h0
      clear h0
      go_wp2_with fail
      have hf := dead_end hz0 HB0.out HBE.out HOWN.out rfl (Obj.cells #[Value.slice B1 d.dry.length k1, Value.slice B2 d.wet.length k2, Value.int IntKind.i64 d.fuse, Value.bool true] 25)
      simp only [resCells] at hf
      have HF := Lib.hid hf
      clear hf
      have hr : deed d f = ({ d with dead := true }, 11) := by simp [deed, burn, H0.out]
      rw [hr]
      refine bodyPost_ret (v := .tuple #[.agg #[.slice B1 d.dry.length k1, .slice B2 d.wet.length k2, .int .i64 d.fuse, .bool true], .int .i64 11]) ?_ rfl ?_
      · simp [results, Try.results35, go_sem, r1, r2, hlt1]
      · exact ⟨_, rfl, HF.out.1, HF.out.2⟩
    · have t0 : (d.fuse == 0) = false := by simp [h0]
      by_cases hm : d.fuse = -1
      · skip
        have hbu : burn d = (d, true) := by
          obtain ⟨dr, we, fu, dd⟩ := d
          simp only at h0 hm
          simp [burn, h0, hm]
        have hin : DiskIn (w1.alloc (Obj.cells #[.slice B1 d.dry.length k1, .slice B2 d.wet.length k2, .int .i64 d.fuse, .bool d.dead] 25)) W0.heap.size w1.heap.size d := DiskIn.new (f := d.fuse) (dd := d.dead) HOWN.out (by omega)
        have hok2 : ok d := by have := HOK.out; rw [hbu] at this; exact this
        have hbw : Below w.heap.size w (w1.alloc (Obj.cells #[.slice B1 d.dry.length k1, .slice B2 d.wet.length k2, .int .i64 (d.fuse), .bool d.dead] 25)) := (HB0.out.trans (HBE.out.mono (by omega))).alloc (by omega) _
        have hc := HDO.out w1.heap.size W0.heap.size _ _ (by omega) hin hok2 hbw
        simp only [List.append_toArray, List.append_nil, List.cons_append, List.nil_append] at hc
        have t1 : (d.fuse != -1) = false := by simp [hm]
        have t2 : (d.fuse == -1) = true := by simp [hm]
        have HC := Lib.hid hc
        have HBU := Lib.hid hbu
        have H0 := Lib.hid h0
        have HM := Lib.hid hm
        have HBW := Lib.hid hbw
        clear hc hbu hin hok2 hbw h0 hm
        go_wp2_with fail
        refine HC.out.mono ?_
        rintro e w3 ⟨rfl, hbe3, hdi⟩
        obtain ⟨vd3, vw3, ys3, hh3, hg3, ho3, hq3, hx3⟩ := hdi
        obtain ⟨C1, j1, rfl⟩ := own_slice ho3
        obtain ⟨C2, j2, rfl⟩ := own_slice hq3
        have hz3 := hbe3.size
        rw [World.size_alloc] at hz3
        have hbl3 := HBW.out.trans (hbe3.mono (by omega))
        have hfin := deed_end (b := w.heap.size + 1) hz0 hbl3 (by omega) ho3 hq3 hx3 rfl
        simp only [resCells] at hfin
        have HFIN := Lib.hid hfin
        have hr3 := (hbe3.block (w.heap.size + 1) (by omega)).trans ((Below.heap_alloc w1 _ _ (by omega)).trans HR1.out)
        have s1 : ∀ i, w3.cell? ⟨w.heap.size + 1, i, none⟩ = #[.slice none 0 0, .slice none 0 0, .int .i64 0, .bool false][i]? := fun i => cell_of_row w3 _ i _ _ _ hr3
        have s2 : ∀ i, w3.frozen? ⟨w.heap.size + 1, i, none⟩ = false := fun i => by simp [World.frozen?, hr3]
        have s3 : ∀ i, w3.cell? ⟨w1.heap.size, i, none⟩ = #[.slice C1 (f d).dry.length j1, .slice C2 (f d).wet.length j2, .int .i64 (f d).fuse, .bool (f d).dead][i]? := fun i => cell_of_row w3 _ i _ _ _ hh3
        have hne : w1.heap.size ≠ w.heap.size + 1 := by omega
        have hlt3 : w.heap.size + 1 < w3.heap.size := by omega
        clear hfin hr3 hh3 ho3 hq3 hx3 hbe3 hbl3 r1 r2
        have hr : deed d f = (f d, 0) := by simp only [deed, HBU.out]; rfl
        have HR := Lib.hid hr
        clear hr
        go_wp2_with fail
        rw [HR.out]
        refine bodyPost_ret (v := .tuple #[.agg #[.slice C1 (f d).dry.length j1, .slice C2 (f d).wet.length j2, .int .i64 (f d).fuse, .bool (f d).dead], .int .i64 0]) ?_ rfl ?_
        rotate_left
        · exact ⟨_, rfl, HFIN.out.1, HFIN.out.2⟩
        · simp [results, Try.results35, go_sem, s1, s2, hlt3]
      · skip
        have hbu : burn d = ({ d with fuse := d.fuse - 1, dead := d.dead }, true) := by
          obtain ⟨dr, we, fu, dd⟩ := d
          simp only at h0 hm
          simp [burn, h0, hm]
        have hin := DiskIn.new (f := d.fuse - 1) (dd := d.dead) HOWN.out (by omega)
        have hok2 : ok { d with fuse := d.fuse - 1, dead := d.dead } := by have := HOK.out; rw [hbu] at this; exact this
        have hbw : Below w.heap.size w (w1.alloc (Obj.cells #[.slice B1 d.dry.length k1, .slice B2 d.wet.length k2, .int .i64 (d.fuse - 1), .bool d.dead] 25)) := (HB0.out.trans (HBE.out.mono (by omega))).alloc (by omega) _
        have hc := HDO.out w1.heap.size W0.heap.size _ _ (by omega) hin hok2 hbw
        simp only [List.append_toArray, List.append_nil, List.cons_append, List.nil_append] at hc
        have t1 : (d.fuse != -1) = true := by simp [hm]
        have t2 : (d.fuse == -1) = false := by simp [hm]
        have HC := Lib.hid hc
        have HBU := Lib.hid hbu
        have H0 := Lib.hid h0
        have HM := Lib.hid hm
        have HBW := Lib.hid hbw
        clear hc hbu hin hok2 hbw h0 hm
        go_wp2_with fail
        refine HC.out.mono ?_
        rintro e w3 ⟨rfl, hbe3, hdi⟩
        obtain ⟨vd3, vw3, ys3, hh3, hg3, ho3, hq3, hx3⟩ := hdi
        obtain ⟨C1, j1, rfl⟩ := own_slice ho3
        obtain ⟨C2, j2, rfl⟩ := own_slice hq3
        have hz3 := hbe3.size
        rw [World.size_alloc] at hz3
        have hbl3 := HBW.out.trans (hbe3.mono (by omega))
        have hfin := deed_end (b := w.heap.size + 1) hz0 hbl3 (by omega) ho3 hq3 hx3 rfl
        simp only [resCells] at hfin
        have HFIN := Lib.hid hfin
        have hr3 := (hbe3.block (w.heap.size + 1) (by omega)).trans ((Below.heap_alloc w1 _ _ (by omega)).trans HR1.out)
        have s1 : ∀ i, w3.cell? ⟨w.heap.size + 1, i, none⟩ = #[.slice none 0 0, .slice none 0 0, .int .i64 0, .bool false][i]? := fun i => cell_of_row w3 _ i _ _ _ hr3
        have s2 : ∀ i, w3.frozen? ⟨w.heap.size + 1, i, none⟩ = false := fun i => by simp [World.frozen?, hr3]
        have s3 : ∀ i, w3.cell? ⟨w1.heap.size, i, none⟩ = #[.slice C1 (f { d with fuse := d.fuse - 1, dead := d.dead }).dry.length j1, .slice C2 (f { d with fuse := d.fuse - 1, dead := d.dead }).wet.length j2, .int .i64 (f { d with fuse := d.fuse - 1, dead := d.dead }).fuse, .bool (f { d with fuse := d.fuse - 1, dead := d.dead }).dead][i]? := fun i => cell_of_row w3 _ i _ _ _ hh3
        have hne : w1.heap.size ≠ w.heap.size + 1 := by omega
        have hlt3 : w.heap.size + 1 < w3.heap.size := by omega
        clear hfin hr3 hh3 ho3 hq3 hx3 hbe3 hbl3 r1 r2
        have hr : deed d f = (f { d with fuse := d.fuse - 1, dead := d.dead }, 0) := by simp only [deed, HBU.out]; rfl
        have HR := Lib.hid hr
        clear hr
        go_wp2_with fail
        rw [HR.out]
        refine bodyPost_ret (v := .tuple #[.agg #[.slice C1 (f { d with fuse := d.fuse - 1, dead := d.dead }).dry.length j1, .slice C2 (f { d with fuse := d.fuse - 1, dead := d.dead }).wet.length j2, .int .i64 (f { d with fuse := d.fuse - 1, dead := d.dead }).fuse, .bool (f { d with fuse := d.fuse - 1, dead := d.dead }).dead], .int .i64 0]) ?_ rfl ?_
        rotate_left
        · exact ⟨_, rfl, HFIN.out.1, HFIN.out.2⟩
        · simp [results, Try.results35, go_sem, s1, s2, hlt3])

end Go.Proofs.Ytdbioekmhlgolaa
