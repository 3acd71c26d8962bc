/- Contracts of small functions of the disk. -/
import Derived.Test.YtdbioekmhlgolaaM
namespace Go.Proofs.Ytdbioekmhlgolaa
open Go.RowKit Dk

theorem isFuse_any (a : Int) (w : World) :
    Calls Try.prog 41 #[.int .i64 a] w fun e w' => e = .returned (.bool (fuseOk a)) ∧ w = w' := by
  unfold fuseOk
  by_cases h1 : -1 ≤ a
  · by_cases h2 : a ≤ 1073741824
    · go_enter Try.func41, Try.ntmps41
      go_wp2
      go_ret
      exact ⟨by simp [h1, h2], rfl⟩
    · go_enter Try.func41, Try.ntmps41
      go_wp2
      go_ret
      exact ⟨by simp [h1, h2], rfl⟩
  · go_enter Try.func41, Try.ntmps41
    go_wp2
    go_ret
    exact ⟨by simp; omega, rfl⟩

set_option maxHeartbeats 400000 in
theorem isThere_any (v : Value) (d : Disk) (a : Int) (w : World) (h : DiskR w (fun _ => True) v d) :
    Calls Try.prog 32 #[v, .int .i64 a] w fun e w' => e = .returned (.bool (d.has a)) ∧ Below w.heap.size w w' := by
  obtain ⟨vd, vw, rfl, ⟨A, c, rfl, hc1, hc2, _⟩, A', c', _, rfl, _⟩ := h
  generalize hL : d.wet.length = L
  generalize hN : d.dry.length = N at *
  have HL := Lib.hid hL
  have HN := Lib.hid hN
  clear hL hN
  unfold maxLen at hc2
  by_cases h1 : 0 ≤ a
  · by_cases h2 : a < (N : Int) / 32
    · go_enter Try.func32, Try.ntmps32
      go_wp2
      go_ret
      exact ⟨by rw [Disk.has, HN.out]; simp [h1, h2], (Below.refl _ _).alloc (Nat.le_refl _) _⟩
    · go_enter Try.func32, Try.ntmps32
      go_wp2
      go_ret
      exact ⟨by rw [Disk.has, HN.out]; simp [h1, h2], (Below.refl _ _).alloc (Nat.le_refl _) _⟩
  · go_enter Try.func32, Try.ntmps32
    go_wp2
    go_ret
    exact ⟨by rw [Disk.has, HN.out]; simp; omega, (Below.refl _ _).alloc (Nat.le_refl _) _⟩

/-- Of a list of writes, none is at fault up to here. -/
def okTo (n k : Nat) (l : List Wr) : Prop := ∀ j x, j < k → l[j]? = some x → okWr n x = true

set_option maxHeartbeats 400000 in
theorem check_any (v : Value) (d : Disk) (w : World) (h : DiskR w (fun _ => True) v d) :
    Calls Try.prog 27 #[v] w fun e w' => e = .returned (.int .i64 (check d)) ∧ Below w.heap.size w w' := by
  have hR := h
  obtain ⟨vd, vw, rfl, ⟨A, c, rfl, hc1, hc2, _⟩, A', c', xs, rfl, hc1', hc2', _, hx, hc⟩ := h
  generalize hf : d.fuse = f at *
  have HF := Lib.hid hf
  clear hf
  generalize hdd : d.dead = dd at *
  have HDD := Lib.hid hdd
  clear hdd
  generalize hL : d.wet.length = L at *
  generalize hN : d.dry.length = N at *
  have HL := Lib.hid hL
  have HN := Lib.hid hN
  clear hL hN
  unfold maxLen at hc2 hc2'
  have HX := Lib.hid hx
  have HC := Lib.hid hc
  have HR := Lib.hid hR
  clear hx hc hR
  by_cases g1 : 1 ≤ (N : Int) / 32
  · by_cases g2 : (N : Int) / 32 ≤ 8192
    · by_cases g3 : (N : Int) % 32 = 0
      · by_cases g4 : L ≤ 8192
        · cases g5 : fuseOk f
          · have g1' : decide ((N : Int) / 32 < 1) = false := by simp; omega
            have g3' : (((N : Int) % 32) != 0) = false := by simp [g3]
            have G3 := Lib.hid g3
            have G5 := Lib.hid g5
            clear g3 g5
            go_enter Try.func27, Try.ntmps27
            go_wp2_with (go_at_call 41; refine (isFuse_any _ _).mono ?_; rw [G5.out]; rintro e w' ⟨rfl, rfl⟩)
            go_ret
            exact ⟨ret_int (by rw [check, Disk.ok, HL.out, HN.out, HF.out]; have := G5.out; unfold fuseOk at this; simp at this; simp; omega), (Below.refl _ _).alloc (Nat.le_refl _) _⟩
          · have g3' : (((N : Int) % 32) != 0) = false := by simp [g3]
            have G3 := Lib.hid g3
            have G5 := Lib.hid g5
            clear g3 g5
            go_enter Try.func27, Try.ntmps27
            go_wp2_with (go_at_call 41; refine (isFuse_any _ _).mono ?_; rw [G5.out]; rintro e w' ⟨rfl, rfl⟩)
            go_loopw [38] (fun i wr => ∃ k : Nat, k ≤ L ∧ i = .int .i64 (k : Int) ∧ okTo N k d.wet ∧ Below (w.heap.size + 1) (w.alloc (Obj.cells #[Value.slice A N c, Value.slice A' L c', Value.int IntKind.i64 f, Value.bool dd] 25)) wr) (fun i _ => L - (intOf i).toNat)
            case atStart => exact ⟨0, by omega, rfl, (fun j x h _ => by omega), Below.refl _ _⟩
            case round =>
              obtain ⟨k, hk, rfl, hok, hb⟩ := hrel
              by_cases hlt : k < L
              · have hkx : ∃ x, d.wet[k]? = some x := ⟨_, List.getElem?_eq_getElem (by rw [HL.out]; exact hlt)⟩
                obtain ⟨x, hkx⟩ := hkx
                obtain ⟨e1, vb, e2, B, cb, rfl, hb1, hb2, _, _⟩ := HX.out.2 k x hkx
                obtain ⟨ad, hA, _, hcell⟩ := HC.out (by rw [HX.out.1, HL.out]; omega)
                subst hA
                have hbw : Below w.heap.size w wr := (below_new _ _).trans (hb.mono (by omega))
                have c1 : wr.cell? (ad.add (k * 2)) = some (.int .i64 x.pos) := (hbw.cell (World.block_lt_of_cell? w _ (hcell _ _ e1))).trans (hcell _ _ e1)
                have c2 := cell_next ((hbw.cell (World.block_lt_of_cell? w _ (hcell _ _ e2))).trans (hcell _ _ e2))
                generalize hM : x.b.length = M at *
                have HM := Lib.hid hM
                clear hM e1 e2 hcell
                obtain ⟨hcl, hfr⟩ := old_cells hb
                have hz : w.heap.size < wr.heap.size := by have := hb.size; simp only [World.size_alloc] at this; omega
                by_cases hM : M = 32
                · have hM' : ((M : Int) != 32) = false := by simp [hM]
                  have HM2 := Lib.hid hM
                  clear hM
                  have hbr : Below w.heap.size w (wr.alloc (Obj.cells #[Value.int IntKind.i64 x.pos, Value.slice B M cb] 56)) := hbw.alloc (by omega) _
                  have hdr := HR.out.below hbr
                  have hth := isThere_any _ _ x.pos _ hdr
                  have HT := Lib.hid hth
                  have HH := hbr.size
                  have hbk : Below (w.heap.size + 1) (w.alloc (Obj.cells #[Value.slice A N c, Value.slice (some ad) L c', Value.int IntKind.i64 f, Value.bool dd] 25)) (wr.alloc (Obj.cells #[Value.int IntKind.i64 x.pos, Value.slice B M cb] 56)) := hb.alloc (by omega) _
                  clear hth hdr
                  cases hg : d.has x.pos
                  · rw [hg] at HT
                    go_wp2_with fail
                    refine HT.out.mono ?_
                    rintro e w1 ⟨rfl, hb1⟩
                    have HG := Lib.hid hg
                    clear hg
                    go_wp2
                    go_ret
                    refine ⟨ret_int ?_, hbr.trans (hb1.mono HH)⟩
                    have h1 : okWr d.dry.length x = false := by
                      have := HG.out
                      simp only [Disk.has, decide_eq_false_iff_not] at this
                      simp only [okWr, decide_eq_false_iff_not]
                      omega
                    have h2 : d.wet.all (okWr d.dry.length) = false := by
                      rw [List.all_eq_false]
                      exact ⟨x, List.mem_of_getElem? hkx, by simp [h1]⟩
                    simp [check, Disk.ok, h2]
                  · rw [hg] at HT
                    go_wp2_with fail
                    refine HT.out.mono ?_
                    rintro e w1 ⟨rfl, hb1⟩
                    have HG := Lib.hid hg
                    clear hg
                    have hs1 := hb1.size
                    go_wp2
                    go_roundw
                    case rel =>
                      refine ⟨k + 1, by omega, by go_num, ?_, hbk.trans (hb1.mono (by simp; omega))⟩
                      intro j y hj hy
                      by_cases hjk : j < k
                      · exact hok j y hjk hy
                      · obtain rfl : j = k := by omega
                        rw [hkx] at hy
                        injection hy with hy
                        subst hy
                        have h1 := HG.out
                        have h2 := HM2.out
                        have h3 := HM.out
                        have h4 := HN.out
                        simp only [Disk.has, decide_eq_true_eq] at h1
                        simp only [okWr, decide_eq_true_eq]
                        omega
                    case measure => simp [intOf]; omega
                · have hM' : ((M : Int) != 32) = true := by simp; omega
                  go_wp2
                  go_ret
                  refine ⟨ret_int ?_, hbw.alloc (by omega) _⟩
                  have h1 : okWr d.dry.length x = false := by
                    have := HM.out
                    simp only [okWr, decide_eq_false_iff_not]
                    omega
                  have h2 : d.wet.all (okWr d.dry.length) = false := by
                    rw [List.all_eq_false]
                    exact ⟨x, List.mem_of_getElem? hkx, by simp [h1]⟩
                  simp [check, Disk.ok, h2]
              · obtain rfl : k = L := by omega
                go_wp2
                go_ret
                refine ⟨ret_int ?_, (below_new _ _).trans (hb.mono (by omega))⟩
                have h2 : d.wet.all (okWr d.dry.length) = true := by
                  rw [List.all_eq_true]
                  intro x hx
                  obtain ⟨j, hj, rfl⟩ := List.getElem_of_mem hx
                  rw [HN.out]
                  exact hok j _ (by have := HL.out; omega) (List.getElem?_eq_getElem hj)
                have h3 := G5.out
                simp only [fuseOk, decide_eq_true_eq] at h3
                have h4 := HN.out
                have h5 := HL.out
                have h6 := HF.out
                have h7 := G3.out
                rw [check, Disk.ok, h2, Bool.and_true, if_pos]
                rw [decide_eq_true_eq]
                omega
        · have g3' : (((N : Int) % 32) != 0) = false := by simp [g3]
          have G3 := Lib.hid g3
          clear g3
          go_enter Try.func27, Try.ntmps27
          go_wp2
          go_ret
          exact ⟨ret_int (by rw [check, Disk.ok, HL.out, HN.out]; simp [g4]), (Below.refl _ _).alloc (Nat.le_refl _) _⟩
      · have g3' : (((N : Int) % 32) != 0) = true := by simpa using g3
        have G3 := Lib.hid g3
        clear g3
        go_enter Try.func27, Try.ntmps27
        go_wp2
        go_ret
        exact ⟨ret_int (by rw [check, Disk.ok, HL.out, HN.out]; have := G3.out; simp; omega), (Below.refl _ _).alloc (Nat.le_refl _) _⟩
    · go_enter Try.func27, Try.ntmps27
      go_wp2
      go_ret
      exact ⟨ret_int (by rw [check, Disk.ok, HL.out, HN.out]; simp; omega), (Below.refl _ _).alloc (Nat.le_refl _) _⟩
  · go_enter Try.func27, Try.ntmps27
    go_wp2
    go_ret
    exact ⟨ret_int (by rw [check, Disk.ok, HL.out, HN.out]; simp; omega), (Below.refl _ _).alloc (Nat.le_refl _) _⟩

end Go.Proofs.Ytdbioekmhlgolaa
