/- Contracts of the reference: New, Check, Same. -/
import Derived.Test.YtdbioekmhlgolaaU
namespace Go.Proofs.Ytdbioekmhlgolaa
open Go.RowKit Dk

set_option maxRecDepth 4000 in
set_option maxHeartbeats 1000000 in
theorem refNew_any (n : Int) (w : World) : Calls Try.prog 26 #[.int .i64 n] w (GivesDE w (new n)) := by
  have hz := DiskOwn.zero (w.alloc (Obj.cells #[.slice none 0 0, .slice none 0 0, .int .i64 0, .bool false] 25)) w.heap.size
  have HZ := Lib.hid hz
  clear hz
  by_cases h1 : n < 1
  · go_enter Try.func26, Try.ntmps26
    go_wp2_with fail
    rw [new, if_pos (.inl h1)]
    refine bodyPost_ret (v := .tuple #[.agg #[.slice none 0 0, .slice none 0 0, .int .i64 0, .bool false], .int .i64 1]) ?_ rfl ?_
    · simp [results, Try.results26, go_sem]
    · exact ⟨_, rfl, HZ.out, below_new _ _⟩
  · by_cases h2 : 8192 < n
    · go_enter Try.func26, Try.ntmps26
      go_wp2_with fail
      rw [new, if_pos (.inr h2)]
      refine bodyPost_ret (v := .tuple #[.agg #[.slice none 0 0, .slice none 0 0, .int .i64 0, .bool false], .int .i64 1]) ?_ rfl ?_
      · simp [results, Try.results26, go_sem]
      · exact ⟨_, rfl, HZ.out, below_new _ _⟩
    · obtain ⟨m, rfl⟩ : ∃ m : Nat, n = (m : Int) := ⟨n.toNat, by omega⟩
      obtain ⟨i8, hi8, hz8, hs8, hb8⟩ := info_parts info8
      obtain ⟨R0, hR0⟩ : ∃ R0, R0 = madeCells (Value.int .u8 0).cells (m * 32) := ⟨_, rfl⟩
      have hmk1 : ∀ W : World, (Instr.makeSlice 22 (.int .i64 (32 * (m : Int))) (.int .i64 (32 * (m : Int)))).run Try.prog W = .ok (.slice (some ⟨W.heap.size, 0, none⟩) (m * 32) (m * 32)) (W.alloc (.cells R0 5)) := by
        intro W
        have := run_make (P := Try.prog) W 22 5 i8 _ Try.underlying22 hi8 hz8 .i64 .i64 (32 * (m : Int)) (32 * (m : Int)) (by omega) (by omega) (by rw [hb8]; omega) (by omega)
        rw [this, hs8, hR0, show (32 * (m : Int)).toNat = m * 32 by omega, Nat.mul_one]
      have HR0 := Lib.hid hR0
      clear hR0 hi8 hz8 hs8 hb8
      go_enter Try.func26, Try.ntmps26
      go_wp2_with fail
      have hw := heap_second w (Obj.cells #[Value.slice (some { block := w.heap.size + 1, off := 0 }) (m * 32) (m * 32), Value.slice none 0 0, Value.int IntKind.i64 (-1), Value.bool false] 25) (Obj.cells R0 5)
      have hR : R0.toList = octets (List.replicate (m * 32) 0) := by
        rw [HR0.out, show (Value.int IntKind.u8 0).cells = #[Value.int .u8 0] from rfl, toList_madeCells_one]
        simp [octets]
      have hRs : R0.size = m * 32 := by rw [HR0.out, size_madeCells]
      have hown : DiskOwn ((w.alloc (Obj.cells #[Value.slice (some { block := w.heap.size + 1, off := 0 }) (m * 32) (m * 32), Value.slice none 0 0, Value.int IntKind.i64 (-1), Value.bool false] 25)).alloc (Obj.cells R0 5)) w.heap.size
          (.agg #[Value.slice (some { block := w.heap.size + 1, off := 0 }) (m * 32) (m * 32), Value.slice none 0 0, Value.int IntKind.i64 (-1), Value.bool false]) ⟨List.replicate (m * 32) 0, [], -1, false⟩ := by
        refine ⟨_, _, [], rfl, ⟨by simp [octets], .inr ⟨w.heap.size + 1, m * 32, R0, by simp, by omega, hw, by simp, by unfold maxLen; omega, by rw [hRs, Nat.mul_one], ?_⟩⟩, World.ownsRow_nil _ _ _ _, by simp, fun j x hx => by simp at hx⟩
        rw [hR, List.take_of_length_le (by simp [octets])]
      have hn : new (m : Int) = (⟨List.replicate (m * 32) 0, [], -1, false⟩, 0) := by rw [new, if_neg (by omega), Int.toNat_natCast]
      rw [hn]
      refine bodyPost_ret (v := .tuple #[.agg #[Value.slice (some { block := w.heap.size + 1, off := 0 }) (m * 32) (m * 32), Value.slice none 0 0, Value.int IntKind.i64 (-1), Value.bool false], .int .i64 0]) ?_ rfl ?_
      · simp [results, Try.results26, go_sem]
      · exact ⟨_, rfl, hown, (below_new _ _).alloc (by simp) _⟩


set_option maxRecDepth 4000 in
set_option maxHeartbeats 4000000 in
theorem refCheck_any (v : Value) (d : Disk) (w : World) (h : DiskR w (fun _ => True) v d) :
    Calls Try.prog 28 #[v] w fun e w' => e = .returned (.int .i64 (check d)) ∧ Below w.heap.size w w' := by
  obtain ⟨vd, vw, rfl, ⟨A, c, rfl, hc1, hc2, _⟩, A', c', xs, rfl, hc1', hc2', _, hx, hc⟩ := h
  generalize hf : d.fuse = f at *
  have HF := Lib.hid hf
  clear hf
  generalize hdd : d.dead = dd at *
  have HDD := Lib.hid hdd
  clear hdd
  generalize hL : d.wet.length = L at *
  generalize hN : d.dry.length = N at *
  have HL := Lib.hid hL
  have HN := Lib.hid hN
  clear hL hN
  unfold maxLen at hc2 hc2'
  have HX := Lib.hid hx
  have HC := Lib.hid hc
  clear hx hc
  by_cases g3 : (N : Int) % 32 = 0
  · have g3' : (((N : Int) % 32) != 0) = false := by simp [g3]
    have G3 := Lib.hid g3
    clear g3
    by_cases g1 : 1 ≤ (N : Int) / 32
    · by_cases g2 : (N : Int) / 32 ≤ 8192
      · by_cases g4 : L ≤ 8192
        · by_cases g5 : -1 ≤ f
          · by_cases g6 : f ≤ 1073741824
            · go_enter Try.func28, Try.ntmps28
              go_wp2_with fail
              go_loopw [42] (fun i wr => ∃ k : Nat, k ≤ L ∧ i = .int .i64 (k : Int) ∧ okTo N k d.wet ∧ Below (w.heap.size + 1) (w.alloc (Obj.cells #[Value.slice A N c, Value.slice A' L c', Value.int IntKind.i64 f, Value.bool dd] 25)) wr) (fun i _ => L - (intOf i).toNat)
              case atStart => exact ⟨0, by omega, rfl, (fun j x h _ => by omega), Below.refl _ _⟩
              case round =>
                obtain ⟨k, hk, rfl, hok, hb⟩ := hrel
                have HOK := Lib.hid hok
                clear hok
                by_cases hlt : k < L
                · obtain ⟨x, hkx⟩ : ∃ x, d.wet[k]? = some x := ⟨_, List.getElem?_eq_getElem (by rw [HL.out]; exact hlt)⟩
                  obtain ⟨e1, vb, e2, B, cb, rfl, hb1, hb2, _, _⟩ := HX.out.2 k x hkx
                  obtain ⟨ad, hA, _, hcell⟩ := HC.out (by rw [HX.out.1, HL.out]; omega)
                  subst hA
                  have hbw : Below w.heap.size w wr := (below_new _ _).trans (hb.mono (by omega))
                  have c1 : wr.cell? (ad.add (k * 2)) = some (.int .i64 x.pos) := (hbw.cell (World.block_lt_of_cell? w _ (hcell _ _ e1))).trans (hcell _ _ e1)
                  have c2 := cell_next ((hbw.cell (World.block_lt_of_cell? w _ (hcell _ _ e2))).trans (hcell _ _ e2))
                  generalize hM : x.b.length = M at *
                  have HM := Lib.hid hM
                  have HKX := Lib.hid hkx
                  clear hM e1 e2 hcell hkx
                  obtain ⟨hcl, hfr⟩ := old_cells hb
                  have hz : w.heap.size < wr.heap.size := by have := hb.size; simp only [World.size_alloc] at this; omega
                  have hbr : Below w.heap.size w (wr.alloc (Obj.cells #[Value.int IntKind.i64 x.pos, Value.slice B M cb] 56)) := hbw.alloc (by omega) _
                  have hbk : Below (w.heap.size + 1) (w.alloc (Obj.cells #[Value.slice A N c, Value.slice (some ad) L c', Value.int IntKind.i64 f, Value.bool dd] 25)) (wr.alloc (Obj.cells #[Value.int IntKind.i64 x.pos, Value.slice B M cb] 56)) := hb.alloc (by omega) _
                  have HBR := Lib.hid hbr
                  have HBK := Lib.hid hbk
                  clear hbr hbk
                  have hbad : okWr d.dry.length x = false → check d = 1 := fun h1 => by
                    have h2 : d.wet.all (okWr d.dry.length) = false := by
                      rw [List.all_eq_false]
                      exact ⟨x, List.mem_of_getElem? HKX.out, by simp [h1]⟩
                    simp [check, Disk.ok, h2]
                  have HBAD := Lib.hid hbad
                  clear hbad
                  by_cases p1 : 0 ≤ x.pos
                  · by_cases p2 : x.pos < (N : Int) / 32
                    · by_cases p3 : M = 32
                      · have hM' : ((M : Int) != 32) = false := by simp [p3]
                        have P3 := Lib.hid p3
                        clear p3
                        go_wp2
                        refine ⟨⟨k + 1, by omega, by go_num, ?_, HBK.out⟩, by simp [intOf]; omega⟩
                        intro j y hj hy
                        by_cases hjk : j < k
                        · exact HOK.out j y hjk hy
                        · obtain rfl : j = k := by omega
                          rw [HKX.out] at hy
                          injection hy with hy
                          subst hy
                          have h2 := P3.out
                          have h3 := HM.out
                          simp only [okWr, decide_eq_true_eq]
                          omega
                      · have hM' : ((M : Int) != 32) = true := by simp; omega
                        have P3 := Lib.hid p3
                        clear p3
                        go_wp2
                        go_ret
                        exact ⟨ret_int (HBAD.out (by have := HM.out; have := P3.out; simp only [okWr, decide_eq_false_iff_not]; omega)).symm, HBR.out⟩
                    · go_wp2
                      go_ret
                      exact ⟨ret_int (HBAD.out (by have := HN.out; simp only [okWr, decide_eq_false_iff_not]; omega)).symm, HBR.out⟩
                  · go_wp2
                    go_ret
                    exact ⟨ret_int (HBAD.out (by simp only [okWr, decide_eq_false_iff_not]; omega)).symm, HBR.out⟩
                · obtain rfl : k = L := by omega
                  go_wp2
                  go_ret
                  refine ⟨ret_int ?_, (below_new _ _).trans (hb.mono (by omega))⟩
                  have h2 : d.wet.all (okWr d.dry.length) = true := by
                    rw [List.all_eq_true]
                    intro x hx
                    obtain ⟨j, hj, rfl⟩ := List.getElem_of_mem hx
                    rw [HN.out]
                    exact HOK.out j _ (by have := HL.out; omega) (List.getElem?_eq_getElem hj)
                  have h4 := HN.out
                  have h5 := HL.out
                  have h6 := HF.out
                  have h7 := G3.out
                  rw [check, Disk.ok, h2, Bool.and_true, if_pos]
                  rw [decide_eq_true_eq]
                  omega
            · go_enter Try.func28, Try.ntmps28
              go_wp2
              go_ret
              exact ⟨ret_int (by rw [check, Disk.ok, HL.out, HN.out, HF.out]; simp; omega), (Below.refl _ _).alloc (Nat.le_refl _) _⟩
          · go_enter Try.func28, Try.ntmps28
            go_wp2
            go_ret
            exact ⟨ret_int (by rw [check, Disk.ok, HL.out, HN.out, HF.out]; simp; omega), (Below.refl _ _).alloc (Nat.le_refl _) _⟩
        · go_enter Try.func28, Try.ntmps28
          go_wp2
          go_ret
          exact ⟨ret_int (by rw [check, Disk.ok, HL.out, HN.out]; simp [g4]), (Below.refl _ _).alloc (Nat.le_refl _) _⟩
      · go_enter Try.func28, Try.ntmps28
        go_wp2
        go_ret
        exact ⟨ret_int (by rw [check, Disk.ok, HL.out, HN.out]; simp; omega), (Below.refl _ _).alloc (Nat.le_refl _) _⟩
    · go_enter Try.func28, Try.ntmps28
      go_wp2
      go_ret
      exact ⟨ret_int (by rw [check, Disk.ok, HL.out, HN.out]; simp; omega), (Below.refl _ _).alloc (Nat.le_refl _) _⟩
  · have g3' : (((N : Int) % 32) != 0) = true := by simpa using g3
    have G3 := Lib.hid g3
    clear g3
    go_enter Try.func28, Try.ntmps28
    go_wp2
    go_ret
    exact ⟨ret_int (by rw [check, Disk.ok, HL.out, HN.out]; have := G3.out; simp; omega), (Below.refl _ _).alloc (Nat.le_refl _) _⟩

end Go.Proofs.Ytdbioekmhlgolaa
