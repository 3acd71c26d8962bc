/- Contract: Seal. -/
import Derived.Test.Ytikobhckkbicaaa2A
import Derived.Deep.RegionHeld3
namespace Go.Proofs.Ytikobhckkbicaaa
open Go.RowKit Sk

theorem size_u8 : (Try.prog.info? 5).map (·.size) = some 1 := by kernel_rfl

/-- make([]byte, n) for a constant n. -/
theorem run_make_u8 (n : Nat) (hn : n ≤ 1000000) : ∀ W : World, (Instr.makeSlice 22 (.int .i64 (n : Int)) (.int .i64 (n : Int))).run Try.prog W = .ok (.slice (some ⟨W.heap.size, 0, none⟩) n n) (W.alloc (.cells (octets (List.replicate n 0)).toArray 5)) := by
  obtain ⟨i8, hi8, hz8, hs8, hb8⟩ := info_parts info8
  intro W
  have := run_make (P := Try.prog) W 22 5 i8 _ Try.underlying22 hi8 hz8 .i64 .i64 (n : Int) (n : Int) (by omega) (by omega) (by rw [hb8]; omega) (by omega)
  rw [this, hs8]
  have e : madeCells (Value.int .u8 0).cells ((n : Int).toNat * 1) = (octets (List.replicate n 0)).toArray := by
    simp only [madeCells, octets, Value.cells]
    apply Array.ext
    · simp
    · intro i h1 h2
      simp [Nat.mod_one]
  simp only [Int.toNat_natCast, Nat.mul_one] at e ⊢
  rw [e]

theorem octets_splice_at (l : List UInt8) (i : Nat) (m : List UInt8) : splice (octets l) i (octets m) = octets (l.take i ++ m ++ l.drop (i + m.length)) := by
  simp [splice, octets, List.map_append, List.map_take, List.map_drop]

theorem seal_text (m pay : List UInt8) (hm : m.length = 8) (hp : pay.length ≤ 16) :
    splice (splice (splice (octets (zeros 32)) 0 (octets m)) 8 (octets pay)) 24 (octets m) = octets (m ++ (pay ++ zeros (16 - pay.length)) ++ m) := by
  rw [octets_splice_at, octets_splice_at, octets_splice_at]
  congr 1
  have e1 : List.take 0 (zeros 32) ++ m ++ List.drop (0 + m.length) (zeros 32) = m ++ zeros 24 := by simp [hm, zeros]
  rw [e1]
  have e2 : List.take 8 (m ++ zeros 24) = m := by rw [← hm]; simp
  have e3 : List.drop (8 + pay.length) (m ++ zeros 24) = zeros (24 - pay.length) := by
    rw [← hm, List.drop_append, List.drop_eq_nil_of_le (by omega), hm, List.nil_append, zeros, List.drop_replicate, zeros]
    congr 1
    omega
  rw [e2, e3]
  have e4 : List.take 24 (m ++ pay ++ zeros (24 - pay.length)) = m ++ pay ++ zeros (16 - pay.length) := by
    rw [List.take_append, List.take_of_length_le (by simp; omega)]
    simp [zeros, hm]
    omega
  have e5 : List.drop (24 + m.length) (m ++ pay ++ zeros (24 - pay.length)) = [] := List.drop_eq_nil_of_le (by simp [zeros]; omega)
  rw [e4, e5]
  simp

theorem len_z : (octets (zeros 32)).length = 32 := by simp [octets, zeros]
theorem len_s1 {m : List UInt8} (hm : m.length = 8) : (splice (octets (zeros 32)) 0 (octets m)).length = 32 := by rw [length_splice _ _ _ (by rw [octets_length, hm, len_z]; omega), len_z]
theorem len_s2 {m p : List UInt8} (hm : m.length = 8) (hp : p.length ≤ 16) : (splice (splice (octets (zeros 32)) 0 (octets m)) 8 (octets p)).length = 32 := by rw [length_splice _ _ _ (by rw [len_s1 hm, octets_length]; omega), len_s1 hm]

theorem cells_of_blk {w : World} {g : Nat} {cs : Array Value} {t : TypeId} {fr : Nat × Nat} (h : w.heap[g]? = some (.cells cs t fr)) {xs : List Value} (hx : cs = xs.toArray) : ∀ j u, xs[j]? = some u → w.cell? ((⟨g, 0, none⟩ : Addr).add j) = some u := by
  intro j u hu
  have e : (⟨g, 0, none⟩ : Addr).add j = ⟨g, j, none⟩ := by unfold Addr.add; split <;> simp_all
  rw [e, cell_of_row w g j _ _ _ h, hx]
  simpa using hu

set_option maxHeartbeats 800000 in
theorem seal_any (n : Int) (v : Value) (pay : List UInt8) (w : World) (h : Bs w (fun _ => True) v pay) :
    Calls Try.prog 38 #[.int .i64 n, v] w (GivesRE w (seal_ n pay)) := by
  obtain ⟨A, c, rfl, hc1, hc2, hc3, hc⟩ := h
  unfold maxLen at hc2
  have HIS := Lib.hid (fun W => isStamp_any n W)
  cases hs : isSt n
  · have HE := Lib.hid (show seal_ n pay = ([], 1) by simp [seal_, hs])
    rw [hs] at HIS
    clear hs
    go_enter Try.func38, Try.ntmps38
    go_wp2_with fail
    refine (HIS.out _).mono ?_
    rintro e w' ⟨rfl, rfl⟩
    go_wp2_with fail
    go_ret2
    exact ⟨_, by rw [HE.out]; rfl, by rw [HE.out]; exact World.ownsRow_nil _ _ _ _, Below.refl _ _⟩
  · by_cases hl : pay.length ≤ 16
    · have HE := Lib.hid (show seal_ n pay = (mk n ++ (pay ++ zeros (16 - pay.length)) ++ mk n, 0) by simp [seal_, hs]; omega)
      rw [hs] at HIS
      obtain ⟨y0, y1, y2, y3, y4, y5, y6, y7, hy⟩ := octets_lit (mk_length n)
      have hmk := markOf_any n w hs
      rw [hy] at hmk
      have HMK := Lib.hid hmk
      have HY := Lib.hid hy
      have hmk8 : ∀ W : World, (Instr.makeSlice 22 (.int .i64 32) (.int .i64 32)).run Try.prog W = .ok (.slice (some ⟨W.heap.size, 0, none⟩) 32 32) (W.alloc (.cells (octets (zeros 32)).toArray 5)) := run_make_u8 32 (by omega)
      obtain ⟨R0, hR0⟩ : ∃ R0, R0 = (octets (zeros 32)).toArray := ⟨_, rfl⟩
      rw [← hR0] at hmk8
      have HR0 := Lib.hid hR0
      have HC := Lib.hid hc
      clear hs hmk hy hR0 hc
      have hl' : (pay.length : Int) ≤ 16 := by omega
      generalize hL : pay.length = L at *
      have HL := Lib.hid hL
      clear hL
      go_enter Try.func38, Try.ntmps38
      go_wp2_with fail
      refine (HIS.out _).mono ?_
      rintro e w' ⟨rfl, rfl⟩
      go_wp2_with fail
      refine HMK.out.mono ?_
      rintro e w1 ⟨rfl, hb1⟩
      have HB1 := Lib.hid hb1
      clear hb1
      have h8 := Lib.hid (show (octets (mk n)).length = 8 by rw [octets_length, mk_length])
      go_wp2_with (refine wpList_copy_only (o := ⟨some 19, _, _, _, _, _⟩) rfl (.tmp 17) (.tmp 18) 22 22 rfl 5 Try.underlying22 size_u8 (some ⟨w1.heap.size + 1, 0, none⟩) (some ⟨w1.heap.size, 0, none⟩) 32 32 8 8 rfl rfl (w1.heap.size + 1) 0 (octets (zeros 32)) 5 ?a1 (octets (mk n)) ?a2 ?a3 ?a4 octets_one ?_)
      case a1 => rw [heap_second, HR0.out]
      case a2 => rw [h8.out]; rfl
      case a3 =>
        have e : octets (mk n) = [.int .u8 y0, .int .u8 y1, .int .u8 y2, .int .u8 y3, .int .u8 y4, .int .u8 y5, .int .u8 y6, .int .u8 y7] := by simpa using congrArg Array.toList HY.out
        rw [e]
        intros
        assumption
      case a4 => rw [h8.out]; simp [octets, zeros]
      intro w2 hsp2 hgr2 hsz2
      go_wp2_with (refine wpList_copy_only (o := ⟨some 23, _, _, _, _, _⟩) rfl (.tmp 21) (.tmp 22) 22 22 rfl 5 Try.underlying22 size_u8 (some ⟨w1.heap.size + 1, 8, none⟩) A 24 24 L c rfl rfl (w1.heap.size + 1) 8 _ 5 hsp2.out (octets pay) ?b2 ?b3 ?b4 octets_one ?_)
      case b2 => rw [octets_length, HL.out]; exact (Nat.min_eq_left (by omega)).symm
      case b3 =>
        intro h0
        obtain ⟨ad, hA, _, hcell⟩ := HC.out h0
        refine ⟨ad, hA, fun j u hu => ?_⟩
        have h1 := HB1.out.cell (World.block_lt_of_cell? w _ (hcell j u hu))
        have hlt := World.block_lt_of_cell? w _ (hcell j u hu)
        have hz1 := HB1.out.size
        rw [hgr2.cell (((((below_new w1 _).trans ((below_new (w1.alloc _) _).mono (by simp))).cell (by omega)).trans h1).trans (hcell j u hu)) (by simp; rw [add_block] at hlt ⊢; omega)]
      case b4 => rw [len_s1 (mk_length n), octets_length, HL.out]; omega
      intro w3 hsp3 hgr3 hsz3
      have hc3 : ∀ j u, (octets (mk n))[j]? = some u → w3.cell? ((⟨w1.heap.size, 0, none⟩ : Addr).add j) = some u := by
        have hb : w3.heap[w1.heap.size]? = some (.cells (octets (mk n)).toArray 89 (0, 0)) := by
          rw [hgr3.block _ (by omega) (by simp), hgr2.block _ (by simp; omega) (by simp), HY.out]
          exact ((below_new (w1.alloc _) _).block w1.heap.size (by simp)).trans (heap_alloc_new _ _)
        exact cells_of_blk hb rfl
      have HC3 := Lib.hid hc3
      have HG2 := Lib.hid hgr2
      have HG3 := Lib.hid hgr3
      clear hc3 hgr2 hgr3
      have hlen := len_s2 (p := pay) (mk_length n) (by rw [HL.out]; exact hl)
      have HLEN := Lib.hid hlen
      clear hlen
      go_wp2_with fail
      go_region_held3 (fun w' => True) (first | go_keep) ((refine step_copy_only rfl (.tmp 25) (.tmp 26) 22 22 rfl 5 Try.underlying22 size_u8 (some ⟨w1.heap.size + 1, 24, none⟩) (some ⟨w1.heap.size, 0, none⟩) 8 8 8 8 rfl rfl (w1.heap.size + 1) 24 _ 5 hsp3.out (octets (mk n)) (by rw [h8.out]; rfl) (fun _ => ⟨rfl, _, rfl, HC3.out⟩) (by rw [HLEN.out, h8.out]; omega) octets_one ?_; intro w4 hsp4 hgr4 hsz4))
      go_wp2_with fail
      go_ret2
      have hz1 := HB1.out.size
      refine ⟨_, by rw [HE.out]; rfl, ?_, ((((((HB1.out.alloc hz1 _).alloc (by simp; omega) _).grown HG2.out (by simp; omega) (by simp; omega)).grown HG3.out (by omega) (by simp; omega)).drew).grown hgr4 (by simp; omega) (by simp; omega))⟩
      rw [HE.out]
      have h32 : (mk n ++ (pay ++ zeros (16 - L)) ++ mk n).length = 32 := by simp [mk_length, zeros, HL.out]; omega
      have e := hsp4.out
      rw [seal_text (mk n) pay (mk_length n) (by rw [HL.out]; exact hl), HL.out] at e
      exact own_new (by omega) h32 (by simp [maxLen]) e
    · have HE := Lib.hid (show seal_ n pay = ([], 3) by simp [seal_, hs]; omega)
      rw [hs] at HIS
      clear hs
      have hl' : (16 : Int) < pay.length := by omega
      generalize pay.length = L at *
      go_enter Try.func38, Try.ntmps38
      go_wp2_with fail
      refine (HIS.out _).mono ?_
      rintro e w' ⟨rfl, rfl⟩
      go_wp2_with fail
      go_ret2
      exact ⟨_, by rw [HE.out]; rfl, by rw [HE.out]; exact World.ownsRow_nil _ _ _ _, Below.refl _ _⟩

end Go.Proofs.Ytikobhckkbicaaa
