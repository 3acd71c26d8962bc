/- Contracts: small functions of the reference, and of the laws. -/
import Derived.Test.YtdbioekmhlgolaaG
import Derived.Laws.BytesString
namespace Go.Proofs.Ytdbioekmhlgolaa
open Go.RowKit Dk

set_option maxHeartbeats 400000 in
theorem equal_any (va vb : Value) (a b : List UInt8) (w : World) (ha : Bs w (fun _ => True) va a) (hb : Bs w (fun _ => True) vb b) :
    Calls Try.prog 44 #[va, vb] w fun e w' => e = .returned (.bool (decide (a = b))) ∧ w = w' := by
  have h1 := run_text ha
  have h2 := run_text hb
  obtain ⟨A, c, rfl, _⟩ := ha
  obtain ⟨B, c', rfl, _⟩ := hb
  go_enter Try.func44, Try.ntmps44
  go_wp2
  go_ret
  exact ⟨ret_bool (by by_cases h : a = b <;> simp [h]), rfl⟩

set_option maxHeartbeats 400000 in
theorem sector_any (x : UInt8) (w : World) : Calls Try.prog 30 #[.int .u8 (x.toNat : Int)] w (GivesBs (List.replicate 32 x) w) := by
  obtain ⟨i8, hi8, hz8, hs8, hb8⟩ := info_parts info8
  obtain ⟨R0, hR0⟩ : ∃ R0, R0 = madeCells (Value.int .u8 0).cells 32 := ⟨_, rfl⟩
  have hmk1 : ∀ W : World, (Instr.makeSlice 22 (.int .i64 32) (.int .i64 32)).run Try.prog W = .ok (.slice (some ⟨W.heap.size, 0, none⟩) 32 32) (W.alloc (.cells R0 5)) := by
    intro W
    have := run_make (P := Try.prog) W 22 5 i8 _ Try.underlying22 hi8 hz8 .i64 .i64 32 32 (by omega) (by omega) (by rw [hb8]; omega) (by omega)
    rw [this, hs8, hR0]
    rfl
  have HR0 := Lib.hid hR0
  clear hR0 hi8 hz8 hs8 hb8
  have hx := x.toNat_lt
  go_enter Try.func30, Try.ntmps30
  go_wp2_with fail
  go_loopw [8] (fun i wr => ∃ (k : Nat) (R : Array Value), k ≤ 32 ∧ i = .int .i64 (k : Int) ∧ Below w.heap.size w wr ∧ wr.heap[w.heap.size]? = some (.cells R 5 (0, 0)) ∧ R.size = 32 ∧ ∀ j, j < k → R[j]? = some (.int .u8 (x.toNat : Int))) (fun i _ => 32 - (intOf i).toNat)
  case atStart => exact ⟨0, R0, by omega, rfl, below_new _ _, heap_alloc_new _ _, by rw [HR0.out, size_madeCells], fun j hj => absurd hj (by omega)⟩
  case round =>
    obtain ⟨k, R, hk, rfl, hb, hh, hs, hj⟩ := hrel
    have hcc : ∀ i, wr.cell? ⟨w.heap.size, i, none⟩ = R[i]? := fun i => cell_of_row wr _ i _ _ _ hh
    have hff : ∀ i, wr.frozen? ⟨w.heap.size, i, none⟩ = false := fun i => by simp [World.frozen?, hh]
    have HH := Lib.hid hh
    have HJ := Lib.hid hj
    have HS := Lib.hid hs
    have HB := Lib.hid hb
    by_cases hlt : k < 32
    · obtain ⟨u, hu⟩ : ∃ u, R[k]? = some u := ⟨_, Array.getElem?_eq_getElem (by omega)⟩
      have hcell : wr.cell? ⟨w.heap.size, k, none⟩ = some u := (hcc k).trans hu
      have hfz := hff k
      clear hh hj hs hb hcc hff hu
      go_wp2_with fail
      refine ⟨⟨k + 1, _, by omega, by go_num, HB.out.setCell (by simp) _, blk_set HH.out k _, by simp [HS.out], fun j hj => ?_⟩, by simp [intOf]; omega⟩
      by_cases hjk : j < k
      · rw [Array.getElem?_setIfInBounds_ne (by omega)]; exact HJ.out j hjk
      · obtain rfl : j = k := by omega
        rw [Array.getElem?_setIfInBounds_self_of_lt (by rw [HS.out]; exact hlt)]
    · obtain rfl : k = 32 := by omega
      clear hh hj hs hb hcc hff
      go_wp2_with fail
      go_ret
      have hR : R = (octets (List.replicate 32 x)).toArray := by
        apply Array.ext_getElem?
        intro j
        by_cases h32 : j < 32
        · rw [HJ.out j h32, octets_replicate, List.getElem?_toArray, List.getElem?_replicate, if_pos h32]
        · rw [Array.getElem?_eq_none (by rw [HS.out]; omega), octets_replicate, List.getElem?_toArray, List.getElem?_replicate, if_neg h32]
      refine ⟨_, rfl, ⟨by simp [octets], .inr ⟨w.heap.size, 32, R, rfl, Nat.le_refl _, HH.out, by simp, by simp [maxLen], by rw [HS.out], ?_⟩⟩, HB.out⟩
      rw [hR]
      exact List.take_of_length_le (by simp [octets])

end Go.Proofs.Ytdbioekmhlgolaa
