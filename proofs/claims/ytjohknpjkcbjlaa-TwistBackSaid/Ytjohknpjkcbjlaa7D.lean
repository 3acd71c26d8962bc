/- Contracts of the reference's: May, digits, whole, Both, Not; copies. -/
import Derived.Test.Ytjohknpjkcbjlaa7P
namespace Go.Proofs.Ytjohknpjkcbjlaa
open Go.RowKit Pk Vc Tw

/-- A row of the call's own, one cell of it stored. -/
theorem own_set {w : World} {base n c g k : Nat} {e : TypeId} {xs : List Value} (h : w.ownsRow base e 1 (.slice (some ⟨g, 0, none⟩) n c) n xs) (u : Value) :
    (w.setCell ⟨g, k, none⟩ u).ownsRow base e 1 (.slice (some ⟨g, 0, none⟩) n c) n (xs.set k u) := by
  obtain ⟨h1, h2⟩ := h
  refine ⟨by rw [List.length_set]; exact h1, ?_⟩
  rcases h2 with ⟨he, _⟩ | ⟨g', cap, cur, he, hg, hh, hc, hm, hs, ht⟩
  · cases he
  · injection he with e1 e2 e3
    injection e1 with e1
    injection e1 with e1
    subst e1
    exact .inr ⟨g, cap, cur.setIfInBounds k u, by rw [← e3], hg, blk_set hh _ _, hc, hm, by rw [Array.size_setIfInBounds]; exact hs, by rw [Array.toList_setIfInBounds, List.take_set, ht]⟩
theorem own_at {w : World} {base n c : Nat} {A : Option Addr} {e : TypeId} {xs : List Value} (h : w.ownsRow base e 1 (.slice A n c) n xs) (hn : 0 < n) :
    ∃ g, A = some ⟨g, 0, none⟩ ∧ base ≤ g ∧ n ≤ c ∧ ∀ k u, xs[k]? = some u → w.cell? ⟨g, k, none⟩ = some u ∧ w.frozen? ⟨g, k, none⟩ = false := by
  rcases h.2 with ⟨he, h0⟩ | ⟨g, cap, cur, he, hg, hh, hc, hm, hs, ht⟩
  · omega
  · injection he with e1 e2 e3
    refine ⟨g, e1, hg, by omega, fun k u hu => ⟨(cell_of_row w _ k _ _ _ hh).trans ?_, by simp [World.frozen?, hh]⟩⟩
    rw [← ht, List.getElem?_take] at hu
    split at hu
    · rw [← Array.getElem?_toList]; exact hu
    · cases hu

/-- The digits of a way. -/
def dgs : Nat → Nat → List Int
  | 0, _ => []
  | k + 1, n => ((n % 4 : Nat) : Int) :: dgs k (n / 4)
/-- What digits tell. -/
def vl : List Int → Int
  | [] => 0
  | d :: r => d + 4 * vl r
theorem dgs_length : ∀ (k n : Nat), (dgs k n).length = k
  | 0, _ => rfl
  | k + 1, n => by rw [dgs, List.length_cons, dgs_length k]
theorem dgs_snoc : ∀ (k n : Nat), dgs (k + 1) n = dgs k n ++ [((n / 4 ^ k % 4 : Nat) : Int)]
  | 0, n => by rw [Nat.pow_zero, Nat.div_one]; rfl
  | k + 1, n => by
    have h := dgs_snoc k (n / 4)
    rw [Nat.div_div_eq_div_mul, Nat.mul_comm 4, ← Nat.pow_succ] at h
    rw [dgs, h, dgs]
    rfl
theorem dgs_at : ∀ (k n i : Nat), i < k → (dgs k n)[i]? = some ((n / 4 ^ i % 4 : Nat) : Int)
  | 0, _, _, h => by omega
  | k + 1, n, 0, _ => by rw [Nat.pow_zero, Nat.div_one]; rfl
  | k + 1, n, i + 1, h => by
    have := dgs_at k (n / 4) i (by omega)
    rw [Nat.div_div_eq_div_mul, Nat.mul_comm 4, ← Nat.pow_succ] at this
    rw [dgs, List.getElem?_cons_succ, this]
/-- Digits to the base four. -/
def Four (l : List Int) : Prop := ∀ d ∈ l, 0 ≤ d ∧ d ≤ 3
theorem four_dgs : ∀ (k n : Nat), Four (dgs k n)
  | 0, _ => fun d h => by simp [dgs] at h
  | k + 1, n => fun d h => by
    rw [dgs] at h
    rcases List.mem_cons.1 h with rfl | h
    · omega
    · exact four_dgs k (n / 4) d h
theorem vl_in : ∀ {l : List Int}, Four l → 0 ≤ vl l ∧ vl l < ((4 ^ l.length : Nat) : Int)
  | [], _ => by simp [vl]
  | d :: r, h => by
    have h1 := vl_in (l := r) fun x hx => h x (by simp [hx])
    have h2 := h d (by simp)
    rw [vl, List.length_cons, Nat.pow_succ]
    omega
theorem vl_low {l : List Int} (h : Four l) (hl : l.length ≤ 31) : 0 ≤ vl l ∧ vl l ≤ 4611686018427387903 := by
  have h1 := vl_in h
  have h2 : 4 ^ l.length ≤ 4 ^ 31 := Nat.pow_le_pow_right (by omega) hl
  rw [show (4 : Nat) ^ 31 = 4611686018427387904 by decide] at h2
  generalize 4 ^ l.length = P at *
  omega
theorem vl_drop {l : List Int} {i : Nat} {d : Int} (h : l[i]? = some d) : vl (l.drop i) = d + 4 * vl (l.drop (i + 1)) := by
  obtain ⟨hl, hd⟩ := List.getElem?_eq_some_iff.1 h
  rw [List.drop_eq_getElem_cons hl, hd, vl]
theorem vl_bot : ∀ (k a b : Nat), vl (List.zipWith (fun x y => (x + y) % 4) (dgs k a) (dgs k b)) = ((bot k a b : Nat) : Int)
  | 0, _, _ => rfl
  | k + 1, a, b => by
    rw [dgs, dgs, List.zipWith_cons_cons, vl, vl_bot k, bot]
    omega
theorem vl_nt : ∀ (k a : Nat), vl ((dgs k a).map fun x => (4 - x) % 4) = ((nt k a : Nat) : Int)
  | 0, _ => rfl
  | k + 1, a => by
    rw [dgs, List.map_cons, vl, vl_nt k, nt]
    omega

theorem infoN : (Try.prog.info? 3).map (fun i => (i.zero, i.size, i.bytes)) = some (some (.int .i64 0), 1, 8) := by kernel_rfl

theorem may_any (x : Int) (w : World) : Calls Try.prog 29 #[.int .i64 x] w fun e w' => e = .returned (.bool (okW x)) ∧ w = w' := by
  by_cases h1 : 0 ≤ x
  · by_cases h2 : x ≤ 4611686018427387903
    all_goals
      go_enter Try.func29, Try.ntmps29
      go_wp2
      go_ret
      exact ⟨ret_bool (by simp [okW, h1, h2]), rfl⟩
  · go_enter Try.func29, Try.ntmps29
    go_wp2
    go_ret
    exact ⟨ret_bool (by simp [okW]; omega), rfl⟩

set_option maxHeartbeats 800000 in
theorem copy_any (v : Value) (l : List Int) (w : World) (h : Vs w (fun _ => True) v l) (hl : l.length ≤ 1000000) :
    Calls Try.prog 10 #[v] w fun e w' => ∃ u, e = .returned u ∧ w'.ownsRow w.heap.size 33 1 u l.length (nshorts l) ∧ Below w.heap.size w w' := by
  obtain ⟨i0, hi0, hz0, hz1, hz2⟩ := info_parts infoV
  obtain ⟨A, c, rfl, hc1, hc2, _, hc⟩ := h
  have HC := Lib.hid hc
  have HLN := Lib.hid (nshorts_length l)
  have H1 := Lib.hid (nshorts_one (l := l))
  clear hc
  generalize l.length = L at *
  go_enter Try.func10, Try.ntmps10
  go_wp2_with (at_builtin; refine wpList_append_cells _ rfl (.const (.slice none 0 0)) (.tmp 3) _ rfl w.heap.size 33 i0 (.int .i16 0) 1 2 Try.underlying23 hi0 hz0 hz1 hz2 rfl (by decide) (.slice none 0 0) 0 [] rfl (World.ownsRow_nil _ _ _ _) (fun _ => True) A L c (nshorts l) rfl (by rw [HLN.out, Nat.mul_one]) HC.out H1.out (by unfold maxLen; omega) (by omega) (Nat.le_refl _) ?_)
  rintro v1 w1 hown1 hgr1 -
  have HB1 := Lib.hid ((Below.refl w.heap.size w).grown hgr1 (Nat.le_refl _) (by simp [Value.ownBlock]))
  have HO1 := Lib.hid (show w1.ownsRow w.heap.size 33 1 v1 L (nshorts l) by simpa using hown1)
  clear hown1 hgr1
  go_wp2_with fail
  go_ret
  exact ⟨_, rfl, HO1.out, HB1.out⟩

set_option maxHeartbeats 800000 in
theorem digits_any (n : Nat) (w : World) (hn : n < 4611686018427387904) :
    Calls Try.prog 30 #[.int .i64 (n : Int)] w fun e w' => ∃ u, e = .returned u ∧ w'.ownsRow w.heap.size 3 1 u 31 (nints (dgs 31 n)) ∧ Below w.heap.size w w' := by
  obtain ⟨i0, hi0, hz0, hz1, hz2⟩ := info_parts infoN
  go_enter Try.func30, Try.ntmps30
  go_wp2_with fail
  go_loopw [0, 3, 4] (fun m u i wr => ∃ j q : Nat, j ≤ 31 ∧ q ≤ 4611686018427387904 ∧ i = .int .i64 (j : Int) ∧ m = .int .i64 (q : Int) ∧ Hid (q = n / 4 ^ j) ∧ Hid (wr.ownsRow w.heap.size 3 1 u j (nints (dgs j n))) ∧ Hid (Below w.heap.size w wr)) (fun _ _ i _ => 31 - (intOf i).toNat)
  case atStart => exact ⟨0, n, by omega, by omega, rfl, rfl, Lib.hid (by rw [Nat.pow_zero, Nat.div_one]), Lib.hid (World.ownsRow_nil _ _ _ _), Lib.hid (Below.refl _ _)⟩
  case round =>
    obtain ⟨j, q, hj, hq, rfl, rfl, HQ, HOWN, HBE⟩ := hrel
    by_cases hlt : j < 31
    · have HD := Lib.hid (show nints (dgs (j + 1) n) = nints (dgs j n) ++ [.int .i64 ((q : Int) % 4)] by
        rw [dgs_snoc, nints_snoc, ← HQ.out]
        congr 3)
      have HQ' := Lib.hid (show q / 4 = n / 4 ^ (j + 1) by rw [HQ.out, Nat.div_div_eq_div_mul, ← Nat.pow_succ])
      go_wp2_with (at_builtin; refine wpList_append_cells _ rfl (.tmp 6) (.tmp 9) _ rfl w.heap.size 3 i0 (.int .i64 0) 1 8 Try.underlying45 hi0 hz0 hz1 hz2 rfl (by decide) _ j _ rfl (HOWN.out.alloc _) (fun _ => True) _ 1 1 [.int .i64 ((q : Int) % 4)] rfl rfl (cells_new (cs := #[.int .i64 ((q : Int) % 4)]) (heap_alloc_new wr _) trivial) (by simp [Value.oneCell']) (by unfold maxLen; omega) (by omega) (by have := HBE.out.size; simp; omega) ?_)
      rintro v4 w4 hown4 hgr4 -
      have hb4 : Below w.heap.size w w4 := (HBE.out.alloc HBE.out.size _).grown hgr4 (by have := HBE.out.size; simp; omega) (fun j hj => (HOWN.out.lt j hj).1)
      have HO4 := Lib.hid (show w4.ownsRow w.heap.size 3 1 v4 (j + 1) (nints (dgs (j + 1) n)) by rw [HD.out]; exact hown4)
      have HB4 := Lib.hid hb4
      clear hown4 hgr4 hb4
      go_wp2_with fail
      go_roundw
      case rel => exact ⟨j + 1, q / 4, by omega, by omega, by go_num, by go_num, HQ', HO4, HB4⟩
      case measure => simp [intOf]; omega
    · obtain rfl : j = 31 := by omega
      go_wp2_with fail
      go_ret
      exact ⟨_, rfl, HOWN.out, HBE.out⟩

set_option maxHeartbeats 800000 in
theorem whole_any (v : Value) (l : List Int) (w : World) (h : Ns w (fun _ => True) v l) (hl : l.length ≤ 31) (h4 : Four l) :
    Calls Try.prog 32 #[v] w fun e w' => e = .returned (.int .i64 (vl l)) ∧ w = w' := by
  obtain ⟨A, c, rfl, hc1, hc2, _, hc⟩ := h
  unfold maxLen at hc2
  have HC := Lib.hid hc
  have HF := Lib.hid h4
  clear hc h4
  generalize hLL : l.length = L at *
  have HL := Lib.hid hLL
  clear hLL
  go_enter Try.func32, Try.ntmps32
  go_wp2_with fail
  go_loop [3, 4] (fun s i => ∃ j : Nat, j ≤ L ∧ i = .int .i64 ((j : Int) - 1) ∧ s = .int .i64 (vl (l.drop j))) (fun _ i => (intOf i + 1).toNat)
  case atStart => exact ⟨L, by omega, rfl, by rw [List.drop_of_length_le (by rw [HL.out]; exact Nat.le_refl _)]; rfl⟩
  case round =>
    obtain ⟨j, hj, rfl, rfl⟩ := hrel
    by_cases h0 : j = 0
    · subst h0
      go_wp2_with fail
      go_ret
      exact ⟨rfl, rfl⟩
    · obtain ⟨i, rfl⟩ : ∃ i, j = i + 1 := ⟨j - 1, by omega⟩
      obtain ⟨d, hd⟩ : ∃ d, l[i]? = some d := ⟨_, List.getElem?_eq_getElem (by rw [HL.out]; omega)⟩
      obtain ⟨ad, rfl, k1⟩ := cell_at HC.out (nints_at hd)
      have bd := HF.out d (List.mem_of_getElem? hd)
      have hv := vl_low (l := l.drop i) (fun x hx => HF.out x (List.mem_of_mem_drop hx)) (by rw [List.length_drop, HL.out]; omega)
      rw [vl_drop hd] at hv
      have hv1 := vl_low (l := l.drop (i + 1)) (fun x hx => HF.out x (List.mem_of_mem_drop hx)) (by rw [List.length_drop, HL.out]; omega)
      have HV := Lib.hid (vl_drop hd)
      have e : ((i + 1 : Nat) : Int) - 1 = (i : Int) := by omega
      rw [e]
      clear e h0 hd
      generalize vl (l.drop (i + 1)) = X at *
      go_wp2_with fail
      go_round
      case rel => exact ⟨i, by omega, by go_num, by rw [HV.out]; congr 1; omega⟩
      case measure => simp [intOf]

end Go.Proofs.Ytjohknpjkcbjlaa
