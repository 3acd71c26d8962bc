/- Contract: Take. -/
import Derived.Test.Ytndccdoohmgmlaa4C
namespace Go.Proofs.Ytndccdoohmgmlaa
open Go.RowKit Pk

/-- The answer of a call that makes numbers and octets of its own, and an error. -/
def GivesT (w : World) (r : List Int × List UInt8 × Int) (e : Ending) (w' : World) : Prop :=
  ∃ v u, e = .returned (.tuple #[v, u, .int .i64 r.2.2]) ∧ w'.ownsRow w.heap.size 2 1 v r.1.length (nints r.1) ∧ w'.ownsRow w.heap.size 5 1 u r.2.1.length (octets r.2.1) ∧ Below w.heap.size w w'

theorem take_arg {b : List UInt8} {width n : Int} (h : takeOk width n = false) : take b width n = ([], [], 1) := by simp [take, h]

theorem nums_succ (k : Nat) : ∀ (j : Nat) (b : List UInt8), nums k (j + 1) b = nums k j b ++ [num ((b.drop (j * k)).take k)] := by
  intro j b
  rw [nums_append k j 1]
  rfl

/-- A piece of a slice of octets. -/
theorem Bs.piece {w : World} {S : Nat → Prop} {ad : Addr} {n c : Nat} {l : List UInt8} (h : Bs w S (.slice (some ad) n c) l) {i k : Nat} (hi : i + k ≤ n) : Bs w S (.slice (some (ad.add i)) k (c - i)) ((l.drop i).take k) := by
  obtain ⟨A, c', he, hc1, hc2, hc3, hc⟩ := h
  injection he with e1 e2 e3
  subst e1 e2 e3
  have hl : ((l.drop i).take k).length = k := by rw [List.length_take, List.length_drop]; omega
  refine ⟨_, _, by rw [hl], by rw [hl]; omega, by omega, (fun h => by cases h), fun hn => ?_⟩
  rw [octets_length, hl] at hn
  obtain ⟨ad', e, hS, hcell⟩ := hc (by rw [octets_length]; omega)
  injection e with e
  subst e
  refine ⟨_, rfl, by rw [add_block]; exact hS, fun j u hu => ?_⟩
  rw [add_add]
  refine hcell (i + j) u ?_
  simp only [octets, List.getElem?_map, List.getElem?_take, List.getElem?_drop] at hu ⊢
  split at hu
  · exact hu
  · cases hu

theorem Bs.tail {w : World} {S : Nat → Prop} {ad : Addr} {n c : Nat} {l : List UInt8} (h : Bs w S (.slice (some ad) n c) l) {i : Nat} (hi : i ≤ n) : Bs w S (.slice (some (ad.add i)) (n - i) (c - i)) (l.drop i) := by
  have := h.piece (i := i) (k := n - i) (by omega)
  rwa [List.take_of_length_le (by rw [List.length_drop, h.caps.1]; exact Nat.le_refl _)] at this
theorem Bs.nothing {w : World} {S : Nat → Prop} (A : Option Addr) (c : Nat) (hc : c ≤ maxLen) (h : A = none → c = 0) : Bs w S (.slice A 0 c) [] :=
  ⟨A, c, rfl, Nat.zero_le _, hc, h, fun hn => by simp [octets] at hn⟩

def izeros (n : Nat) : List Int := List.replicate n 0

theorem blk_stored {w : World} {g : Nat} {xs : List Int} {x y : Int} {n j : Nat} {t : TypeId} (hx : xs.length = j) (hj : j < n) (h : w.heap[g]? = some (.cells (nints (xs ++ izeros (n - j))).toArray t (0, 0))) (hy : y = x) :
    (w.setCell ⟨g, j, none⟩ (.int .i64 y)).heap[g]? = some (.cells (nints ((xs ++ [x]) ++ izeros (n - (j + 1)))).toArray t (0, 0)) := by
  subst hy hx
  rw [blk_set h]
  congr 2
  have e : n - xs.length = (n - (xs.length + 1)) + 1 := by omega
  rw [e, izeros, List.replicate_succ, List.append_assoc]
  simp [nints, izeros]

theorem own_numbers {wr w5 : World} {B : Nat} {v : Value} {n : Nat} {xs : List Value} (h : wr.ownsRow B 2 1 v n xs) (hb : Below wr.heap.size wr w5) : w5.ownsRow B 2 1 v n xs :=
  own_below h hb fun b hh => (h.lt b hh).2

theorem take_end {w wr w5 : World} {b : List UInt8} {k j : Nat} {g : Nat} {v5 : Value} (he : take b (k : Int) (j : Int) = (nums k j b, b.drop (j * k), 0))
    (h1 : wr.ownsRow w.heap.size 2 1 (.slice (some ⟨g, 0, none⟩) j j) (nums k j b).length (nints (nums k j b))) (h5 : w5.ownsRow wr.heap.size 5 1 v5 (b.drop (j * k)).length (octets (b.drop (j * k)))) (hb : Below w.heap.size w wr) (hb5 : Below wr.heap.size wr w5) :
    GivesT w (take b (k : Int) (j : Int)) (.returned (.tuple #[.slice (some ⟨g, 0, none⟩) j j, v5, .int .i64 0])) w5 := by
  rw [he]
  exact ⟨_, _, rfl, own_numbers h1 hb5, own_mono h5 hb.size, hb.trans (hb5.mono hb.size)⟩

set_option maxRecDepth 10000 in
set_option maxHeartbeats 2000000 in
theorem take_any (v : Value) (b : List UInt8) (width n : Int) (w : World) (hb : Bs w (fun _ => True) v b) (hbl : b.length ≤ 1000000) :
    Calls Try.prog 33 #[v, .int .i64 width, .int .i64 n] w (GivesT w (take b width n)) := by
  obtain ⟨i0, hi0, hz0, hz1, hz2⟩ := info_parts infoI
  have HB := Lib.hid hb
  obtain ⟨A, c, rfl, hc1, hc2, hc3, hc⟩ := hb
  unfold maxLen at hc2
  clear hc
  have HIW := Lib.hid (fun W => isWidth_any width W)
  cases hW : isW width
  · have HE := Lib.hid (take_arg (b := b) (n := n) (decide_eq_false (fun h => by have := of_decide_eq_false hW; omega)) : take b width n = ([], [], 1))
    rw [hW] at HIW
    clear hW
    generalize b.length = M at *
    go_enter Try.func33, Try.ntmps33
    go_wp2_with fail
    refine (HIW.out _).mono ?_
    rintro e w' ⟨rfl, rfl⟩
    go_wp2_with fail
    go_ret3
    exact ⟨_, _, by rw [HE.out]; rfl, by rw [HE.out]; exact World.ownsRow_nil _ _ _ _, by rw [HE.out]; exact World.ownsRow_nil _ _ _ _, Below.refl _ _⟩
  · obtain ⟨k, rfl, k1, k8⟩ := isW_yes hW
    rw [hW] at HIW
    clear hW
    by_cases hn : n < 0 ∨ (¬ n < 0 ∧ 65536 < n)
    · have HE := Lib.hid (take_arg (b := b) (width := k) (n := n) (decide_eq_false (by omega)))
      generalize b.length = M at *
      rcases hn with hn | ⟨hn, hn2⟩
      all_goals
        go_enter Try.func33, Try.ntmps33
        go_wp2_with fail
        refine (HIW.out _).mono ?_
        rintro e w' ⟨rfl, rfl⟩
        go_wp2_with fail
        go_ret3
        exact ⟨_, _, by rw [HE.out]; rfl, by rw [HE.out]; exact World.ownsRow_nil _ _ _ _, by rw [HE.out]; exact World.ownsRow_nil _ _ _ _, Below.refl _ _⟩
    · obtain ⟨m, rfl⟩ : ∃ m : Nat, n = (m : Int) := ⟨n.toNat, by omega⟩
      have hm : m ≤ 65536 := by omega
      have hmulN : m * k ≤ m * 8 := Nat.mul_le_mul_left _ k8
      have hcast := Int.natCast_mul m k
      have hmul : (m : Int) * (k : Int) ≤ (m : Int) * 8 := by omega
      have hmul0 : (0 : Int) ≤ (m : Int) * (k : Int) := by omega
      by_cases hlt : b.length < m * k
      · have HE := Lib.hid (show take b (k : Int) (m : Int) = ([], [], 2) by
          rw [take, if_neg (by rw [takeOk, decide_eq_true (by omega)]; exact Bool.noConfusion), Int.toNat_natCast, Int.toNat_natCast, if_pos hlt])
        have hlt' : (b.length : Int) < (m : Int) * (k : Int) := by omega
        clear hcast hlt hmulN
        generalize b.length = M at *
        go_enter Try.func33, Try.ntmps33
        go_wp2_with fail
        refine (HIW.out _).mono ?_
        rintro e w' ⟨rfl, rfl⟩
        go_wp2_with fail
        go_ret3
        exact ⟨_, _, by rw [HE.out]; rfl, by rw [HE.out]; exact World.ownsRow_nil _ _ _ _, by rw [HE.out]; exact World.ownsRow_nil _ _ _ _, Below.refl _ _⟩
      · have HE := Lib.hid (show take b (k : Int) (m : Int) = (nums k m b, b.drop (m * k), 0) by
          rw [take, if_neg (by rw [takeOk, decide_eq_true (by omega)]; exact Bool.noConfusion), Int.toNat_natCast, Int.toNat_natCast, if_neg hlt])
        have hge : (m : Int) * (k : Int) ≤ (b.length : Int) := by omega
        have hgeN : m * k ≤ b.length := by omega
        clear hcast hlt hmulN hn
        generalize hM : b.length = M at *
        have HM := Lib.hid hM
        clear hM
        go_enter Try.func33, Try.ntmps33
        go_wp2_with fail
        refine (HIW.out _).mono ?_
        rintro e w' ⟨rfl, rfl⟩
        go_wp2_with (at_make; refine wpList_make_full _ rfl _ _ _ rfl w.heap.size 2 i0 (.int .i64 0) 1 Try.underlying43 hi0 hz0 hz1 .i64 .i64 _ _ m rfl rfl rfl rfl (by rw [hz2]; omega) (by unfold maxLen; omega) (Nat.le_refl _) ?_; intro w0 hown0 hgrow0)
        have hblk : w0.heap[w.heap.size]? = some (.cells (nints (nums k 0 b ++ izeros (m - 0))).toArray 2 (0, 0)) := by
          rcases hown0.2 with ⟨he, _⟩ | ⟨g, cap, cur, he, hg, hh, hc, hmx, hs, ht⟩
          · cases he
          · injection he with e1 e2 e3
            injection e1 with e1
            injection e1 with e1
            subst e1
            have hcur : cur.toList = nints (nums k 0 b ++ izeros (m - 0)) := by
              have h1 := hown0.1
              rw [List.take_of_length_le (by rw [Array.length_toList, hs]; omega), show (Value.int IntKind.i64 0).cells = #[Value.int .i64 0] from rfl, toList_madeCells_one] at ht
              rw [ht]
              simp [nums, izeros, nints]
            rw [hh, ← hcur]
        have HBLK := Lib.hid hblk
        have HB0 := Lib.hid (show Below w.heap.size w w0 from (Below.refl _ _).grown hgrow0 (Nat.le_refl _) (by simp))
        clear hown0 hgrow0 hblk
        go_wp2_with fail
        go_loopw [10, 32] (fun _ i wr => ∃ j : Nat, j ≤ m ∧ i = .int .i64 (j : Int) ∧ Hid (wr.heap[w.heap.size]? = some (.cells (nints (nums k j b ++ izeros (m - j))).toArray 2 (0, 0))) ∧ Hid (Below w.heap.size w wr)) (fun _ i _ => m - (intOf i).toNat)
        case atStart => exact ⟨0, by omega, rfl, HBLK, HB0⟩
        case round =>
          obtain ⟨j, hj, rfl, HBL, HBE⟩ := hrel
          by_cases hlt : j < m
          · have hA : ∃ ad, A = some ad := HB.out.some_ (by
              have : 1 * 1 ≤ m * k := Nat.mul_le_mul (by omega) k1
              omega)
            obtain ⟨ad, rfl⟩ := hA
            have q1 : (j + 1) * k ≤ m * k := Nat.mul_le_mul_right _ (by omega)
            have q2 : (j + 1) * k = j * k + k := Nat.succ_mul j k
            have c1 := Int.natCast_mul j k
            have c2 : ((j : Int) + 1) * (k : Int) = ((j * k + k : Nat) : Int) := by rw [← q2, Int.natCast_mul]; rfl
            have C2 := Lib.hid c2
            have r1 : (0 : Int) ≤ (j : Int) * (k : Int) := by omega
            have r2 : (j : Int) * (k : Int) ≤ ((j : Int) + 1) * (k : Int) := by omega
            have r3 : ((j : Int) + 1) * (k : Int) ≤ (M : Int) := by omega
            clear c1 c2
            go_wp2_with fail
            have hbw := HB.out.below HBE.out
            have HLEN := Lib.hid (show ((b.drop (j * k)).take k).length = k by rw [List.length_take, List.length_drop, HM.out]; omega)
            refine (number_any _ ((b.drop (j * k)).take k) _ (hbw.piece (by omega)) (by rw [HLEN.out]; exact k1) (by rw [HLEN.out]; exact k8)).mono ?_
            rintro e w2 ⟨rfl, rfl⟩
            have hcell : wr.cell? ⟨w.heap.size, j, none⟩ = some (.int .i64 0) := (cell_of_row wr _ j _ _ _ HBL.out).trans (by
              rw [List.getElem?_toArray, nints_append, List.getElem?_append_right (by rw [nints_length, nums_length]; exact Nat.le_refl _), nints_length, nums_length, nints, izeros, List.getElem?_map, List.getElem?_replicate, if_pos (by omega)]; rfl)
            have hfz : wr.frozen? ⟨w.heap.size, j, none⟩ = false := by simp [World.frozen?, HBL.out]
            have HST := Lib.hid (blk_stored (nums_length k j b) hlt HBL.out (rfl : num ((b.drop (j * k)).take k) = num ((b.drop (j * k)).take k)))
            rw [← nums_succ] at HST
            clear hbw
            generalize num ((b.drop (j * k)).take k) = X at *
            go_wp2_with fail
            go_roundw
            case rel => exact ⟨j + 1, by omega, by go_num, HST, Lib.hid (HBE.out.setCell (Nat.le_refl _) _)⟩
            case measure => simp [intOf]; omega
          · obtain rfl : j = m := by omega
            have HIO := Lib.hid (ns_new (w := wr) (base := w.heap.size) (l := nums k j b) (n := j) (Nat.le_refl _) (nums_length _ _ _) (by unfold maxLen; omega) (by have h := HBL.out; rwa [Nat.sub_self, izeros, List.replicate_zero, List.append_nil] at h))
            have hfin : ∀ (V : Value) (W : World), Bs wr (fun _ => True) V (b.drop (j * k)) → W = wr → Calls Try.prog 40 #[V] W fun e w' => GivesBs (b.drop (j * k)) wr e w' := fun V W h1 h2 => by
              subst h2
              exact bclone_any V _ W h1 (by rw [List.length_drop, HM.out]; omega)
            have HFIN := Lib.hid hfin
            clear hfin
            rcases A with _ | ad
            · have hc0 := hc3 rfl
              obtain rfl : M = 0 := by omega
              subst hc0
              obtain rfl : j = 0 := by
                rcases Nat.eq_zero_or_pos j with h | h
                · exact h
                · have : 1 * 1 ≤ j * k := Nat.mul_le_mul h k1
                  omega
              have HD := Lib.hid (show b.drop (0 * k) = [] by rw [List.eq_nil_of_length_eq_zero HM.out, List.drop_nil])
              clear hc3 hge hgeN hmul hmul0 hj
              go_wp2_with fail
              refine (HFIN.out _ _ (by rw [HD.out]; exact Bs.nothing none 0 (by simp [maxLen]) (fun _ => rfl)) rfl).mono ?_
              rintro e w5 ⟨v5, rfl, hown5, hb5⟩
              have HO5 := Lib.hid hown5
              have HB5 := Lib.hid hb5
              clear hown5 hb5
              go_wp2_with fail
              go_ret3
              exact take_end HE.out HIO.out HO5.out HBE.out HB5.out
            · have HTL := Lib.hid ((HB.out.below HBE.out).tail (i := j * k) hgeN)
              by_cases hcap : c = j * k
              · obtain rfl : M = c := by omega
                subst hcap
                have HD := Lib.hid (show b.drop (j * k) = [] from List.drop_eq_nil_of_le (by rw [HM.out]; exact Nat.le_refl _))
                go_wp2_with fail
                refine (HFIN.out _ _ (by rw [HD.out]; exact Bs.nothing (some ad) 0 (by simp [maxLen]) (fun h => by cases h)) rfl).mono ?_
                rintro e w5 ⟨v5, rfl, hown5, hb5⟩
                have HO5 := Lib.hid hown5
                have HB5 := Lib.hid hb5
                clear hown5 hb5
                go_wp2_with fail
                go_ret3
                exact take_end HE.out HIO.out HO5.out HBE.out HB5.out
              · have hlt2 : j * k < c := by omega
                have hlt3 : (j : Int) * (k : Int) < (c : Int) := by have := Int.natCast_mul j k; omega
                go_wp2_with fail
                refine (HFIN.out _ _ HTL.out rfl).mono ?_
                rintro e w5 ⟨v5, rfl, hown5, hb5⟩
                have HO5 := Lib.hid hown5
                have HB5 := Lib.hid hb5
                clear hown5 hb5
                go_wp2_with fail
                go_ret3
                exact take_end HE.out HIO.out HO5.out HBE.out HB5.out

end Go.Proofs.Ytndccdoohmgmlaa
