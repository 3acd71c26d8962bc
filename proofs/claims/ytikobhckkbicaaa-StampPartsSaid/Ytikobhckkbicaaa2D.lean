/- Contract: Mix. -/
import Derived.Test.Ytikobhckkbicaaa2C
namespace Go.Proofs.Ytikobhckkbicaaa
open Go.RowKit Sk

/-- The first octets of a row of the call's own, written anew. -/
theorem own_over {w w' : World} {base g cap : Nat} {l m : List UInt8} {cur : List Value} (hg : base ≤ g) (hm : m.length ≤ l.length) (hlc : l.length ≤ cap) (hc : cap ≤ maxLen) (hcl : cur.length = cap) (htk : cur.take l.length = octets l)
    (h : w'.heap[g]? = some (.cells (splice cur 0 (octets m)).toArray 5 (0, 0))) :
    w'.ownsRow base 5 1 (.slice (some ⟨g, 0, none⟩) l.length cap) l.length (octets (m ++ l.drop m.length)) := by
  have hfit : 0 + (octets m).length ≤ cur.length := by rw [octets_length]; omega
  refine ⟨by simp [octets_length]; omega, .inr ⟨g, cap, _, rfl, hg, h, hlc, hc, by simp [length_splice _ _ _ hfit, hcl], ?_⟩⟩
  have e : cur = octets l ++ cur.drop l.length := by rw [← htk]; simp
  rw [List.toList_toArray, Nat.mul_one, e]
  simp only [splice, octets, List.take_zero, List.nil_append, Nat.zero_add, List.length_map]
  rw [List.drop_append_of_le_length (by simp; omega), ← List.append_assoc, List.take_append_of_le_length (by simp; omega), List.take_of_length_le (by simp; omega)]
  simp [List.map_append, List.map_drop]

set_option maxHeartbeats 800000 in
theorem mix_any (vo vb : Value) (o b : List UInt8) (many : Int) (w : World) (ho : Bs w (fun _ => True) vo o) (hb : Bs w (fun _ => True) vb b) :
    Calls Try.prog 42 #[vo, vb, .int .i64 many] w (GivesRE w (mix o b many)) := by
  have HO := Lib.hid ho
  have HB := Lib.hid hb
  obtain ⟨A, c, rfl, hc1, hc2, _⟩ := ho
  obtain ⟨A', c', rfl, hc1', hc2', _, hcb⟩ := hb
  unfold maxLen at hc2 hc2'
  cases hk : mixOk o b many
  · have HE := Lib.hid (show mix o b many = ([], 1) by simp [mix, hk])
    have hno : ¬ (o.length = 32 ∧ b.length = 32 ∧ 0 ≤ many ∧ many ≤ 32) := of_decide_eq_false hk
    have hn := World.ownsRow_nil w w.heap.size 5 1
    clear hk HO HB hcb
    generalize o.length = N at *
    generalize b.length = M at *
    by_cases h1 : N = 32
    · subst h1
      by_cases h2 : M = 32
      · subst h2
        by_cases h3 : 0 ≤ many
        · have h4 : 32 < many := by omega
          have HN := Lib.hid hn
          clear hno hn
          go_enter Try.func42, Try.ntmps42
          go_wp2_with fail
          go_ret2
          exact ⟨_, by rw [HE.out]; rfl, by rw [HE.out]; exact HN.out, Below.refl _ _⟩
        · have HN := Lib.hid hn
          clear hno hn
          go_enter Try.func42, Try.ntmps42
          go_wp2_with fail
          go_ret2
          exact ⟨_, by rw [HE.out]; rfl, by rw [HE.out]; exact HN.out, Below.refl _ _⟩
      · have t2 : ((M : Int) != 32) = true := by simp; omega
        have HN := Lib.hid hn
        clear hno hn h2
        go_enter Try.func42, Try.ntmps42
        go_wp2_with fail
        go_ret2
        exact ⟨_, by rw [HE.out]; rfl, by rw [HE.out]; exact HN.out, Below.refl _ _⟩
    · have t1 : ((N : Int) != 32) = true := by simp; omega
      have HN := Lib.hid hn
      clear hno hn h1
      go_enter Try.func42, Try.ntmps42
      go_wp2_with fail
      go_ret2
      exact ⟨_, by rw [HE.out]; rfl, by rw [HE.out]; exact HN.out, Below.refl _ _⟩
  · have HE := Lib.hid (show mix o b many = (b.take many.toNat ++ o.drop many.toNat, 0) by simp [mix, hk])
    obtain ⟨hno, hnb, h3, h4⟩ : o.length = 32 ∧ b.length = 32 ∧ 0 ≤ many ∧ many ≤ 32 := of_decide_eq_true hk
    clear hk
    obtain ⟨k, rfl⟩ : ∃ k : Nat, many = (k : Int) := ⟨many.toNat, by omega⟩
    have HCL := Lib.hid (bclone_any _ _ w HO.out (by omega))
    generalize hN : o.length = N at *
    generalize hM : b.length = M at *
    subst hno
    subst hnb
    have HN := Lib.hid hN
    have HM := Lib.hid hM
    have HCB := Lib.hid hcb
    have h5 : k ≤ 32 := by omega
    clear hN hM hcb
    go_enter Try.func42, Try.ntmps42
    go_wp2_with fail
    refine HCL.out.mono ?_
    rintro e w1 ⟨v, rfl, hown, hb1⟩
    have hs : ∃ g cap cur, v = .slice (some ⟨g, 0, none⟩) 32 cap ∧ w.heap.size ≤ g ∧ w1.heap[g]? = some (.cells cur 5 (0, 0)) ∧ 32 ≤ cap ∧ cap ≤ maxLen ∧ cur.size = cap ∧ cur.toList.take 32 = octets o := by
      rcases hown.2 with ⟨_, h0⟩ | ⟨g, cap, cur, rfl, hg, hh, hc, hm, hs, ht⟩
      · rw [HN.out] at h0; omega
      · rw [HN.out] at hc ht ⊢
        exact ⟨g, cap, cur, rfl, hg, hh, hc, hm, by simpa using hs, by simpa using ht⟩
    obtain ⟨g, cap, cur, rfl, hg, hh, hcap, hm, hsz, htk⟩ := hs
    unfold maxLen at hm
    have HB1 := Lib.hid hb1
    have HSZ := Lib.hid hsz
    have HTK := Lib.hid htk
    have HH := Lib.hid (show w1.heap[g]? = some (.cells cur.toList.toArray 5 (0, 0)) by simpa using hh)
    clear hown hb1 hsz htk hh
    have hlk : (octets (b.take k)).length = k := by rw [octets_length, List.length_take, HM.out]; omega
    have HLK := Lib.hid hlk
    clear hlk
    go_wp2_with (refine wpList_copy_only (o := ⟨some 31, _, _, _, _, _⟩) rfl (.tmp 27) (.tmp 30) 22 22 rfl 5 Try.underlying22 size_u8 (some ⟨g, 0, none⟩) A' 32 cap k c' rfl rfl g 0 cur.toList 5 HH.out (octets (b.take k)) ?b2 ?b3 ?b4 octets_one ?_)
    case b2 => rw [HLK.out]; exact (Nat.min_eq_left (by omega)).symm
    case b3 =>
      intro h0
      obtain ⟨ad, hA, _, hcell⟩ := HCB.out (by rw [octets_length, HM.out]; omega)
      refine ⟨ad, hA, fun j u hu => ?_⟩
      have hu2 : (octets b)[j]? = some u := by
        simp only [octets, List.getElem?_map, List.getElem?_take] at hu ⊢
        split at hu
        · exact hu
        · cases hu
      exact (HB1.out.cell (World.block_lt_of_cell? w _ (hcell j u hu2))).trans (hcell j u hu2)
    case b4 => rw [HLK.out, Array.length_toList, HSZ.out]; omega
    intro w2 hsp2 hgr2 hsz2
    have HG2 := Lib.hid hgr2
    clear hgr2
    go_wp2_with fail
    go_ret2
    refine ⟨_, by rw [HE.out]; rfl, ?_, HB1.out.grown HG2.out HB1.out.size (by simp; omega)⟩
    rw [HE.out]
    have h := own_over (w := w1) (base := w.heap.size) (l := o) (m := b.take k) (cap := cap) hg (by rw [HN.out, List.length_take]; omega) (by rw [HN.out]; exact hcap) (by unfold maxLen; exact hm) (by rw [Array.length_toList, HSZ.out]) (by rw [HN.out]; exact HTK.out) hsp2.out
    rw [HN.out, List.length_take, HM.out, Nat.min_eq_left h5] at h
    have hl : (b.take k ++ o.drop k).length = 32 := by simp [HN.out, HM.out]; omega
    simp only [Int.toNat_natCast]
    rw [hl]
    exact h

end Go.Proofs.Ytikobhckkbicaaa
