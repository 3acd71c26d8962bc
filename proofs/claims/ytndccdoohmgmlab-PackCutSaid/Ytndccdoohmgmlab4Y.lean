/- Words for memory: a slice of texts, read off a world's cells; and made by a call. The contract of List. -/
import Derived.Test.Ytndccdoohmgmlab4L
import Derived.Test.Ytndccdoohmgmlab4S
import Derived.Test.Ytndccdoohmgmlab4T
namespace Go.Proofs.Ytndccdoohmgmlab
open Go.RowKit Pk

/-- These cells are those of these texts. -/
def TsCells (w : World) (S : Nat → Prop) (xs : List Value) (l : List (List UInt8)) : Prop :=
  xs.length = l.length ∧ ∀ (j : Nat) (t : List UInt8), l[j]? = some t → ∃ v, xs[j]? = some v ∧ Bs w S v t

/-- v reads as these texts. -/
def Ts (w : World) (S : Nat → Prop) (v : Value) (l : List (List UInt8)) : Prop :=
  ∃ A c xs, v = .slice A l.length c ∧ l.length ≤ c ∧ c ≤ maxLen ∧ (A = none → c = 0) ∧ TsCells w S xs l ∧ Cells w S A xs

/-- v is these texts, made by the call: in blocks of its own, from base on. -/
def TsOwn (w : World) (base : Nat) (v : Value) (l : List (List UInt8)) : Prop :=
  ∃ xs, w.ownsRow base 22 1 v l.length xs ∧ TsCells w (fun b => base ≤ b ∧ some b ≠ v.ownBlock) xs l

section
variable {w w' : World} {S S' : Nat → Prop} {v : Value} {xs : List Value} {l : List (List UInt8)}
theorem TsCells.keep (h : TsCells w S xs l) (hk : ∀ p : Addr, S p.block → (∃ u, w.cell? p = some u) → w'.cell? p = w.cell? p) : TsCells w' S xs l :=
  ⟨h.1, fun j x hx => let ⟨v, h1, h2⟩ := h.2 j x hx; ⟨v, h1, h2.keep hk⟩⟩
theorem TsCells.more (h : TsCells w S xs l) (hS : ∀ b, b < w.heap.size → S b → S' b) : TsCells w S' xs l :=
  ⟨h.1, fun j x hx => let ⟨v, h1, h2⟩ := h.2 j x hx; ⟨v, h1, h2.more hS⟩⟩
theorem TsCells.below (h : TsCells w S xs l) (hb : Below w.heap.size w w') : TsCells w' S xs l := h.keep (keep_below hb fun _ h _ => h)
theorem TsCells.snoc (h : TsCells w S xs l) {u : Value} {t : List UInt8} (hu : Bs w S u t) : TsCells w S (xs ++ [u]) (l ++ [t]) := by
  refine ⟨by simp [h.1], fun j x hx => ?_⟩
  by_cases hj : j < l.length
  · rw [List.getElem?_append_left hj] at hx
    obtain ⟨v, h1, h2⟩ := h.2 j x hx
    exact ⟨v, by rw [List.getElem?_append_left (by rw [h.1]; exact hj)]; exact h1, h2⟩
  · rw [List.getElem?_append_right (by omega)] at hx
    obtain rfl : j = l.length := by
      have := (List.getElem?_eq_some_iff.1 hx).1
      simp at this
      omega
    rw [Nat.sub_self] at hx
    simp at hx
    subst hx
    exact ⟨u, by rw [List.getElem?_append_right (by rw [h.1]; exact Nat.le_refl _), h.1, Nat.sub_self]; rfl, hu⟩
theorem TsCells.append {ys : List Value} {m : List (List UInt8)} (h : TsCells w S xs l) (h' : TsCells w S ys m) : TsCells w S (xs ++ ys) (l ++ m) := by
  refine ⟨by simp [h.1, h'.1], fun j x hx => ?_⟩
  by_cases hj : j < l.length
  · rw [List.getElem?_append_left hj] at hx
    obtain ⟨v, h1, h2⟩ := h.2 j x hx
    exact ⟨v, by rw [List.getElem?_append_left (by rw [h.1]; exact hj)]; exact h1, h2⟩
  · rw [List.getElem?_append_right (by omega)] at hx
    obtain ⟨v, h1, h2⟩ := h'.2 _ x hx
    exact ⟨v, by rw [List.getElem?_append_right (by rw [h.1]; omega), h.1]; exact h1, h2⟩
theorem TsCells.one (h : TsCells w S xs l) : ∀ u ∈ xs, u.oneCell' = true := by
  intro u hu
  obtain ⟨j, hj⟩ := List.getElem?_of_mem hu
  have hl : j < l.length := by have := (List.getElem?_eq_some_iff.1 hj).1; rw [h.1] at this; exact this
  obtain ⟨v, h1, A, c, rfl, _⟩ := h.2 j _ (List.getElem?_eq_getElem hl)
  rw [hj] at h1
  injection h1 with h1
  subst h1
  rfl
theorem Ts.keep (h : Ts w S v l) (hk : ∀ p : Addr, S p.block → (∃ u, w.cell? p = some u) → w'.cell? p = w.cell? p) : Ts w' S v l := by
  obtain ⟨A, c, xs, h1, h2, h3, h4, h5, h6⟩ := h
  exact ⟨A, c, xs, h1, h2, h3, h4, h5.keep hk, h6.keep hk⟩
theorem Ts.below (h : Ts w S v l) (hb : Below w.heap.size w w') : Ts w' S v l := h.keep (keep_below hb fun _ h _ => h)
theorem TsOwn.below {base : Nat} (h : TsOwn w base v l) (hb : Below w.heap.size w w') : TsOwn w' base v l := by
  obtain ⟨xs, h1, h2⟩ := h
  exact ⟨xs, own_below h1 hb fun b hh => (h1.lt b hh).2, h2.below hb⟩
theorem TsOwn.mono {base base' : Nat} (h : TsOwn w base v l) (hb : base' ≤ base) : TsOwn w base' v l := by
  obtain ⟨xs, h1, h2⟩ := h
  exact ⟨xs, own_mono h1 hb, h2.more fun b _ hS => ⟨by omega, hS.2⟩⟩
theorem TsOwn.reads {base : Nat} (h : TsOwn w base v l) : Ts w (fun _ => True) v l := by
  obtain ⟨xs, h1, h2⟩ := h
  rcases h1.2 with ⟨rfl, h0⟩ | ⟨g, cap, cur, rfl, hg, hh, hc, hm, hs, ht⟩
  · exact ⟨none, 0, xs, by rw [h0], by omega, by simp [maxLen], fun _ => rfl, h2.more fun _ _ _ => trivial, fun hl => by rw [h1.1] at hl; omega⟩
  · exact ⟨some ⟨g, 0, none⟩, cap, xs, rfl, hc, hm, (fun h => by cases h), h2.more fun _ _ _ => trivial, fun _ => ⟨_, rfl, trivial, h1.cells rfl⟩⟩
/-- A text of a slice of texts. -/
theorem Ts.at_ {A : Option Addr} {n c : Nat} (h : Ts w S (.slice A n c) l) {j : Nat} {t : List UInt8} (ht : l[j]? = some t) : ∃ ad B d, A = some ad ∧ w.cell? (ad.add j) = some (.slice B t.length d) ∧ Bs w S (.slice B t.length d) t := by
  obtain ⟨A', c', xs, he, _, _, _, h5, h6⟩ := h
  injection he with e1 e2 e3
  subst e1
  obtain ⟨v, hv, hb⟩ := h5.2 j t ht
  obtain ⟨ad, e, hc⟩ := cell_at h6 hv
  have hb' := hb
  obtain ⟨B, d, rfl, _⟩ := hb'
  exact ⟨ad, B, d, e, hc, hb⟩
theorem Ts.caps {A : Option Addr} {n c : Nat} (h : Ts w S (.slice A n c) l) : l.length = n ∧ n ≤ c ∧ c ≤ 9223372036854775807 := by
  obtain ⟨A', c', xs, he, h2, h3, _⟩ := h
  injection he with e1 e2 e3
  subst e1 e2 e3
  exact ⟨rfl, h2, by unfold maxLen at h3; omega⟩
theorem Ts.nothing (A : Option Addr) (c : Nat) (hc : c ≤ maxLen) (h : A = none → c = 0) : Ts w S (.slice A 0 c) [] :=
  ⟨A, c, [], rfl, Nat.zero_le _, hc, h, ⟨rfl, fun j x hx => by simp at hx⟩, fun hn => by simp at hn⟩
end

theorem infoT : (Try.prog.info? 22).map (fun i => (i.zero, i.size, i.bytes)) = some (some (.slice none 0 0), 1, 24) := by kernel_rfl

/-- The answer of a call that makes texts of its own, and an error. -/
def GivesTs (w : World) (r : List (List UInt8) × Int) (e : Ending) (w' : World) : Prop :=
  ∃ v, e = .returned (.tuple #[v, .int .i64 r.2]) ∧ TsOwn w' w.heap.size v r.1 ∧ Below w.heap.size w w'
theorem tsOwn_nil (w : World) (base : Nat) : TsOwn w base (.slice none 0 0) [] := ⟨[], World.ownsRow_nil _ _ _ _, rfl, fun j x hx => by simp at hx⟩

set_option maxRecDepth 10000 in
set_option maxHeartbeats 2000000 in
theorem list_any (v : Value) (l : List (List UInt8)) (w : World) (h : Ts w (fun _ => True) v l) (hl : l.length ≤ 1000000) (ht : ∀ t ∈ l, t.length ≤ 140737488355328) :
    Calls Try.prog 17 #[v] w (GivesRE w (listp l)) := by
  obtain ⟨i0, hi0, hz0, hz1, hz2⟩ := info_parts info8
  have HT := Lib.hid h
  have HLT := Lib.hid ht
  clear ht
  obtain ⟨A, c, xs, rfl, hc1, hc2, _⟩ := h
  unfold maxLen at hc2
  generalize hL : l.length = L at *
  have HL := Lib.hid hL
  clear hL
  go_enter Try.func17, Try.ntmps17
  go_wp2_with fail
  go_loop [4, 6, 12] (fun s _ i => ∃ j : Nat, j ≤ L ∧ i = .int .i64 (j : Int) ∧ ∃ m : Nat, m ≤ 65536 ∧ s = .int .i64 (m : Int) ∧ Hid ((lst (l.take j)).length = m)) (fun _ _ i => L - (intOf i).toNat)
  case atStart => exact ⟨0, by omega, rfl, 0, by omega, rfl, Lib.hid rfl⟩
  case round =>
    obtain ⟨j, hj, rfl, m, hm, rfl, HM⟩ := hrel
    by_cases hlt : j < L
    · obtain ⟨t, ht⟩ : ∃ t, l[j]? = some t := ⟨_, List.getElem?_eq_getElem (by rw [HL.out]; exact hlt)⟩
      obtain ⟨ad, B, d, rfl, hcj, hbt⟩ := HT.out.at_ ht
      have hcd := hbt.caps.2
      have htl := HLT.out t (List.mem_of_getElem? ht)
      have HS := Lib.hid (show (lst (l.take (j + 1))).length = m + (4 + t.length) by rw [lst_take_succ ht, lst_snoc_length, HM.out])
      have HP := Lib.hid (lst_part l (j + 1))
      clear ht hbt
      generalize t.length = T at *
      by_cases hbig : 65536 < m + (4 + T)
      · have HE := Lib.hid (listp_long (l := l) (by have h1 := HP.out; have h2 := HS.out; omega))
        go_wp2_with fail
        go_ret2
        exact ⟨_, by rw [HE.out]; rfl, by rw [HE.out]; exact World.ownsRow_nil _ _ _ _, Below.refl _ _⟩
      · go_wp2_with fail
        go_round
        case rel => exact ⟨j + 1, by omega, by go_num, m + (4 + T), by omega, by go_num, HS⟩
        case measure => simp [intOf]; omega
    · obtain rfl : j = L := by omega
      have HLL := Lib.hid (show (lst l).length = m by have := HM.out; rwa [← HL.out, List.take_length] at this)
      have HE := Lib.hid (listp_ok (l := l) (by rw [HLL.out]; exact hm))
      go_wp2_with (at_make; refine wpList_make_own _ rfl _ _ _ rfl w.heap.size 5 i0 (.int .u8 0) 1 Try.underlying22 hi0 hz0 hz1 .i64 .i64 _ m rfl rfl rfl (by rw [hz2]; omega) (by unfold maxLen; omega) (Nat.le_refl _) ?_; intro w0 hown0 hgrow0)
      have HO0 := Lib.hid hown0
      have HB0 := Lib.hid (show Below w.heap.size w w0 from (Below.refl _ _).grown hgrow0 (Nat.le_refl _) (by simp))
      clear hown0 hgrow0
      go_wp2_with fail
      go_loopw [7, 9, 28] (fun u _ i wr => ∃ q : Nat, q ≤ j ∧ i = .int .i64 (q : Int) ∧ Hid (wr.ownsRow w.heap.size 5 1 u (lst (l.take q)).length (octets (lst (l.take q)))) ∧ Hid (Below w.heap.size w wr)) (fun _ _ i _ => j - (intOf i).toNat)
      case atStart => exact ⟨0, by omega, rfl, Lib.hid HO0.out, HB0⟩
      case round =>
        obtain ⟨q, hq, rfl, HOWN, HBE⟩ := hrel
        by_cases hlt2 : q < j
        · obtain ⟨t, ht⟩ : ∃ t, l[q]? = some t := ⟨_, List.getElem?_eq_getElem (by rw [HL.out]; exact hlt2)⟩
          obtain ⟨ad, B, d, rfl, hcj, hbt⟩ := (HT.out.below HBE.out).at_ ht
          have hbw : Bs w (fun _ => True) (.slice B t.length d) t := by
            obtain ⟨ad', B', d', e1, e2, e3⟩ := HT.out.at_ ht
            injection e1 with e1
            subst e1
            have e4 := (HBE.out.cell (World.block_lt_of_cell? w _ e2)).trans e2
            rw [hcj] at e4
            injection e4 with e4
            injection e4 with e5 e6 e7
            subst e5 e7
            exact e3
          have HBW := Lib.hid hbw.cells
          have hcd := hbt.caps.2
          have hlen := lst_snoc_length (l.take q) t
          have hpart := lst_part l (q + 1)
          rw [lst_take_succ ht, HLL.out] at hpart
          have hX : (lst (l.take q)).length + (4 + t.length) ≤ 65536 := by omega
          have HX := Lib.hid (show lst (l.take (q + 1)) = (lst (l.take q) ++ oct 4 (t.length : Int)) ++ t by rw [lst_take_succ ht, lst_snoc, List.append_assoc])
          have HADD := Lib.hid (add_any w.heap.size u7 (lst (l.take q)) 4 (t.length : Int) wr (by omega) (by omega) HBE.out.size HOWN.out)
          have HBB := Lib.hid hbt
          have HAL := Lib.hid (show (lst (l.take q) ++ oct 4 (t.length : Int)).length ≤ 65536 by rw [List.length_append, oct_length]; omega)
          have HAT := Lib.hid (show (lst (l.take q) ++ oct 4 (t.length : Int)).length + t.length ≤ 65536 by rw [List.length_append, oct_length]; omega)
          generalize lst (l.take q) ++ oct 4 (t.length : Int) = Y at *
          generalize hTT : t.length = T at *
          have HTT := Lib.hid hTT
          clear ht hbt hlen hpart hX hTT hbw
          go_wp2_with fail
          refine HADD.out.mono ?_
          rintro e w2 ⟨v2, rfl, hown2, hb2, hz2'⟩
          have HO2 := Lib.hid hown2
          have HB2 := Lib.hid (HBE.out.trans hb2)
          have HBT := Lib.hid (HBW.out.below HB2.out)
          clear hown2 hb2 hz2'
          go_wp2_with (at_builtin; refine wpList_append_cells _ rfl (.tmp 35) (.tmp 36) _ rfl w.heap.size 5 i0 (.int .u8 0) 1 1 Try.underlying22 hi0 hz0 hz1 hz2 rfl (by decide) _ Y.length _ rfl HO2.out (fun _ => True) _ T d (octets t) rfl (by rw [octets_length, HTT.out, Nat.mul_one]) HBT.out octets_one (by have := HAT.out; unfold maxLen; omega) (by have := HAT.out; omega) HB2.out.size ?_)
          rintro v3 w3 hown3 hgr3 -
          have HB3 := Lib.hid (HB2.out.grown hgr3 HB2.out.size (fun i hi => (HO2.out.lt i hi).1))
          have HO3 := Lib.hid (show w3.ownsRow w.heap.size 5 1 v3 (Y ++ t).length (octets (Y ++ t)) by
            rw [octets_append, List.length_append, HTT.out]
            exact hown3)
          rw [← HX.out] at HO3
          clear hown3 hgr3
          go_wp2_with fail
          go_roundw
          case rel => exact ⟨q + 1, by omega, by go_num, HO3, HB3⟩
          case measure => simp [intOf]; omega
        · obtain rfl : q = j := by omega
          have HTL := Lib.hid (show l.take q = l by rw [← HL.out, List.take_length])
          go_wp2_with fail
          go_ret2
          refine ⟨_, by rw [HE.out]; rfl, ?_, HBE.out⟩
          rw [HE.out]
          have h := HOWN.out
          rw [HTL.out] at h
          exact h

end Go.Proofs.Ytndccdoohmgmlab
