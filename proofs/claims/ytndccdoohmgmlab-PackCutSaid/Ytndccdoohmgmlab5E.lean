/- Contract: texts, and what it goes through. -/
import Derived.Test.Ytndccdoohmgmlab5D
import Derived.RangeFuncFrom
import Derived.RangeFuncLeaves
import Derived.RangeFuncCalls
import Derived.Shelf.Abstract
import Derived.OwnWalkIn
import Derived.TacticsInMore
import Derived.BigFrameIn
import Derived.LoopNIn
import Derived.LoopIn
namespace Go.Proofs.Ytndccdoohmgmlab
open Go.RowKit Go.Shelf Pk

attribute [local go_sem] Oper.semAt_some

/-- What is handed on: a text, or that there is none. -/
structure Tx (w : World) where
  t : List UInt8
  er : Int
  vt : Value
  bs : Bs w (fun _ => True) vt t
  le : t.length ≤ 65536

def Tx.vals {w : World} (e : Tx w) : Array Value := #[e.vt, .int .i64 e.er]

theorem texts_any (A : Option Addr) (L c : Nat) (w : World) :
    Calls Try.prog 30 #[.slice A L c] w fun e w' => e = .returned (.func (.func 31) #[] #[.pointer (some ⟨w.heap.size, 0, none⟩)]) ∧ w.alloc (.cells #[.slice A L c] 22) = w' := by
  go_enter Try.func30, Try.ntmps30
  go_wp2
  go_ret
  exact ⟨rfl, rfl⟩

/-- What stays while texts are gone through: what lay there at the start, and block g. -/
def Stays (n0 g : Nat) (X Y : World) : Prop := X.heap.size ≤ Y.heap.size ∧ ∀ k, (k < n0 ∨ k = g) → k < X.heap.size → Y.heap[k]? = X.heap[k]?

theorem Stays.refl (n0 g : Nat) (X : World) : Stays n0 g X X := ⟨Nat.le_refl _, fun _ _ _ => rfl⟩
theorem Stays.trans {n0 g : Nat} {X Y Z : World} (h : Stays n0 g X Y) (k : Stays n0 g Y Z) : Stays n0 g X Z :=
  ⟨Nat.le_trans h.1 k.1, fun i hi hl => (k.2 i hi (Nat.lt_of_lt_of_le hl h.1)).trans (h.2 i hi hl)⟩
theorem Stays.drewN {n0 g : Nat} {X Y : World} (h : Stays n0 g X Y) (n : Nat) : Stays n0 g X (Y.drewN n) := h
theorem Stays.cells {n0 g : Nat} {X Y : World} (h : Stays n0 g X Y) {p : Addr} {u : Value} (hp : p.block < n0 ∨ p.block = g) (hu : X.cell? p = some u) : Y.cell? p = some u := by
  have hl := World.block_lt_of_cell? X p hu
  exact (World.cell?_of_block (h.2 p.block hp hl)).trans hu

/-- How the texts go on: a list of what is handed on, from here. -/
def Goes {w : World} : List UInt8 → List (Tx w) → Prop
  | rb, [] => rb = []
  | rb, x :: xs => rb ≠ [] ∧ ((x.er = 2 ∧ first rb = none ∧ xs = []) ∨ (x.er = 0 ∧ ∃ r, first rb = some (x.t, r) ∧ Goes r xs))

def Begins {w : World} : List UInt8 → List (Tx w) → Prop
  | _, [] => True
  | rb, x :: xs => rb ≠ [] ∧ ((x.er = 2 ∧ first rb = none ∧ xs = []) ∨ (x.er = 0 ∧ ∃ r, first rb = some (x.t, r) ∧ Begins r xs))

theorem Bs.stays {n0 g : Nat} {X Y : World} {v : Value} {t : List UInt8} (h : Stays n0 g X Y) (hb : Bs X (fun k => k < n0) v t) : Bs Y (fun k => k < n0) v t :=
  hb.keep fun _ hp ⟨_, hu⟩ => (h.cells (.inl hp) hu).trans hu.symm

set_option maxRecDepth 100000 in
set_option maxHeartbeats 2000000 in
theorem texts_in (n : Nat) (hn : 1 ≤ n) (w0 : World) (l Bn n0 N : Nat) (b : List UInt8) (J Jx : List (Tx w0) → World → Prop) (W : World) (ad : Option Addr) (L c : Nat)
    (hY : ∀ pre x W1, J pre W1 → pre.length < N → YieldAt Fence.wide (n - 1) Try.prog l x.vals W1 fun e W' =>
      (e = .returned (.bool true) ∧ J (pre ++ [x]) W' ∧ Stays n0 Bn W1 W') ∨ (e = .returned (.bool false) ∧ Jx (pre ++ [x]) W'))
    (hJd : ∀ pre X n, J pre X → J pre (X.drewN n))
    (hN : b.length < N) (hBn : n0 ≤ Bn) (hw0 : w0.heap.size ≤ n0)
    (hB : W.cell? ⟨Bn, 0, none⟩ = some (.slice ad L c)) (hb : Bs W (fun g => g < n0) (.slice ad L c) b) (hb0 : Bs w0 (fun _ => True) (.slice ad L c) b) (hbl : b.length ≤ 65536) (h0 : J [] W) :
    CallsIn Fence.wide n Try.prog 31 #[.func (.yield l) #[] #[], .pointer (some ⟨Bn, 0, none⟩)] W fun e W' => (∃ v, e = .returned v) ∧
      ((∃ ys, Goes b ys ∧ J ys W') ∨ (∃ pre, Begins b pre ∧ Jx pre W')) := by
  have HY := Lib.hid hY
  have HJD := Lib.hid hJd
  have HB := Lib.hid hb
  clear hY hJd hb
  refine callsIn_of_wp Try.func31 rfl trivial ?_ rfl
  simp only [Try.ntmps31, List.size_toArray, List.length_cons, List.length_nil, Nat.reduceAdd, Nat.reduceSub, Array.replicate_succ, Array.replicate_zero, List.push_toArray, List.append_toArray, List.nil_append, List.cons_append]
  have HB0 := Lib.hid hb0
  have hcc := hb0.caps
  obtain ⟨hcc0, hcc1, hcc2⟩ := hcc
  have HL := Lib.hid hcc0
  have HBB := Lib.hid hB
  have HJ0 := Lib.hid h0
  clear hb0 hcc0 h0
  gi_wp2_with fail
  gi_loopw [3, 4, 5, 6] (fun s _ _ _ wr => ∃ (A : Option Addr) (c : Nat) (rb : List UInt8) (pre : List (Tx w0)), s = .slice A rb.length c ∧ rb.length ≤ 65536 ∧ pre.length + rb.length ≤ b.length ∧ Hid (Bs w0 (fun _ => True) (.slice A rb.length c) rb) ∧ Hid (Bs W (fun g => g < n0) (.slice A rb.length c) rb) ∧ Hid (Stays n0 Bn W wr) ∧ Hid (J pre wr) ∧
    Hid (∀ ys, Goes rb ys → Goes b (pre ++ ys)) ∧ Hid (∀ ys, Begins rb ys → Begins b (pre ++ ys))) (fun s _ _ _ _ => match s with | .slice _ n _ => n | _ => 0)
  case atStart => exact ⟨ad, c, b, [], by rw [HL.out], hbl, by simp, Lib.hid (by rw [HL.out]; exact HB0.out), Lib.hid (by rw [HL.out]; exact HB.out), Lib.hid (Stays.refl _ _ _), HJ0, Lib.hid fun ys h => h, Lib.hid fun ys h => h⟩
  case round =>
    obtain ⟨A, c1, rb, pre, rfl, hrl, hpl, HR0, HRW, HST, HJ, HGO, HBG⟩ := hrel
    have hc1 := HR0.out.caps
    obtain ⟨_, hc1a, hc1b⟩ := hc1
    by_cases hn : rb = []
    · have HFIN := Lib.hid (show Goes b pre by simpa using HGO.out [] hn)
      have hr0 : rb.length = 0 := by rw [hn]; rfl
      generalize rb.length = R at *
      subst hr0
      clear hn
      gi_wp2_with fail
      go_end0
      exact ⟨⟨_, rfl⟩, .inl ⟨pre, HFIN.out, HJ.out⟩⟩
    · have hr1 : 0 < rb.length := Nat.pos_of_ne_zero fun h => hn (List.eq_nil_of_length_eq_zero h)
      have HNN := Lib.hid hn
      have hbw := Bs.stays HST.out HRW.out
      cases hf : first rb with
      | none =>
        have HF := Lib.hid (first_no _ _ rb wr hbw hf)
        have HX := Lib.hid hf
        clear hf hn hbw
        gi_wp2_with fail
        refine ⟨trivial, (callsIn_wide.2 HF.out).mono ?_⟩
        rintro e w1 ⟨k, rfl, rfl⟩
        obtain ⟨fn, tmps, assign, body, hy, hR⟩ := HY.out pre ⟨[], 2, .slice none 0 0, Bs.nothing none 0 (by simp [maxLen]) (fun _ => rfl), by simp⟩ (wr.drewN k) (HJD.out pre wr k HJ.out) (by omega)
        simp only [Tx.vals] at hy
        have HGX := Lib.hid (HGO.out [⟨[], 2, .slice none 0 0, Bs.nothing none 0 (by simp [maxLen]) (fun _ => rfl), by simp⟩] ⟨HNN.out, .inl ⟨rfl, HX.out, rfl⟩⟩)
        have HBX := Lib.hid (HBG.out [⟨[], 2, .slice none 0 0, Bs.nothing none 0 (by simp [maxLen]) (fun _ => rfl), by simp⟩] ⟨HNN.out, .inl ⟨rfl, HX.out, rfl⟩⟩)
        gi_wp2_with fail
        refine hR.mono ?_
        rintro e' W3 (⟨rfl, hJ3, hk3⟩ | ⟨rfl, hJx3⟩)
        · have HJ3 := Lib.hid hJ3
          clear hJ3 hk3
          gi_wp2_with fail
          refine bodyPost_ret (results_none rfl _ _ _) rfl ?_
          exact ⟨⟨_, rfl⟩, .inl ⟨_, HGX.out, HJ3.out⟩⟩
        · have HJX := Lib.hid hJx3
          clear hJx3
          gi_wp2_with fail
          refine bodyPost_ret (results_none rfl _ _ _) rfl ?_
          exact ⟨⟨_, rfl⟩, .inr ⟨_, HBX.out, HJX.out⟩⟩
      | some p =>
        obtain ⟨t, r⟩ := p
        have HF := Lib.hid (first_ok _ _ rb t r wr hbw hf)
        have q2 : r.length + 4 ≤ rb.length := by have := (first_some hf).1; omega
        have q3 : t.length ≤ 65536 := by have := first_some hf; omega
        have HX := Lib.hid hf
        clear hf hn hbw
        gi_wp2_with fail
        refine ⟨trivial, (callsIn_wide.2 HF.out).mono ?_⟩
        rintro e w1 ⟨B1, k1, B2, k2, k, rfl, hparts, rfl⟩
        obtain ⟨el, g1, g2, g3⟩ : ∃ el : Tx w0, el.t = t ∧ el.er = 0 ∧ el.vt = .slice B1 t.length k1 := ⟨⟨t, 0, .slice B1 t.length k1, (hparts _ _ HR0.out).1, q3⟩, rfl, rfl, rfl⟩
        obtain ⟨fn, tmps, assign, body, hy, hR⟩ := HY.out pre el (wr.drewN k) (HJD.out pre wr k HJ.out) (by omega)
        simp only [Tx.vals, g2, g3] at hy
        have HGX := Lib.hid (fun ys (hys : Goes r ys) => HGO.out (el :: ys) ⟨HNN.out, .inr ⟨g2, r, by rw [g1]; exact HX.out, hys⟩⟩)
        have HBX := Lib.hid (fun ys (hys : Begins r ys) => HBG.out (el :: ys) ⟨HNN.out, .inr ⟨g2, r, by rw [g1]; exact HX.out, hys⟩⟩)
        clear g1 g2 g3
        have HP := Lib.hid hparts
        clear hparts
        gi_wp2_with fail
        refine hR.mono ?_
        rintro e' W3 (⟨rfl, hJ3, hk3⟩ | ⟨rfl, hJx3⟩)
        · have HJ3 := Lib.hid hJ3
          have HK3 := Lib.hid hk3
          clear hJ3 hk3
          gi_wp2_with fail
          refine ⟨⟨B2, k2, r, _, rfl, by omega, by rw [List.length_append]; simp; omega, Lib.hid (HP.out _ _ HR0.out).2, Lib.hid (HP.out _ _ HRW.out).2, Lib.hid (HST.out.trans HK3.out), HJ3, Lib.hid fun ys hys => ?_, Lib.hid fun ys hys => ?_⟩, by dsimp only; omega⟩
          · rw [List.append_assoc]; exact HGX.out ys hys
          · rw [List.append_assoc]; exact HBX.out ys hys
        · have HJX := Lib.hid hJx3
          clear hJx3
          gi_wp2_with fail
          refine bodyPost_ret (results_none rfl _ _ _) rfl ?_
          exact ⟨⟨_, rfl⟩, .inr ⟨_, HBX.out [] trivial, HJX.out⟩⟩

end Go.Proofs.Ytndccdoohmgmlab
