/- Contract: Cut. -/
import Derived.Test.Ytndccdoohmgmlab5E
namespace Go.Proofs.Ytndccdoohmgmlab
open Go.RowKit Go.Shelf Pk

attribute [local go_sem] Oper.semAt_some

/-- What stands between two texts: in the boxes of the results nothing yet, in that of the list the texts so far. -/
def CutI (w : World) (pre : List (Tx w)) (W : World) : Prop :=
  (∀ x ∈ pre, x.er = 0) ∧ ∃ v xs, W.heap[w.heap.size + 1 + 1]? = some (.cells #[v] 33 (0, 0)) ∧ TsRow W (w.heap.size + 4) v xs (pre.map (·.t)) ∧ Below w.heap.size w W ∧
    W.heap[w.heap.size]? = some (.cells #[.slice none 0 0] 33 (0, 0)) ∧ W.heap[w.heap.size + 1]? = some (.cells #[.int .i64 0] 25 (0, 0)) ∧ w.heap.size + 4 ≤ W.heap.size
/-- It ends ahead of time. -/
def CutX (w : World) (c : Code) (pre : List (Tx w)) (W : World) : Prop :=
  c = .ret ∧ ∃ p x, pre = p ++ [x] ∧ x.er ≠ 0 ∧ (∀ y ∈ p, y.er = 0) ∧ Below w.heap.size w W ∧ W.cell? ⟨w.heap.size, 0, none⟩ = some (.slice none 0 0) ∧ W.cell? ⟨w.heap.size + 1, 0, none⟩ = some (.int .i64 x.er)

theorem row_kept {W W' : World} {base : Nat} {e : TypeId} {size n : Nat} {v : Value} {xs : List Value} {row : Option Nat} (h : W.ownsRow base e size v n xs) (hg : W.grownBy W' row)
    (hrow : ∀ r, row = some r → ∃ o : Obj, W.heap[r]? = some o ∧ o.isCells = false) : W'.ownsRow base e size v n xs := by
  refine h.kept hg ?_
  cases hv : v.ownBlock with
  | none => exact .inl rfl
  | some k =>
    refine .inr fun e => ?_
    obtain ⟨o, h1, h2⟩ := hrow k e.symm
    rcases h.2 with ⟨rfl, _⟩ | ⟨g, cap, cur, rfl, _, hh, _⟩
    · simp [Value.ownBlock] at hv
    · obtain rfl : g = k := by simpa [Value.ownBlock] using hv
      rw [hh] at h1
      injection h1 with h1
      subst h1
      simp [Obj.isCells] at h2

theorem cutI_own (w : World) : OwnFrom (w.heap.size + 4) (CutI w) := by
  rintro pre W W' row ⟨h0, v, xs, h1, h2, h3, h4, h5, h6⟩ hg hr
  have hr2 : ∀ r, row = some r → ∃ o : Obj, W.heap[r]? = some o ∧ o.isCells = false := fun r e => (hr r e).2
  have far : ∀ g, g < w.heap.size + 4 → some g ≠ row := fun g hgl e => by have := (hr g e.symm).1; omega
  exact ⟨h0, v, xs, (hg.block _ (by omega) (far _ (by omega))).trans h1, ⟨row_kept h2.1 hg hr2, h2.2.keep fun p _ ⟨u, hu⟩ => (cell_kept hu hg hr2).trans hu.symm⟩, h3.grown hg h3.size (fun r e => by have := (hr r e).1; omega),
    (hg.block _ (by omega) (far _ (by omega))).trans h4, (hg.block _ (by omega) (far _ (by omega))).trans h5, by have := hg.size; omega⟩

theorem cutX_own (w : World) (c : Code) : OwnFrom (w.heap.size + 4) (CutX w c) := by
  rintro pre W W' row ⟨hc, p, x, h0, h1, h2, h3, h4, h5⟩ hg hr
  have hr2 : ∀ r, row = some r → ∃ o : Obj, W.heap[r]? = some o ∧ o.isCells = false := fun r e => (hr r e).2
  exact ⟨hc, p, x, h0, h1, h2, h3.grown hg h3.size (fun r e => by have := (hr r e).1; omega), cell_kept h4 hg hr2, cell_kept h5 hg hr2⟩

theorem goes_ok {w : World} : ∀ {b : List UInt8} {ys : List (Tx w)}, Goes b ys → (∀ x ∈ ys, x.er = 0) → cutA b = some (ys.map (·.t))
  | b, [], h, _ => by rw [show b = [] from h]; rfl
  | b, x :: xs, h, he => by
    have hx := he x (by simp)
    obtain ⟨_, ⟨h1, _, _⟩ | ⟨_, r, h2, h3⟩⟩ := h
    · rw [hx] at h1; cases h1
    · rw [cutA_some h2, goes_ok h3 (fun y hy => he y (by simp [hy]))]; rfl
theorem begins_bad {w : World} : ∀ {b : List UInt8} {p : List (Tx w)} {x : Tx w}, Begins b (p ++ [x]) → (∀ y ∈ p, y.er = 0) → x.er ≠ 0 → cutA b = none ∧ x.er = 2
  | b, [], x, h, _, hx => by
    obtain ⟨hn, ⟨h1, h2, _⟩ | ⟨h1, _⟩⟩ := h
    · exact ⟨cutA_none hn h2, h1⟩
    · exact absurd h1 hx
  | b, y :: p, x, h, he, hx => by
    have hy := he y (by simp)
    obtain ⟨_, ⟨h1, _, _⟩ | ⟨_, r, h2, h3⟩⟩ := h
    · rw [hy] at h1; cases h1
    · obtain ⟨h4, h5⟩ := begins_bad h3 (fun z hz => he z (by simp [hz])) hx
      exact ⟨by rw [cutA_some h2, h4]; rfl, h5⟩

theorem heap_first (w : World) (a : Obj) : (w.alloc a).heap[w.heap.size]? = some a := heap_alloc_new w a
theorem heap_thirdly (w : World) (a b c : Obj) : (((w.alloc a).alloc b).alloc c).heap[w.heap.size + 1 + 1]? = some c := by
  have h := heap_alloc_new ((w.alloc a).alloc b) c
  rw [World.size_alloc, World.size_alloc] at h
  exact h
theorem grownBy_drewN (w : World) (n : Nat) (row : Option Nat) : w.grownBy (w.drewN n) row := ⟨rfl, rfl, rfl, Nat.le_refl _, fun _ _ _ => rfl⟩

theorem set_row {W : World} {k : Nat} {u v : Value} {t : TypeId} (h : W.heap[k]? = some (.cells #[u] t (0, 0))) : (W.setCell ⟨k, 0, none⟩ v).heap[k]? = some (.cells #[v] t (0, 0)) := by
  obtain ⟨hlt, hk⟩ := Array.getElem?_eq_some_iff.1 h
  show (W.heap.modify k _)[k]? = _
  rw [Array.getElem?_eq_getElem (by rw [Array.size_modify]; exact hlt), Array.getElem_modify_self, hk]
  rfl
section
variable {P : Program} {w : World}
theorem stepIn_append_cells {F : Fence} {m0 : Nat} {ops : Array Oper} {o : Oper} {a : Act} {K : Act → World → Prop} {Q : Exit → Act → World → Prop} {E : Prop} (hgd : o.guard = none) (s x : Operand) (t : TypeId)
    (ho : o.op = .call { callee := .builtin .append, args := #[s, x], argTypes := #[t, t] })
    (base : Nat) (e : TypeId) (i : TypeInfo) (z : Value) (size bytes : Nat) (ht : P.underlying t = some (.slice e)) (hi : P.info? e = some i) (hz : i.zero = some z)
    (hsize : i.size = size) (hby : i.bytes = bytes) (hzs : z.cells.size = size) (hsz : 0 < size)
    (v : Value) (n : Nat) (xs : List Value) (hs : a.eval s = v) (hown : w.ownsRow base e size v n xs)
    (S : Nat → Prop) (A : Option Addr) (m c : Nat) (news : List Value) (hx : a.eval x = .slice A m c) (hl : news.length = m * size) (hr : Cells w S A news) (h1 : ∀ u ∈ news, u.oneCell' = true)
    (h63 : n + m ≤ maxLen) (hbytes : (n + m) * bytes ≤ 140737488355328) (hbase : base ≤ w.heap.size)
    (h : ∀ v' w', w'.ownsRow base e size v' (n + m) (xs ++ news) → w.grownBy w' v.ownBlock → (v'.ownBlock = v.ownBlock ∨ v'.ownBlock = some w.heap.size) → K (a.put o.dst v') w') :
    if Region.wanted o (yielded ops a.tmps) = true then Oper.wpIn F m0 P o a w K Q else E := by
  have hw : Region.wanted o (yielded ops a.tmps) = true := by simp [Region.wanted, hgd]
  rw [if_pos hw]
  obtain ⟨v', w', hrun, h2, h3, h4⟩ := run_append_cells (P := P) w base t o.type e i z size bytes ht hi hz hsize hby hzs hsz v n xs hown S A m c news hl hr h1 h63 hbytes hbase
  unfold Oper.wpIn
  refine ⟨by simp [Oper.about, ho, resolve, Target.leads, Sem.run_pure], ?_⟩
  rw [Oper.semAt_plain F _ _ (by rw [ho]; intro c hc'; cases hc')]
  simp [execOp, ho, resolve, invoke, builtin, hs, hx, hrun, Result.andThen]
  exact h v' w' h2 h3 h4
end

theorem tsRow_far {W : World} {base k : Nat} {v : Value} {xs : List Value} {l : List (List UInt8)} (h : TsRow W base v xs l) (hk : k < base) (u : Value) : TsRow (W.setCell ⟨k, 0, none⟩ u) base v xs l :=
  ⟨own_far h.1 (fun j hj e => by have := (h.1.lt j hj).1; simp at e; omega) _, h.2.keep fun p hp _ => World.cell?_of_block (Below.heap_setCell _ _ _ _ (by have := hp.1; simp; omega))⟩
theorem tsRow_putObj {W : World} {base D : Nat} {o : Obj} {v : Value} {xs : List Value} {l : List (List UInt8)} (h : TsRow W base v xs l) (hl : W.heap[D]? = some o) (ho : o.isCells = false) (o' : Obj) : TsRow (W.putObj D o') base v xs l :=
  ⟨row_kept h.1 (grownBy_putObj' W D o') (fun r e => by cases e; exact ⟨o, hl, ho⟩), h.2.keep fun p _ ⟨u, hu⟩ => (cell_kept hu (grownBy_putObj' W D o') (fun r e => by cases e; exact ⟨o, hl, ho⟩)).trans hu.symm⟩
theorem tsRow_mono {W : World} {base base' : Nat} {v : Value} {xs : List Value} {l : List (List UInt8)} (h : TsRow W base v xs l) (hb : base' ≤ base) : TsRow W base' v xs l :=
  ⟨own_mono h.1 hb, h.2.more fun b _ hS => ⟨by have := hS.1; omega, hS.2⟩⟩
theorem own_cells2 {W : World} {base size n : Nat} {e : TypeId} {v : Value} {xs : List Value} (h : W.ownsRow base e size v n xs) (j : Nat) (o : Obj) (hj : v.ownBlock = some j) (ho : W.heap[j]? = some o) : o.isCells = true := by
  rcases h.2 with ⟨rfl, _⟩ | ⟨g, cap, cur, rfl, _, hh, _⟩
  · simp [Value.ownBlock] at hj
  · obtain rfl : g = j := by simpa [Value.ownBlock] using hj
    rw [hh] at ho
    injection ho with ho
    subst ho
    rfl
theorem stays_putObj {n0 g : Nat} (W : World) (l : Nat) (o o' : Obj) (hl : n0 ≤ l) (hg : g < l) (_ : W.heap[l]? = some o) : Stays n0 g W (W.putObj l o') :=
  ⟨by simp, fun k hk _ => World.putObj_heap_other (by omega)⟩
theorem stays_of_grown {n0 g : Nat} {W W' : World} {row : Option Nat} (hg : W.grownBy W' row) (hr : ∀ r, row = some r → n0 ≤ r ∧ r ≠ g) : Stays n0 g W W' :=
  ⟨hg.size, fun k hk hl => hg.block k hl (fun e => by have := hr k e.symm; omega)⟩
theorem stays_setCell {n0 g : Nat} (W : World) (a : Addr) (v : Value) (h1 : n0 ≤ a.block) (h2 : a.block ≠ g) : Stays n0 g W (W.setCell a v) :=
  ⟨by simp, fun k hk _ => Below.heap_setCell W a v k (by omega)⟩

set_option maxRecDepth 4000 in
set_option maxHeartbeats 2000000 in
theorem packCut_in (n : Nat) (hn : 3 ≤ n) (v : Value) (b : List UInt8) (w : World) (h : Bs w (fun _ => True) v b) (hbl : b.length ≤ 1000000) :
    CallsIn Fence.wide n Try.prog 19 #[v] w (GivesTs w (cutp b)) := by
  have HB := Lib.hid h
  obtain ⟨A, c, rfl, hc1, hc2, _⟩ := h
  unfold maxLen at hc2
  have h1 : 1 ≤ n := by omega
  by_cases hlong : 65536 < b.length
  · have HE := Lib.hid (show cutp b = ([], 3) by rw [cutp, if_pos hlong])
    generalize b.length = L at *
    refine callsIn_of_wp_marks Try.func19 rfl trivial ?_ rfl
    simp only [Try.ntmps19, List.size_toArray, List.length_cons, List.length_nil, Nat.reduceAdd, Nat.reduceSub, Array.replicate_succ, Array.replicate_zero, List.push_toArray, List.append_toArray, List.nil_append, List.cons_append]
    gi_wp2_with fail
    refine ⟨.tuple #[.slice none 0 0, .int .i64 3], ?_, _, by rw [HE.out], by rw [HE.out]; exact tsOwn_nil _ _, ((below_new _ _).alloc (by simp) _)⟩
    simp [results, Try.f19, go_sem]
  · generalize hL : b.length = L at *
    have HL := Lib.hid hL
    clear hL
    refine callsIn_of_wp_marks Try.func19 rfl trivial ?_ rfl
    simp only [Try.ntmps19, List.size_toArray, List.length_cons, List.length_nil, Nat.reduceAdd, Nat.reduceSub, Array.replicate_succ, Array.replicate_zero, List.push_toArray, List.append_toArray, List.nil_append, List.cons_append]
    gi_wp2_with fail
    refine ⟨trivial, (callsIn_wide.2 (texts_any _ _ _ _)).mono ?_⟩
    rintro e w3 ⟨rfl, rfl⟩
    gi_wp2_with fail
    obtain ⟨w3, hw3⟩ : ∃ w3, w3 = (((w.alloc (Obj.cells #[.slice none 0 0] 33)).alloc (Obj.cells #[.int .i64 0] 25)).alloc (Obj.cells #[.slice none 0 0] 33)).alloc (Obj.cells #[.slice A L c] 22) := ⟨_, rfl⟩
    rw [← hw3]
    have hb3 : Below w.heap.size w w3 := by rw [hw3]; exact (((below_new _ _).alloc (by simp) _).alloc (by simp; omega) _).alloc (by simp; omega) _
    have hz3 : w3.heap.size = w.heap.size + 4 := by rw [hw3]; simp
    have hr0 : w3.heap[w.heap.size]? = some (.cells #[.slice none 0 0] 33 (0, 0)) := by
      rw [hw3, Below.heap_alloc _ _ _ (by simp; omega), Below.heap_alloc _ _ _ (by simp; omega), Below.heap_alloc _ _ _ (by simp)]; exact heap_first _ _
    have hr1 : w3.heap[w.heap.size + 1]? = some (.cells #[.int .i64 0] 25 (0, 0)) := by
      rw [hw3, Below.heap_alloc _ _ _ (by simp), Below.heap_alloc _ _ _ (by simp)]; exact heap_second _ _ _
    have hr2 : w3.heap[w.heap.size + 1 + 1]? = some (.cells #[.slice none 0 0] 33 (0, 0)) := by
      rw [hw3, Below.heap_alloc _ _ _ (by simp)]; exact heap_thirdly _ _ _ _
    have hr3 : w3.heap[w.heap.size + 3]? = some (.cells #[.slice A L c] 22 (0, 0)) := by
      have := heap_alloc_new (((w.alloc (Obj.cells #[.slice none 0 0] 33)).alloc (Obj.cells #[.int .i64 0] 25)).alloc (Obj.cells #[.slice none 0 0] 33)) (Obj.cells #[.slice A L c] 22)
      rw [World.size_alloc, World.size_alloc, World.size_alloc] at this
      rw [hw3]
      exact this
    have hcell3 : w3.cell? ⟨w.heap.size + 1 + 1 + 1, 0, none⟩ = some (.slice A L c) := cell_of_row w3 _ 0 _ _ _ hr3
    have hseq : SeqStopsK Fence.wide (n - 1) Try.prog 31 #[.pointer (some ⟨w.heap.size + 1 + 1 + 1, 0, none⟩)] (Tx.vals (w := w)) (Stays w.heap.size (w.heap.size + 3)) (Goes b) (Begins b) (L + 1) w3 := by
      intro l J Jx W hW hJ _ hY hj
      have hWc : W.cell? ⟨w.heap.size + 1 + 1 + 1, 0, none⟩ = some (.slice A L c) := (hW.cell (p := ⟨w.heap.size + 1 + 1 + 1, 0, none⟩) (by show w.heap.size + 1 + 1 + 1 < _; omega)).trans hcell3
      have hbW : Bs W (fun g => g < w.heap.size) (.slice A L c) b := (HB.out.more (S' := fun g => g < w.heap.size) fun g hg _ => hg).below (hb3.trans (hW.mono (by omega)))
      exact texts_in (n - 1) (by omega) w l (w.heap.size + 3) w.heap.size (L + 1) b J Jx W A L c hY (fun pre X m hX => hJ pre X _ none hX (grownBy_drewN X m none) (fun r e => by cases e)) (by rw [HL.out]; omega) (by omega) (Nat.le_refl _) hWc hbW HB.out (by rw [HL.out]; omega) hj
    clear hw3
    have hv0 : CutI w [] w3 := ⟨by simp, _, [], hr2, tsRow_nil _ _, hb3, hr0, hr1, by omega⟩
    refine wpIn_rangeFunc_ownF (by rfl) h1 (gf := 31) (lb := #[.pointer (some ⟨w.heap.size + 1 + 1 + 1, 0, none⟩)]) rfl trivial (enters_of Try.func31 (by kernel_rfl) rfl)
      hseq (fun h k => h.trans k) (fun W l o o' hl ho _ _ => stays_putObj W l o o' (by omega) (by omega) ho) (Below.refl _ _) (fun _ => rfl)
      (CutI w) (CutX w) (by rw [hz3]; exact cutI_own w) (fun c => by rw [hz3]; exact cutX_own w c) hv0
      (fun x => { tmps := #[.slice A L c, undef, .pointer (some ⟨w.heap.size, 0, none⟩), .pointer (some ⟨w.heap.size + 1, 0, none⟩), .pointer (some ⟨w.heap.size + 1 + 1, 0, none⟩), x.vt, .int .i64 x.er,
          .slice A L c, .int .i64 (L : Int), .bool (decide (65536 < (L : Int))), .slice A L c, .func (.func 31) #[] #[.pointer (some ⟨w.heap.size + 1 + 1 + 1, 0, none⟩)], x.vt, .int .i64 x.er,
          undef, undef, undef, undef, undef, undef, undef, undef, undef], defers := [] }) ?assign ?body ?done ?stop
    case assign =>
      intro l x W K hK
      obtain ⟨t, er, vt, hbs, hle⟩ := x
      obtain ⟨B, cb, rfl, _⟩ := hbs
      dsimp only [Tx.vals] at hK ⊢
      gi_wp2
      exact hK
    case body =>
      rintro l pre ⟨t, er, vt, hbs, hle⟩ W ⟨h0, v, xs, e1, e2, e3, e4, e5, e6⟩ hlen
      have HBS := Lib.hid hbs
      obtain ⟨B, cb, rfl, _⟩ := hbs
      dsimp only
      by_cases her : er = 0
      · subst her
        obtain ⟨A4, c4, rfl⟩ := own_slice e2.1
        have hlm : (pre.map (·.t)).length = pre.length := List.length_map _
        rw [hlm] at e2 e1
        have x1 : ∀ i, W.cell? ⟨w.heap.size + 1 + 1, i, none⟩ = #[.slice A4 pre.length c4][i]? := fun i => cell_of_row W _ i _ _ _ e1
        have x2 : ∀ i, W.frozen? ⟨w.heap.size + 1 + 1, i, none⟩ = false := fun i => by simp [World.frozen?, e1]
        have HH0 := Lib.hid h0
        have HE3 := Lib.hid e3
        have HE2 := Lib.hid e2
        have HE1 := Lib.hid e1
        have HE4 := Lib.hid e4
        have HE5 := Lib.hid e5
        clear h0 e3 e2 e1 e4 e5
        have hmx : Try.prog.follows .mixedOrders = true := by kernel_rfl
        gi_wp2_with fail
        obtain ⟨j0, hj0, hy0, hy1, hy2⟩ := info_parts infoT
        have hYL : (pre.map (·.t)).length ≤ 65536 := by rw [List.length_map]; omega
        have HROW0 := Lib.hid ((HE2.out.below ((Below.refl _ W).drew)) : TsRow W.drew _ _ _ _)
        have HBT := Lib.hid (HBS.out.below (HE3.out.drew))
        have HE1d := Lib.hid (show W.drew.heap[w.heap.size + 1 + 1]? = _ from HE1.out)
        have x1d : ∀ i, W.drew.cell? ⟨w.heap.size + 1 + 1, i, none⟩ = #[.slice A4 pre.length c4][i]? := x1
        refine wpIn_region_any hmx ?_
        change wpAnyIn _ _ _ _ _ _ _ _ _ (World.drew W)
        refine wpAnyIn_ready (rs := [0, 1]) (by kernel_rfl) (by simp) ?_
        refine (AllReadyIn.cons rfl (fun K hK => ?_) (AllReadyIn.cons rfl (fun K hK => ?_) AllReadyIn.nil))
        · go_simp
          refine hK _ _ ?_
          clear hK K
          refine wpAnyIn_ready (rs := [1]) (by kernel_rfl) (by simp) ?_
          refine (AllReadyIn.cons rfl (fun K hK => ?_) AllReadyIn.nil)
          go_simp
          refine hK _ _ ?_
          clear hK K
          refine wpAnyIn_ready (rs := [2]) (by kernel_rfl) (by simp) ?_
          refine (AllReadyIn.cons rfl (fun K hK => ?_) AllReadyIn.nil)
          go_simp
          refine ⟨trivial, (fun h => by cases h), CallsIn.inRound l ((callsIn_wide.2 (bclone_any _ t _ HBT.out (by omega))).mono ?_)⟩
          rintro e W4 ⟨v4, rfl, hown, hbe4⟩
          obtain ⟨A5, c5, rfl⟩ := own_slice hown
          have hz4 : W.heap.size ≤ W4.heap.size := hbe4.size
          have HROW4 := Lib.hid (HROW0.out.below hbe4)
          have HBT4 := Lib.hid (own_in_row HROW4.out.1 (own_mono hown (show w.heap.size + 4 ≤ W.heap.size from e6)))
          have HE14 := Lib.hid ((hbe4.block (w.heap.size + 1 + 1) (show w.heap.size + 1 + 1 < W.heap.size by omega)).trans HE1d.out)
          have z1 : ∀ i, W4.cell? ⟨w.heap.size + 1 + 1, i, none⟩ = #[.slice A4 pre.length c4][i]? := fun i => cell_of_row W4 _ i _ _ _ HE14.out
          have HBE4 := Lib.hid (show Below W.heap.size W.drew W4 from hbe4)
          have hlt4 : w.heap.size + 1 + 1 < W4.heap.size := by omega
          have hne4 : w.heap.size + 1 + 1 ≠ W4.heap.size := by omega
          clear hown hbe4
          refine hK _ _ ?_
          clear hK K
          refine wpAnyIn_ready (rs := [3]) (by kernel_rfl) (by simp) ?_
          refine (AllReadyIn.cons rfl (fun K hK => ?_) AllReadyIn.nil)
          go_simp
          refine hK _ _ ?_
          clear hK K
          refine wpAnyIn_ready (rs := [4]) (by kernel_rfl) (by simp) ?_
          refine (AllReadyIn.cons rfl (fun K hK => ?_) AllReadyIn.nil)
          refine stepIn_append_cells rfl (.tmp 17) (.tmp 20) _ rfl (w.heap.size + 4) 22 j0 (.slice none 0 0) 1 24 Try.underlying33 hj0 hy0 hy1 hy2 rfl (by decide) (.slice A4 pre.length c4) (pre.map (·.t)).length xs rfl (HROW4.out.1.alloc _) (fun _ => True) _ 1 1 [.slice A5 t.length c5] rfl rfl (cells_new (cs := #[.slice A5 t.length c5]) (heap_alloc_new W4 _) trivial) (by simp [Value.oneCell']) (by unfold maxLen; omega) (by omega) (by simp; omega) ?_
          intro v5 w5 hown5 hgr5 hat5
          obtain ⟨A6, c6, hv5⟩ : ∃ A c, v5 = .slice A (pre.length + 1) c := by obtain ⟨A6, c6, h⟩ := own_slice hown5; exact ⟨A6, c6, by rw [h, hlm]⟩
          subst hv5
          have hfar5 : ∀ g, g < w.heap.size + 4 → some g ≠ (Value.slice A4 pre.length c4).ownBlock := fun g hgl e => by have := (HROW4.out.1.lt g e.symm).1; omega
          have y1 := (hgr5.block (w.heap.size + 1 + 1) (by simp; omega) (hfar5 _ (by omega))).trans ((Below.heap_alloc W4 _ _ (by omega)).trans HE14.out)
          have y2 : ∀ i, w5.cell? ⟨w.heap.size + 1 + 1, i, none⟩ = #[.slice A4 pre.length c4][i]? := fun i => cell_of_row w5 _ i _ _ _ y1
          have y3 : ∀ i, w5.frozen? ⟨w.heap.size + 1 + 1, i, none⟩ = false := fun i => by simp [World.frozen?, y1]
          rw [World.size_alloc] at hat5
          have HROW5 := Lib.hid (HROW4.out.push HBT4.out hgr5 hat5 hown5)
          have hbW : Below W.heap.size W W4 := ((Below.refl _ W).drew).trans HBE4.out
          have hb5 : Below (w.heap.size + 4) W w5 := ((hbW.mono (by omega)).alloc (by omega) _).grown hgr5 (by simp; omega) (fun r e => (HROW4.out.1.lt r e).1)
          have HFIN : Hid (KeepsOthers W (w5.setCell ⟨w.heap.size + 1 + 1, 0, none⟩ (.slice A6 (pre.length + 1) c6)) ∧ Stays w.heap.size (w.heap.size + 3) W (w5.setCell ⟨w.heap.size + 1 + 1, 0, none⟩ (.slice A6 (pre.length + 1) c6)) ∧
              CutI w (pre ++ [⟨t, 0, .slice B t.length cb, HBS.out, hle⟩]) (w5.setCell ⟨w.heap.size + 1 + 1, 0, none⟩ (.slice A6 (pre.length + 1) c6))) := by
            refine ⟨?_, ?_, ?_, _, xs ++ [.slice A5 t.length c5], set_row y1, ?_, ?_, ?_, ?_, ?_⟩
            · exact (KeepsOthers.trans (KeepsOthers.trans ⟨hbW.size, fun k o hk _ => (hbW.block k (Array.getElem?_eq_some_iff.1 hk).1).trans hk⟩ (KeepsOthers.alloc W4 _)) (KeepsOthers.of_grownBy hgr5 (fun j o hj ho => own_cells2 (HROW4.out.1.alloc _) j o hj ho))).trans (KeepsOthers.setCell _ _ _)
            · exact Stays.trans ⟨hb5.size, fun k hk _ => hb5.block k (by omega)⟩ (stays_setCell _ _ _ (by simp; omega) (by simp))
            · intro x hx
              rcases List.mem_append.1 hx with h | h
              · exact HH0.out x h
              · obtain rfl := List.mem_singleton.1 h
                rfl
            · have h := tsRow_far HROW5.out (k := w.heap.size + 1 + 1) (by omega) (.slice A6 (pre.length + 1) c6)
              simpa using h
            · exact (HE3.out.trans (hb5.mono (by omega))).setCell (p := ⟨w.heap.size + 1 + 1, 0, none⟩) (by simp; omega) _
            · exact (Below.heap_setCell w5 _ _ w.heap.size (by show w.heap.size ≠ w.heap.size + 1 + 1; omega)).trans ((hb5.block _ (by omega)).trans HE4.out)
            · exact (Below.heap_setCell w5 _ _ (w.heap.size + 1) (by show w.heap.size + 1 ≠ w.heap.size + 1 + 1; omega)).trans ((hb5.block _ (by omega)).trans HE5.out)
            · have := hb5.size; simp [World.setCell]; omega
          clear hown5 hgr5 hat5 hfar5 y1 hbW hb5
          refine hK _ _ ?_
          clear hK K
          refine wpAnyIn_ready (rs := [5]) (by kernel_rfl) (by simp) ?_
          refine (AllReadyIn.cons rfl (fun K hK => ?_) AllReadyIn.nil)
          go_simp
          refine hK _ _ ?_
          clear hK K
          refine wpAnyIn_done (by kernel_rfl) ?_ _
          gi_wp2_with fail
          exact HFIN.out
        · go_simp
          refine hK _ _ ?_
          clear hK K
          refine wpAnyIn_ready (rs := [0, 2]) (by kernel_rfl) (by simp) ?_
          refine (AllReadyIn.cons rfl (fun K hK => ?_) (AllReadyIn.cons rfl (fun K hK => ?_) AllReadyIn.nil))
          · go_simp
            refine hK _ _ ?_
            clear hK K
            refine wpAnyIn_ready (rs := [2]) (by kernel_rfl) (by simp) ?_
            refine (AllReadyIn.cons rfl (fun K hK => ?_) AllReadyIn.nil)
            go_simp
            refine ⟨trivial, (fun h => by cases h), CallsIn.inRound l ((callsIn_wide.2 (bclone_any _ t _ HBT.out (by omega))).mono ?_)⟩
            rintro e W4 ⟨v4, rfl, hown, hbe4⟩
            obtain ⟨A5, c5, rfl⟩ := own_slice hown
            have hz4 : W.heap.size ≤ W4.heap.size := hbe4.size
            have HROW4 := Lib.hid (HROW0.out.below hbe4)
            have HBT4 := Lib.hid (own_in_row HROW4.out.1 (own_mono hown (show w.heap.size + 4 ≤ W.heap.size from e6)))
            have HE14 := Lib.hid ((hbe4.block (w.heap.size + 1 + 1) (show w.heap.size + 1 + 1 < W.heap.size by omega)).trans HE1d.out)
            have z1 : ∀ i, W4.cell? ⟨w.heap.size + 1 + 1, i, none⟩ = #[.slice A4 pre.length c4][i]? := fun i => cell_of_row W4 _ i _ _ _ HE14.out
            have HBE4 := Lib.hid (show Below W.heap.size W.drew W4 from hbe4)
            have hlt4 : w.heap.size + 1 + 1 < W4.heap.size := by omega
            have hne4 : w.heap.size + 1 + 1 ≠ W4.heap.size := by omega
            clear hown hbe4
            refine hK _ _ ?_
            clear hK K
            refine wpAnyIn_ready (rs := [3]) (by kernel_rfl) (by simp) ?_
            refine (AllReadyIn.cons rfl (fun K hK => ?_) AllReadyIn.nil)
            go_simp
            refine hK _ _ ?_
            clear hK K
            refine wpAnyIn_ready (rs := [4]) (by kernel_rfl) (by simp) ?_
            refine (AllReadyIn.cons rfl (fun K hK => ?_) AllReadyIn.nil)
            refine stepIn_append_cells rfl (.tmp 17) (.tmp 20) _ rfl (w.heap.size + 4) 22 j0 (.slice none 0 0) 1 24 Try.underlying33 hj0 hy0 hy1 hy2 rfl (by decide) (.slice A4 pre.length c4) (pre.map (·.t)).length xs rfl (HROW4.out.1.alloc _) (fun _ => True) _ 1 1 [.slice A5 t.length c5] rfl rfl (cells_new (cs := #[.slice A5 t.length c5]) (heap_alloc_new W4 _) trivial) (by simp [Value.oneCell']) (by unfold maxLen; omega) (by omega) (by simp; omega) ?_
            intro v5 w5 hown5 hgr5 hat5
            obtain ⟨A6, c6, hv5⟩ : ∃ A c, v5 = .slice A (pre.length + 1) c := by obtain ⟨A6, c6, h⟩ := own_slice hown5; exact ⟨A6, c6, by rw [h, hlm]⟩
            subst hv5
            have hfar5 : ∀ g, g < w.heap.size + 4 → some g ≠ (Value.slice A4 pre.length c4).ownBlock := fun g hgl e => by have := (HROW4.out.1.lt g e.symm).1; omega
            have y1 := (hgr5.block (w.heap.size + 1 + 1) (by simp; omega) (hfar5 _ (by omega))).trans ((Below.heap_alloc W4 _ _ (by omega)).trans HE14.out)
            have y2 : ∀ i, w5.cell? ⟨w.heap.size + 1 + 1, i, none⟩ = #[.slice A4 pre.length c4][i]? := fun i => cell_of_row w5 _ i _ _ _ y1
            have y3 : ∀ i, w5.frozen? ⟨w.heap.size + 1 + 1, i, none⟩ = false := fun i => by simp [World.frozen?, y1]
            rw [World.size_alloc] at hat5
            have HROW5 := Lib.hid (HROW4.out.push HBT4.out hgr5 hat5 hown5)
            have hbW : Below W.heap.size W W4 := ((Below.refl _ W).drew).trans HBE4.out
            have hb5 : Below (w.heap.size + 4) W w5 := ((hbW.mono (by omega)).alloc (by omega) _).grown hgr5 (by simp; omega) (fun r e => (HROW4.out.1.lt r e).1)
            have HFIN : Hid (KeepsOthers W (w5.setCell ⟨w.heap.size + 1 + 1, 0, none⟩ (.slice A6 (pre.length + 1) c6)) ∧ Stays w.heap.size (w.heap.size + 3) W (w5.setCell ⟨w.heap.size + 1 + 1, 0, none⟩ (.slice A6 (pre.length + 1) c6)) ∧
                CutI w (pre ++ [⟨t, 0, .slice B t.length cb, HBS.out, hle⟩]) (w5.setCell ⟨w.heap.size + 1 + 1, 0, none⟩ (.slice A6 (pre.length + 1) c6))) := by
              refine ⟨?_, ?_, ?_, _, xs ++ [.slice A5 t.length c5], set_row y1, ?_, ?_, ?_, ?_, ?_⟩
              · exact (KeepsOthers.trans (KeepsOthers.trans ⟨hbW.size, fun k o hk _ => (hbW.block k (Array.getElem?_eq_some_iff.1 hk).1).trans hk⟩ (KeepsOthers.alloc W4 _)) (KeepsOthers.of_grownBy hgr5 (fun j o hj ho => own_cells2 (HROW4.out.1.alloc _) j o hj ho))).trans (KeepsOthers.setCell _ _ _)
              · exact Stays.trans ⟨hb5.size, fun k hk _ => hb5.block k (by omega)⟩ (stays_setCell _ _ _ (by simp; omega) (by simp))
              · intro x hx
                rcases List.mem_append.1 hx with h | h
                · exact HH0.out x h
                · obtain rfl := List.mem_singleton.1 h
                  rfl
              · have h := tsRow_far HROW5.out (k := w.heap.size + 1 + 1) (by omega) (.slice A6 (pre.length + 1) c6)
                simpa using h
              · exact (HE3.out.trans (hb5.mono (by omega))).setCell (p := ⟨w.heap.size + 1 + 1, 0, none⟩) (by simp; omega) _
              · exact (Below.heap_setCell w5 _ _ w.heap.size (by show w.heap.size ≠ w.heap.size + 1 + 1; omega)).trans ((hb5.block _ (by omega)).trans HE4.out)
              · exact (Below.heap_setCell w5 _ _ (w.heap.size + 1) (by show w.heap.size + 1 ≠ w.heap.size + 1 + 1; omega)).trans ((hb5.block _ (by omega)).trans HE5.out)
              · have := hb5.size; simp [World.setCell]; omega
            clear hown5 hgr5 hat5 hfar5 y1 hbW hb5
            refine hK _ _ ?_
            clear hK K
            refine wpAnyIn_ready (rs := [5]) (by kernel_rfl) (by simp) ?_
            refine (AllReadyIn.cons rfl (fun K hK => ?_) AllReadyIn.nil)
            go_simp
            refine hK _ _ ?_
            clear hK K
            refine wpAnyIn_done (by kernel_rfl) ?_ _
            gi_wp2_with fail
            exact HFIN.out
          · go_simp
            refine ⟨trivial, (fun h => by cases h), CallsIn.inRound l ((callsIn_wide.2 (bclone_any _ t _ HBT.out (by omega))).mono ?_)⟩
            rintro e W4 ⟨v4, rfl, hown, hbe4⟩
            obtain ⟨A5, c5, rfl⟩ := own_slice hown
            have hz4 : W.heap.size ≤ W4.heap.size := hbe4.size
            have HROW4 := Lib.hid (HROW0.out.below hbe4)
            have HBT4 := Lib.hid (own_in_row HROW4.out.1 (own_mono hown (show w.heap.size + 4 ≤ W.heap.size from e6)))
            have HE14 := Lib.hid ((hbe4.block (w.heap.size + 1 + 1) (show w.heap.size + 1 + 1 < W.heap.size by omega)).trans HE1d.out)
            have z1 : ∀ i, W4.cell? ⟨w.heap.size + 1 + 1, i, none⟩ = #[.slice A4 pre.length c4][i]? := fun i => cell_of_row W4 _ i _ _ _ HE14.out
            have HBE4 := Lib.hid (show Below W.heap.size W.drew W4 from hbe4)
            have hlt4 : w.heap.size + 1 + 1 < W4.heap.size := by omega
            have hne4 : w.heap.size + 1 + 1 ≠ W4.heap.size := by omega
            clear hown hbe4
            refine hK _ _ ?_
            clear hK K
            refine wpAnyIn_ready (rs := [0, 3]) (by kernel_rfl) (by simp) ?_
            refine (AllReadyIn.cons rfl (fun K hK => ?_) (AllReadyIn.cons rfl (fun K hK => ?_) AllReadyIn.nil))
            · go_simp
              refine hK _ _ ?_
              clear hK K
              refine wpAnyIn_ready (rs := [3]) (by kernel_rfl) (by simp) ?_
              refine (AllReadyIn.cons rfl (fun K hK => ?_) AllReadyIn.nil)
              go_simp
              refine hK _ _ ?_
              clear hK K
              refine wpAnyIn_ready (rs := [4]) (by kernel_rfl) (by simp) ?_
              refine (AllReadyIn.cons rfl (fun K hK => ?_) AllReadyIn.nil)
              refine stepIn_append_cells rfl (.tmp 17) (.tmp 20) _ rfl (w.heap.size + 4) 22 j0 (.slice none 0 0) 1 24 Try.underlying33 hj0 hy0 hy1 hy2 rfl (by decide) (.slice A4 pre.length c4) (pre.map (·.t)).length xs rfl (HROW4.out.1.alloc _) (fun _ => True) _ 1 1 [.slice A5 t.length c5] rfl rfl (cells_new (cs := #[.slice A5 t.length c5]) (heap_alloc_new W4 _) trivial) (by simp [Value.oneCell']) (by unfold maxLen; omega) (by omega) (by simp; omega) ?_
              intro v5 w5 hown5 hgr5 hat5
              obtain ⟨A6, c6, hv5⟩ : ∃ A c, v5 = .slice A (pre.length + 1) c := by obtain ⟨A6, c6, h⟩ := own_slice hown5; exact ⟨A6, c6, by rw [h, hlm]⟩
              subst hv5
              have hfar5 : ∀ g, g < w.heap.size + 4 → some g ≠ (Value.slice A4 pre.length c4).ownBlock := fun g hgl e => by have := (HROW4.out.1.lt g e.symm).1; omega
              have y1 := (hgr5.block (w.heap.size + 1 + 1) (by simp; omega) (hfar5 _ (by omega))).trans ((Below.heap_alloc W4 _ _ (by omega)).trans HE14.out)
              have y2 : ∀ i, w5.cell? ⟨w.heap.size + 1 + 1, i, none⟩ = #[.slice A4 pre.length c4][i]? := fun i => cell_of_row w5 _ i _ _ _ y1
              have y3 : ∀ i, w5.frozen? ⟨w.heap.size + 1 + 1, i, none⟩ = false := fun i => by simp [World.frozen?, y1]
              rw [World.size_alloc] at hat5
              have HROW5 := Lib.hid (HROW4.out.push HBT4.out hgr5 hat5 hown5)
              have hbW : Below W.heap.size W W4 := ((Below.refl _ W).drew).trans HBE4.out
              have hb5 : Below (w.heap.size + 4) W w5 := ((hbW.mono (by omega)).alloc (by omega) _).grown hgr5 (by simp; omega) (fun r e => (HROW4.out.1.lt r e).1)
              have HFIN : Hid (KeepsOthers W (w5.setCell ⟨w.heap.size + 1 + 1, 0, none⟩ (.slice A6 (pre.length + 1) c6)) ∧ Stays w.heap.size (w.heap.size + 3) W (w5.setCell ⟨w.heap.size + 1 + 1, 0, none⟩ (.slice A6 (pre.length + 1) c6)) ∧
                  CutI w (pre ++ [⟨t, 0, .slice B t.length cb, HBS.out, hle⟩]) (w5.setCell ⟨w.heap.size + 1 + 1, 0, none⟩ (.slice A6 (pre.length + 1) c6))) := by
                refine ⟨?_, ?_, ?_, _, xs ++ [.slice A5 t.length c5], set_row y1, ?_, ?_, ?_, ?_, ?_⟩
                · exact (KeepsOthers.trans (KeepsOthers.trans ⟨hbW.size, fun k o hk _ => (hbW.block k (Array.getElem?_eq_some_iff.1 hk).1).trans hk⟩ (KeepsOthers.alloc W4 _)) (KeepsOthers.of_grownBy hgr5 (fun j o hj ho => own_cells2 (HROW4.out.1.alloc _) j o hj ho))).trans (KeepsOthers.setCell _ _ _)
                · exact Stays.trans ⟨hb5.size, fun k hk _ => hb5.block k (by omega)⟩ (stays_setCell _ _ _ (by simp; omega) (by simp))
                · intro x hx
                  rcases List.mem_append.1 hx with h | h
                  · exact HH0.out x h
                  · obtain rfl := List.mem_singleton.1 h
                    rfl
                · have h := tsRow_far HROW5.out (k := w.heap.size + 1 + 1) (by omega) (.slice A6 (pre.length + 1) c6)
                  simpa using h
                · exact (HE3.out.trans (hb5.mono (by omega))).setCell (p := ⟨w.heap.size + 1 + 1, 0, none⟩) (by simp; omega) _
                · exact (Below.heap_setCell w5 _ _ w.heap.size (by show w.heap.size ≠ w.heap.size + 1 + 1; omega)).trans ((hb5.block _ (by omega)).trans HE4.out)
                · exact (Below.heap_setCell w5 _ _ (w.heap.size + 1) (by show w.heap.size + 1 ≠ w.heap.size + 1 + 1; omega)).trans ((hb5.block _ (by omega)).trans HE5.out)
                · have := hb5.size; simp [World.setCell]; omega
              clear hown5 hgr5 hat5 hfar5 y1 hbW hb5
              refine hK _ _ ?_
              clear hK K
              refine wpAnyIn_ready (rs := [5]) (by kernel_rfl) (by simp) ?_
              refine (AllReadyIn.cons rfl (fun K hK => ?_) AllReadyIn.nil)
              go_simp
              refine hK _ _ ?_
              clear hK K
              refine wpAnyIn_done (by kernel_rfl) ?_ _
              gi_wp2_with fail
              exact HFIN.out
            · go_simp
              refine hK _ _ ?_
              clear hK K
              refine wpAnyIn_ready (rs := [0]) (by kernel_rfl) (by simp) ?_
              refine (AllReadyIn.cons rfl (fun K hK => ?_) AllReadyIn.nil)
              go_simp
              refine hK _ _ ?_
              clear hK K
              refine wpAnyIn_ready (rs := [4]) (by kernel_rfl) (by simp) ?_
              refine (AllReadyIn.cons rfl (fun K hK => ?_) AllReadyIn.nil)
              refine stepIn_append_cells rfl (.tmp 17) (.tmp 20) _ rfl (w.heap.size + 4) 22 j0 (.slice none 0 0) 1 24 Try.underlying33 hj0 hy0 hy1 hy2 rfl (by decide) (.slice A4 pre.length c4) (pre.map (·.t)).length xs rfl (HROW4.out.1.alloc _) (fun _ => True) _ 1 1 [.slice A5 t.length c5] rfl rfl (cells_new (cs := #[.slice A5 t.length c5]) (heap_alloc_new W4 _) trivial) (by simp [Value.oneCell']) (by unfold maxLen; omega) (by omega) (by simp; omega) ?_
              intro v5 w5 hown5 hgr5 hat5
              obtain ⟨A6, c6, hv5⟩ : ∃ A c, v5 = .slice A (pre.length + 1) c := by obtain ⟨A6, c6, h⟩ := own_slice hown5; exact ⟨A6, c6, by rw [h, hlm]⟩
              subst hv5
              have hfar5 : ∀ g, g < w.heap.size + 4 → some g ≠ (Value.slice A4 pre.length c4).ownBlock := fun g hgl e => by have := (HROW4.out.1.lt g e.symm).1; omega
              have y1 := (hgr5.block (w.heap.size + 1 + 1) (by simp; omega) (hfar5 _ (by omega))).trans ((Below.heap_alloc W4 _ _ (by omega)).trans HE14.out)
              have y2 : ∀ i, w5.cell? ⟨w.heap.size + 1 + 1, i, none⟩ = #[.slice A4 pre.length c4][i]? := fun i => cell_of_row w5 _ i _ _ _ y1
              have y3 : ∀ i, w5.frozen? ⟨w.heap.size + 1 + 1, i, none⟩ = false := fun i => by simp [World.frozen?, y1]
              rw [World.size_alloc] at hat5
              have HROW5 := Lib.hid (HROW4.out.push HBT4.out hgr5 hat5 hown5)
              have hbW : Below W.heap.size W W4 := ((Below.refl _ W).drew).trans HBE4.out
              have hb5 : Below (w.heap.size + 4) W w5 := ((hbW.mono (by omega)).alloc (by omega) _).grown hgr5 (by simp; omega) (fun r e => (HROW4.out.1.lt r e).1)
              have HFIN : Hid (KeepsOthers W (w5.setCell ⟨w.heap.size + 1 + 1, 0, none⟩ (.slice A6 (pre.length + 1) c6)) ∧ Stays w.heap.size (w.heap.size + 3) W (w5.setCell ⟨w.heap.size + 1 + 1, 0, none⟩ (.slice A6 (pre.length + 1) c6)) ∧
                  CutI w (pre ++ [⟨t, 0, .slice B t.length cb, HBS.out, hle⟩]) (w5.setCell ⟨w.heap.size + 1 + 1, 0, none⟩ (.slice A6 (pre.length + 1) c6))) := by
                refine ⟨?_, ?_, ?_, _, xs ++ [.slice A5 t.length c5], set_row y1, ?_, ?_, ?_, ?_, ?_⟩
                · exact (KeepsOthers.trans (KeepsOthers.trans ⟨hbW.size, fun k o hk _ => (hbW.block k (Array.getElem?_eq_some_iff.1 hk).1).trans hk⟩ (KeepsOthers.alloc W4 _)) (KeepsOthers.of_grownBy hgr5 (fun j o hj ho => own_cells2 (HROW4.out.1.alloc _) j o hj ho))).trans (KeepsOthers.setCell _ _ _)
                · exact Stays.trans ⟨hb5.size, fun k hk _ => hb5.block k (by omega)⟩ (stays_setCell _ _ _ (by simp; omega) (by simp))
                · intro x hx
                  rcases List.mem_append.1 hx with h | h
                  · exact HH0.out x h
                  · obtain rfl := List.mem_singleton.1 h
                    rfl
                · have h := tsRow_far HROW5.out (k := w.heap.size + 1 + 1) (by omega) (.slice A6 (pre.length + 1) c6)
                  simpa using h
                · exact (HE3.out.trans (hb5.mono (by omega))).setCell (p := ⟨w.heap.size + 1 + 1, 0, none⟩) (by simp; omega) _
                · exact (Below.heap_setCell w5 _ _ w.heap.size (by show w.heap.size ≠ w.heap.size + 1 + 1; omega)).trans ((hb5.block _ (by omega)).trans HE4.out)
                · exact (Below.heap_setCell w5 _ _ (w.heap.size + 1) (by show w.heap.size + 1 ≠ w.heap.size + 1 + 1; omega)).trans ((hb5.block _ (by omega)).trans HE5.out)
                · have := hb5.size; simp [World.setCell]; omega
              clear hown5 hgr5 hat5 hfar5 y1 hbW hb5
              refine hK _ _ ?_
              clear hK K
              refine wpAnyIn_ready (rs := [5]) (by kernel_rfl) (by simp) ?_
              refine (AllReadyIn.cons rfl (fun K hK => ?_) AllReadyIn.nil)
              go_simp
              refine hK _ _ ?_
              clear hK K
              refine wpAnyIn_done (by kernel_rfl) ?_ _
              gi_wp2_with fail
              exact HFIN.out
      · have t1 : (er != 0) = true := by simpa using her
        have x1 : ∀ i, W.cell? ⟨w.heap.size, i, none⟩ = #[.slice none 0 0][i]? := fun i => cell_of_row W _ i _ _ _ e4
        have x2 : ∀ i, W.frozen? ⟨w.heap.size, i, none⟩ = false := fun i => by simp [World.frozen?, e4]
        have x3 : ∀ i, W.cell? ⟨w.heap.size + 1, i, none⟩ = #[.int .i64 0][i]? := fun i => cell_of_row W _ i _ _ _ e5
        have x4 : ∀ i, W.frozen? ⟨w.heap.size + 1, i, none⟩ = false := fun i => by simp [World.frozen?, e5]
        have HH0 := Lib.hid h0
        have HE3 := Lib.hid e3
        have HE2 := Lib.hid e2
        clear h0 e3 e2
        gi_wp2_with fail
        refine ⟨(KeepsOthers.setCell _ _ _).trans (KeepsOthers.setCell _ _ _), rfl, pre, _, rfl, her, HH0.out, (HE3.out.setCell (p := ⟨w.heap.size, 0, none⟩) (by simp) _).setCell (p := ⟨w.heap.size + 1, 0, none⟩) (by simp) _, ?_, ?_⟩
        · simp [go_sem, x1, x3]
        · simp [go_sem, x1, x3]
    case done =>
      rintro D ys W hD hg ⟨h0, v, xs, e1, e2, e3, e4, e5, e6⟩ hK
      obtain ⟨A4, c4, rfl⟩ := own_slice e2.1
      have hcut := goes_ok hg h0
      have x1 : ∀ i, W.cell? ⟨w.heap.size, i, none⟩ = #[.slice none 0 0][i]? := fun i => cell_of_row W _ i _ _ _ e4
      have x2 : ∀ i, W.frozen? ⟨w.heap.size, i, none⟩ = false := fun i => by simp [World.frozen?, e4]
      have x3 : ∀ i, W.cell? ⟨w.heap.size + 1, i, none⟩ = #[.int .i64 0][i]? := fun i => cell_of_row W _ i _ _ _ e5
      have x4 : ∀ i, W.frozen? ⟨w.heap.size + 1, i, none⟩ = false := fun i => by simp [World.frozen?, e5]
      have x5 : ∀ i, W.cell? ⟨w.heap.size + 1 + 1, i, none⟩ = #[.slice A4 (ys.map (·.t)).length c4][i]? := fun i => cell_of_row W _ i _ _ _ e1
      have HH0 := Lib.hid h0
      have HE3 := Lib.hid e3
      have HE2 := Lib.hid e2
      have HCUT := Lib.hid hcut
      have HKD := Lib.hid hK
      clear h0 e3 e2 hg hcut hK
      gi_wp2_with fail
      have hkd4 : ((W.setCell ⟨w.heap.size, 0, none⟩ (.slice A4 (ys.map (·.t)).length c4)).setCell ⟨w.heap.size + 1, 0, none⟩ (.int .i64 0)).heap[D]? = some (.deferred (some [])) :=
        ((KeepsOthers.setCell W _ _).trans (KeepsOthers.setCell _ _ _)).same D _ HKD.out rfl
      have hcl : ((W.setCell ⟨w.heap.size, 0, none⟩ (.slice A4 (ys.map (·.t)).length c4)).setCell ⟨w.heap.size + 1, 0, none⟩ (.int .i64 0)).cell? ⟨w.heap.size, 0, none⟩ = some (.slice A4 (ys.map (·.t)).length c4) := by simp [go_sem, x1, x3]
      have hcl2 : ((W.setCell ⟨w.heap.size, 0, none⟩ (.slice A4 (ys.map (·.t)).length c4)).setCell ⟨w.heap.size + 1, 0, none⟩ (.int .i64 0)).cell? ⟨w.heap.size + 1, 0, none⟩ = some (.int .i64 0) := by simp [go_sem, x1, x3]
      have hrow := tsRow_far (tsRow_far HE2.out (k := w.heap.size) (by omega) (.slice A4 (ys.map (·.t)).length c4)) (k := w.heap.size + 1) (by omega) (.int .i64 0)
      have hbl := (HE3.out.setCell (p := ⟨w.heap.size, 0, none⟩) (by simp) (.slice A4 (ys.map (·.t)).length c4)).setCell (p := ⟨w.heap.size + 1, 0, none⟩) (by simp) (.int .i64 0)
      have hrd : cutp b = (ys.map (·.t), 0) := by rw [cutp, if_neg (by rw [HL.out]; omega), HCUT.out]
      rw [hrd]
      simp only [List.length_map] at hkd4 hcl hcl2 hrow hbl
      refine ⟨by simp, .inl ⟨_, _, rfl, run_takeDeferred hkd4, ?_⟩⟩
      have hk4 := cell_kept hcl (grownBy_putObj' _ D (.deferred none)) (fun r e => by cases e; exact ⟨_, hkd4, rfl⟩)
      have hk5 := cell_kept hcl2 (grownBy_putObj' _ D (.deferred none)) (fun r e => by cases e; exact ⟨_, hkd4, rfl⟩)
      refine ⟨.tuple #[.slice A4 ys.length c4, .int .i64 0], ?_, _, rfl, (tsRow_mono (tsRow_putObj hrow hkd4 rfl _) (by omega)).own, hbl.grown (grownBy_putObj' _ D (.deferred none)) hbl.size (fun r e => by cases e; omega)⟩
      simp [results, Try.f19, go_sem, hk4, hk5]
    case stop =>
      rintro D cd pre W hD hbg ⟨rfl, p, x, rfl, hx, hp, e3, e4, e5⟩ hK
      obtain ⟨hcut, hx2⟩ := begins_bad hbg hp hx
      have HE3 := Lib.hid e3
      have HKD := Lib.hid hK
      clear e3 hK hbg hp
      gi_wp2_with fail
      have hrd : cutp b = ([], 2) := by rw [cutp, if_neg (by rw [HL.out]; omega), hcut]
      rw [hrd]
      refine ⟨by simp, .inl ⟨_, _, rfl, run_takeDeferred HKD.out, ?_⟩⟩
      have hk4 := cell_kept e4 (grownBy_putObj' W D (.deferred none)) (fun r e => by cases e; exact ⟨_, HKD.out, rfl⟩)
      have hk5 := cell_kept e5 (grownBy_putObj' W D (.deferred none)) (fun r e => by cases e; exact ⟨_, HKD.out, rfl⟩)
      rw [hx2] at hk5
      refine ⟨.tuple #[.slice none 0 0, .int .i64 2], ?_, _, rfl, tsOwn_nil _ _, HE3.out.grown (grownBy_putObj' W D (.deferred none)) HE3.out.size (fun r e => by cases e; omega)⟩
      simp [results, Try.f19, go_sem, hk4, hk5]


theorem cut_any (v : Value) (b : List UInt8) (w : World) (h : Bs w (fun _ => True) v b) (hbl : b.length ≤ 1000000) : Calls Try.prog 19 #[v] w (GivesTs w (cutp b)) :=
  callsIn_wide.1 (packCut_in 3 (Nat.le_refl _) v b w h hbl)

end Go.Proofs.Ytndccdoohmgmlab
