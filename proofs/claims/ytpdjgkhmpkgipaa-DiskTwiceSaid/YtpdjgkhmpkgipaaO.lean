/- Arguments opened: octets, writes, a disk; and the row's last step. -/
import Derived.Test.YtpdjgkhmpkgipaaL
import Derived.ProofKit
import Derived.Lib.SmallJoins
import Derived.Deep.Slices
namespace Go.Proofs.Ytpdjgkhmpkgipaa
open Go.RowKit Dk Go.ChangeShapes Go.WideShapes Go.Deep

theorem Try.own : ownKnob Try.prog.godebug = none := by kernel_rfl
theorem Try.laidOut : laidOutB Try.prog = true := by kernel_rfl
theorem Try.cells4 : Try.prog.cellsOf 25 = 4 := by kernel_rfl
theorem Try.cells2 : Try.prog.cellsOf 56 = 2 := by kernel_rfl
theorem Try.cells1 : Try.prog.cellsOf 5 = 1 := by kernel_rfl

section
variable {H : Type} {enc : TypeId × Value → H} {W : World} {base : Nat} {spare : Nat → Bool} {held : Bool}

theorem bs_of_trod {fuel : Nat} {v : Value} {x : DataW H × List MemPlace} (h : DataW.trod enc Try.prog W base spare held fuel 22 [v] = some x) : ∃ l, Bs W (fun _ => True) v l := by
  rcases open_ints Try.underlying22 Try.underlying5 Try.cells1 h with ⟨hcs, _⟩ | ⟨a, len, cap, zs, hcs, _, hl, hm, hz, _, hcell, hwz⟩
  · injection hcs with hcs
    subst hcs
    exact ⟨[], none, 0, rfl, by simp, by simp [maxLen], fun _ => rfl, fun hn => by simp [octets] at hn⟩
  · injection hcs with hcs
    subst hcs
    have hzl : len ≤ zs.length := by rw [hz]; split <;> omega
    have hlen : ((zs.take len).map fun n => UInt8.ofNat n.toNat).length = len := by simp; omega
    refine ⟨(zs.take len).map fun n => UInt8.ofNat n.toNat, some a, cap, by rw [hlen], by rw [hlen]; exact hl, hm, (fun h => by cases h), fun _ => ⟨a, rfl, trivial, fun j u hu => ?_⟩⟩
    simp only [octets, List.map_map, List.getElem?_map, Option.map_eq_some_iff] at hu
    obtain ⟨z, hz1, rfl⟩ := hu
    have hj : j < len := by have := (List.getElem?_eq_some_iff.1 hz1).1; simp at this; omega
    rw [List.getElem?_take_of_lt hj] at hz1
    rw [hcell j (by omega), List.getD_eq_getElem?_getD, hz1]
    have hb := bounds_u8 (hwz z (List.mem_of_getElem? hz1))
    simp only [Function.comp, Option.getD_some, UInt8.toNat_ofNat']
    congr 2
    omega

theorem flat2_length {α β : Type} (f g : α → β) : ∀ l : List α, (l.flatMap fun t => [f t, g t]).length = l.length * 2
  | [] => rfl
  | x :: r => by simp only [List.flatMap_cons, List.length_append, flat2_length f g r, List.length_cons, List.length_nil]; omega
theorem flat2_at {α β : Type} (f g : α → β) : ∀ (l : List α) (j : Nat), (l.flatMap fun t => [f t, g t])[j * 2]? = l[j]?.map f ∧ (l.flatMap fun t => [f t, g t])[j * 2 + 1]? = l[j]?.map g
  | [], j => by simp
  | x :: r, 0 => by simp
  | x :: r, j + 1 => by
    have h := flat2_at f g r j
    have e1 : (j + 1) * 2 = j * 2 + 1 + 1 := by omega
    rw [e1]
    simpa [List.flatMap_cons] using h

theorem ws_of_trod {fuel : Nat} {v : Value} {x : DataW H × List MemPlace} (h : DataW.trod enc Try.prog W base spare held fuel 23 [v] = some x) : ∃ l, Ws W (fun _ => True) v l := by
  rcases open_slice Try.underlying23 h with ⟨hcs, _⟩ | ⟨a, len, cap, m, n, D, Pl, hcs, _, hl, hm, hmm, _, hi⟩
  · injection hcs with hcs
    subst hcs
    exact ⟨[], none, 0, [], rfl, by simp, by simp [maxLen], fun _ => rfl, ⟨rfl, fun j x hx => by simp at hx⟩, fun hn => by simp at hn⟩
  · injection hcs with hcs
    subst hcs
    have hml : len ≤ m := by rw [hmm]; split <;> omega
    have hel : ∀ i, i < len → ∃ t : Wr × Value, W.cell? (a.add (i * 2)) = some (.int .i64 t.1.pos) ∧ W.cell? (a.add (i * 2 + 1)) = some t.2 ∧ Bs W (fun _ => True) t.2 t.1.b := by
      intro i hil
      obtain ⟨cs', hc, ht⟩ := hi i (by omega)
      rw [Try.cells2] at hc
      obtain ⟨_, hcl, hat⟩ := World.cells?_some hc
      obtain ⟨ys, n', _, _, _, hyl, hf⟩ := DataW.trod_struct Try.underlying56 ht
      match cs', hcl with
      | [c0, c1], _ =>
        have e0 : Try.prog.cellsOf 3 = 1 := by kernel_rfl
        have e1 : Try.prog.cellsOf 22 = 1 := by kernel_rfl
        have h0 : DataW.trod enc Try.prog W base spare held n' 3 (([c0, c1].drop 0).take (Try.prog.cellsOf 3)) = ys[0]? := hf 0 _ rfl
        have h1 : DataW.trod enc Try.prog W base spare held n' 22 (([c0, c1].drop 1).take (Try.prog.cellsOf 22)) = ys[1]? := hf 1 _ rfl
        rw [e0] at h0
        rw [e1] at h1
        simp only [List.drop_zero, List.take_succ_cons, List.take_zero, List.drop_succ_cons] at h0 h1
        have hy0 : ∃ y0, ys[0]? = some y0 := ⟨_, List.getElem?_eq_getElem (by rw [hyl]; decide)⟩
        have hy1 : ∃ y1, ys[1]? = some y1 := ⟨_, List.getElem?_eq_getElem (by rw [hyl]; decide)⟩
        obtain ⟨y0, hy0⟩ := hy0
        obtain ⟨y1, hy1⟩ := hy1
        rw [hy0] at h0
        rw [hy1] at h1
        obtain ⟨p, hp, _, _⟩ := DataW.trod_int Try.underlying3 h0
        obtain ⟨b, hb⟩ := bs_of_trod h1
        injection hp with hp
        subst hp
        refine ⟨(⟨p, b⟩, c1), ?_, ?_, hb⟩
        · have := hat 0 (by omega)
          simpa [Addr.add] using this
        · have := hat 1 (by omega)
          rw [add_add] at this
          simpa using this
    obtain ⟨l, hl1, hl2⟩ := list_by_index hel
    refine ⟨l.map (·.1), some a, cap, l.flatMap fun t => [.int .i64 t.1.pos, t.2], by simp [hl1], by simp [hl1, hl], hm, (fun h => by cases h), ?_, ?_⟩
    · refine ⟨by rw [List.length_map]; exact flat2_length _ _ l, fun j x hx => ?_⟩
      rw [List.getElem?_map, Option.map_eq_some_iff] at hx
      obtain ⟨t, ht, rfl⟩ := hx
      rw [(flat2_at (fun t : Wr × Value => Value.int .i64 t.1.pos) (·.2) l j).1, (flat2_at (fun t : Wr × Value => Value.int .i64 t.1.pos) (·.2) l j).2, ht]
      exact ⟨rfl, t.2, rfl, (hl2 j t ht).2.2⟩
    · refine fun _ => ⟨a, rfl, trivial, fun j u hu => ?_⟩
      have hj : ∃ i, j = i * 2 ∨ j = i * 2 + 1 := ⟨j / 2, by omega⟩
      obtain ⟨i, rfl | rfl⟩ := hj
      · rw [(flat2_at (fun t : Wr × Value => Value.int .i64 t.1.pos) (·.2) l i).1, Option.map_eq_some_iff] at hu
        obtain ⟨t, ht, rfl⟩ := hu
        exact (hl2 i t ht).1
      · rw [(flat2_at (fun t : Wr × Value => Value.int .i64 t.1.pos) (·.2) l i).2, Option.map_eq_some_iff] at hu
        obtain ⟨t, ht, rfl⟩ := hu
        exact (hl2 i t ht).2.1

theorem disk_of_trod {r : Reach} {b0 : Nat} {v : Value} {d : DataW H} {p : List MemPlace} (hv : Value.okWide Try.prog W r b0 25 v) (h : DataW.Trod enc Try.prog W base spare held 25 v d p) :
    ∃ D, DiskR W (fun _ => True) v D := by
  obtain ⟨v0, v1, v2, v3, y0, y1, y2, y3, n, rfl, _, _, h0, h1, h2, h3⟩ := Joins.open_agg4 Try.underlying25 (by kernel_rfl) Try.cells4 hv h
  obtain ⟨l0, hb0⟩ := bs_of_trod h0
  obtain ⟨l1, hb1⟩ := ws_of_trod h1
  obtain ⟨f, hf, _⟩ := DataW.trod_int Try.underlying3 h2
  obtain ⟨b, hb, _⟩ := DataW.trod_bool Try.underlying4 h3
  injection hf with hf
  injection hb with hb
  subst hf hb
  exact ⟨⟨l0, l1, f, b⟩, _, _, rfl, hb0, hb1⟩

theorem octets_of_trod {r : Reach} {b0 : Nat} {v : Value} {d : DataW H} {p : List MemPlace} (hv : Value.okWide Try.prog W r b0 22 v) (h : DataW.Trod enc Try.prog W base spare held 22 v d p) :
    ∃ l, Bs W (fun _ => True) v l := by
  obtain ⟨A, len, cap, rfl⟩ := okWide_slice Try.underlying22 hv
  obtain ⟨fuel, hf⟩ := h
  exact bs_of_trod hf

end

section
variable {H : Type} {enc : TypeId × Value → H} {P : Program}
/-- The row's last step, where all that lay there lies as it lay. -/
theorem post_under {f : Func} {s : ChangeSpec} {apart fresh handsOn again : Bool} {W W' : World} {args : Array Value} {v : Value} {ds gs : List (DataW H)} {before pa pv : List MemPlace}
    (hW : DataW.Whole enc P f.params.toList s.vars apart W args.toList ds gs before)
    (hres : ∀ (b : Nat) (sp : Nat → Bool) (hd : Bool), DataW.TrodAll enc P W' b sp hd f.resultTypes.toList (v.resultList f.resultTypes.size) (s.fn H (ds ++ gs)).results [])
    (hargs : ∀ sp : Nat → Bool, (∀ p ∈ before, sp p.block = true) → DataW.TrodAll enc P W' 0 sp true f.params.toList args.toList (s.fn H (ds ++ gs)).args pa)
    (hvars : ∀ sp : Nat → Bool, (∀ p ∈ before, sp p.block = true) → DataW.TrodVars enc P W' sp s.vars (s.fn H (ds ++ gs)).vars pv)
    (hps : before = pa ++ pv) (hb : Below W.heap.size W W')
    (hok : ∀ (j : Nat) (t : TypeId) (r : Value), f.resultTypes[j]? = some t → (v.resultList f.resultTypes.size)[j]? = some r → Value.okWide P W' .any 0 t r) :
    s.post enc P f apart fresh handsOn again W args v W' := by
  have hlt : ∀ p ∈ before, p.block < W.heap.size := fun p hp => hW.lt p hp
  have hold : ∀ p ∈ before, (fun b => decide (b < W.heap.size)) p.block = true := fun p hp => by simpa using hlt p hp
  have hin : ∀ p ∈ before, p ∈ pa ∨ p ∈ pv := fun p hp => List.mem_append.1 (hps ▸ hp)
  refine ⟨ds, gs, before, [], pa, pv, hW, hres _ _ _, hargs _ hold, hvars _ hold, World.keptBut_mono (fun p hp => ⟨hp, ?_⟩) (hb.frame (· ∈ before)), fun _ => ?_⟩
  · exact .inr (hin p hp)
  · obtain ⟨_, _, _, _, _, hz, hn⟩ := hW
    refine ⟨hok, _, _, ([] ++ pa) ++ pv, ⟨[] ++ pa, pv, trodAll_append (hargs _ (fun _ _ => rfl)) (hres _ _ _), hvars _ (fun _ _ => rfl), rfl, fun b off hp => ?_, fun ha => ?_⟩, fun p hp _ => ?_⟩
    · have hmem : MemPlace.cell b off ∈ before := by rw [hps]; simpa using hp
      rw [hb.frozen (hlt _ hmem)]
      exact hz b off hmem
    · have h := hn ha
      rw [hps] at h
      simpa using h
    · rw [hps]
      simpa using hp
end

end Go.Proofs.Ytpdjgkhmpkgipaa
