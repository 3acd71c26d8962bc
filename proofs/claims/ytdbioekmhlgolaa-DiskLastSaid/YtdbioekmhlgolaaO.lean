/- Arguments opened: octets, writes, a disk; and the row's last step. -/
import Derived.Test.YtdbioekmhlgolaaL
import Derived.ProofKit
import Derived.Lib.SmallJoins
import Derived.Deep.Slices
namespace Go.Proofs.Ytdbioekmhlgolaa
open Go.RowKit Dk Go.ChangeShapes Go.WideShapes Go.Deep

theorem Try.cells4 : Try.prog.cellsOf 25 = 4 := by kernel_rfl
theorem Try.cells2 : Try.prog.cellsOf 56 = 2 := by kernel_rfl

section
variable {H : Type} {enc : TypeId × Value → H} {W : World} {base : Nat} {spare : Nat → Bool} {held : Bool}

theorem flat2_length {α β : Type} (f g : α → β) : ∀ l : List α, (l.flatMap fun t => [f t, g t]).length = l.length * 2
  | [] => rfl
  | x :: r => by simp only [List.flatMap_cons, List.length_append, flat2_length f g r, List.length_cons, List.length_nil]; omega
theorem flat2_at {α β : Type} (f g : α → β) : ∀ (l : List α) (j : Nat), (l.flatMap fun t => [f t, g t])[j * 2]? = l[j]?.map f ∧ (l.flatMap fun t => [f t, g t])[j * 2 + 1]? = l[j]?.map g
  | [], j => by simp
  | x :: r, 0 => by simp
  | x :: r, j + 1 => by
    have h := flat2_at f g r j
    have e1 : (j + 1) * 2 = j * 2 + 1 + 1 := by omega
    rw [e1]
    simpa [List.flatMap_cons] using h

theorem ws_of_trod {fuel : Nat} {v : Value} {x : DataW H × List MemPlace} (h : DataW.trod enc Try.prog W base spare held fuel 23 [v] = some x) : ∃ l, Ws W (fun _ => True) v l := by
  rcases open_slice Try.underlying23 h with ⟨hcs, _⟩ | ⟨a, len, cap, m, n, D, Pl, hcs, _, hl, hm, hmm, _, hi⟩
  · injection hcs with hcs
    subst hcs
    exact ⟨[], none, 0, [], rfl, by simp, by simp [maxLen], fun _ => rfl, ⟨rfl, fun j x hx => by simp at hx⟩, fun hn => by simp at hn⟩
  · injection hcs with hcs
    subst hcs
    have hml : len ≤ m := by rw [hmm]; split <;> omega
    have hel : ∀ i, i < len → ∃ t : Wr × Value, W.cell? (a.add (i * 2)) = some (.int .i64 t.1.pos) ∧ W.cell? (a.add (i * 2 + 1)) = some t.2 ∧ Bs W (fun _ => True) t.2 t.1.b := by
      intro i hil
      obtain ⟨cs', hc, ht⟩ := hi i (by omega)
      rw [Try.cells2] at hc
      obtain ⟨_, hcl, hat⟩ := World.cells?_some hc
      obtain ⟨ys, n', _, _, _, hyl, hf⟩ := DataW.trod_struct Try.underlying56 ht
      match cs', hcl with
      | [c0, c1], _ =>
        have e0 : Try.prog.cellsOf 3 = 1 := by kernel_rfl
        have e1 : Try.prog.cellsOf 22 = 1 := by kernel_rfl
        have h0 : DataW.trod enc Try.prog W base spare held n' 3 (([c0, c1].drop 0).take (Try.prog.cellsOf 3)) = ys[0]? := hf 0 _ rfl
        have h1 : DataW.trod enc Try.prog W base spare held n' 22 (([c0, c1].drop 1).take (Try.prog.cellsOf 22)) = ys[1]? := hf 1 _ rfl
        rw [e0] at h0
        rw [e1] at h1
        simp only [List.drop_zero, List.take_succ_cons, List.take_zero, List.drop_succ_cons] at h0 h1
        have hy0 : ∃ y0, ys[0]? = some y0 := ⟨_, List.getElem?_eq_getElem (by rw [hyl]; decide)⟩
        have hy1 : ∃ y1, ys[1]? = some y1 := ⟨_, List.getElem?_eq_getElem (by rw [hyl]; decide)⟩
        obtain ⟨y0, hy0⟩ := hy0
        obtain ⟨y1, hy1⟩ := hy1
        rw [hy0] at h0
        rw [hy1] at h1
        obtain ⟨p, hp, _, _⟩ := DataW.trod_int Try.underlying3 h0
        obtain ⟨b, hb⟩ := bs_of_trod h1
        injection hp with hp
        subst hp
        refine ⟨(⟨p, b⟩, c1), ?_, ?_, hb⟩
        · have := hat 0 (by omega)
          simpa [Addr.add] using this
        · have := hat 1 (by omega)
          rw [add_add] at this
          simpa using this
    obtain ⟨l, hl1, hl2⟩ := list_by_index hel
    refine ⟨l.map (·.1), some a, cap, l.flatMap fun t => [.int .i64 t.1.pos, t.2], by simp [hl1], by simp [hl1, hl], hm, (fun h => by cases h), ?_, ?_⟩
    · refine ⟨by rw [List.length_map]; exact flat2_length _ _ l, fun j x hx => ?_⟩
      rw [List.getElem?_map, Option.map_eq_some_iff] at hx
      obtain ⟨t, ht, rfl⟩ := hx
      rw [(flat2_at (fun t : Wr × Value => Value.int .i64 t.1.pos) (·.2) l j).1, (flat2_at (fun t : Wr × Value => Value.int .i64 t.1.pos) (·.2) l j).2, ht]
      exact ⟨rfl, t.2, rfl, (hl2 j t ht).2.2⟩
    · refine fun _ => ⟨a, rfl, trivial, fun j u hu => ?_⟩
      have hj : ∃ i, j = i * 2 ∨ j = i * 2 + 1 := ⟨j / 2, by omega⟩
      obtain ⟨i, rfl | rfl⟩ := hj
      · rw [(flat2_at (fun t : Wr × Value => Value.int .i64 t.1.pos) (·.2) l i).1, Option.map_eq_some_iff] at hu
        obtain ⟨t, ht, rfl⟩ := hu
        exact (hl2 i t ht).1
      · rw [(flat2_at (fun t : Wr × Value => Value.int .i64 t.1.pos) (·.2) l i).2, Option.map_eq_some_iff] at hu
        obtain ⟨t, ht, rfl⟩ := hu
        exact (hl2 i t ht).2.1

theorem disk_of_trod {r : Reach} {b0 : Nat} {v : Value} {d : DataW H} {p : List MemPlace} (hv : Value.okWide Try.prog W r b0 25 v) (h : DataW.Trod enc Try.prog W base spare held 25 v d p) :
    ∃ D, DiskR W (fun _ => True) v D := by
  obtain ⟨v0, v1, v2, v3, y0, y1, y2, y3, n, rfl, _, _, h0, h1, h2, h3⟩ := Joins.open_agg4 Try.underlying25 (by kernel_rfl) Try.cells4 hv h
  obtain ⟨l0, hb0⟩ := bs_of_trod h0
  obtain ⟨l1, hb1⟩ := ws_of_trod h1
  obtain ⟨f, hf, _⟩ := DataW.trod_int Try.underlying3 h2
  obtain ⟨b, hb, _⟩ := DataW.trod_bool Try.underlying4 h3
  injection hf with hf
  injection hb with hb
  subst hf hb
  exact ⟨⟨l0, l1, f, b⟩, _, _, rfl, hb0, hb1⟩

end

end Go.Proofs.Ytdbioekmhlgolaa
