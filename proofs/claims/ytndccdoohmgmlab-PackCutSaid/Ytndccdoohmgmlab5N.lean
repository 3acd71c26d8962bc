/- PROVED: PackCut -/
import Derived.Test.Ytndccdoohmgmlab5M
import Derived.OpenShut
import Derived.SizedLaws
namespace Go.Proofs.Ytndccdoohmgmlab
open Go.ChangeShapes Go.WideShapes Go.ChangeAt Go.RowKit

section
variable {H : Type} {enc : TypeId × Value → H} {P : Program} {w : World} {base : Nat} {spare : Nat → Bool} {held : Bool}
theorem packCut_args {t0 t1 t2 : TypeId} {args : Array Value} {ds : List (DataW H)} {ps : List MemPlace} (h : DataW.TrodAll enc P w base spare held [t0, t1, t2] args.toList ds ps) :
    ∃ v0 v1 v2 d0 d1 d2 p0 p1 p2, args = #[v0, v1, v2] ∧ ds = [d0, d1, d2] ∧ ps = p0 ++ p1 ++ p2 ∧ DataW.Trod enc P w base spare held t0 v0 d0 p0 ∧ DataW.Trod enc P w base spare held t1 v1 d1 p1 ∧ DataW.Trod enc P w base spare held t2 v2 d2 p2 := by
  obtain ⟨v0, r0, d0, s0, p0, q0, hargs, rfl, rfl, h0, h⟩ := trodAll_cons h
  obtain ⟨v1, r1, d1, s1, p1, q1, rfl, rfl, rfl, h1, h⟩ := trodAll_cons h
  obtain ⟨v2, r2, d2, s2, p2, q2, rfl, rfl, rfl, h2, h⟩ := trodAll_cons h
  obtain ⟨rfl, rfl, rfl⟩ := trodAll_nil h
  exact ⟨v0, v1, v2, d0, d1, d2, p0, p1, p2, by cases args; simp_all, rfl, by simp, h0, h1, h2⟩
theorem packCut_mk {t0 t1 t2 : TypeId} {v0 v1 v2 : Value} {d0 d1 d2 : DataW H} {p0 p1 p2 : List MemPlace} (h0 : DataW.Trod enc P w base spare held t0 v0 d0 p0) (h1 : DataW.Trod enc P w base spare held t1 v1 d1 p1) (h2 : DataW.Trod enc P w base spare held t2 v2 d2 p2) :
    DataW.TrodAll enc P w base spare held [t0, t1, t2] [v0, v1, v2] [d0, d1, d2] (p0 ++ (p1 ++ (p2 ++ []))) :=
  trodAll_cons_mk h0 (trodAll_cons_mk h1 (trodAll_cons_mk h2 (trodAll_mk0)))
end

section
open Go.Deep Pk
variable {H : Type} {enc : TypeId × Value → H} {W : World} {base : Nat} {spare : Nat → Bool} {held : Bool}

theorem weights_all {P : Program} {e : TypeId} : ∀ {ds : List (DataW H)} {d : DataW H}, d ∈ ds → ∀ n ∈ d.weights P e, n ∈ DataW.weightsAll P e ds
  | [], _, h, _, _ => by simp at h
  | x :: r, d, h, n, hn => by
    rw [DataW.weightsAll, List.mem_append]
    rcases List.mem_cons.1 h with rfl | h
    · exact .inl hn
    · exact .inr (weights_all h n hn)

/-- A text that was read before the call is no longer than the reach. -/
theorem bs_sized {fuel : Nat} {v : Value} {x : DataW H × List MemPlace} (h : DataW.trod enc Try.prog W base spare held fuel 22 [v] = some x) (hs : ∀ n ∈ DataW.weights Try.prog 22 x.1, n ≤ reachBytes)
    {S : Nat → Prop} {l : List UInt8} (hb : Bs W S v l) : l.length ≤ 140737488355328 := by
  obtain ⟨A, c, rfl, hc1, _⟩ := hb
  rcases open_ints Try.underlying22 Try.underlying5 Try.cells1 h with ⟨hcs, _⟩ | ⟨a, len, cap, zs, hcs, _, hl, hm, hz, hx, _, _⟩
  · injection hcs with hcs
    injection hcs with _ h1 _
    omega
  · injection hcs with hcs
    injection hcs with _ h1 _
    subst hx
    have e1 : Try.prog.bytesOf 5 = 1 := by kernel_rfl
    have := hs ((lits .u8 (zs.take len)).length + (lits .u8 (zs.drop len)).length) (by
      dsimp only
      rw [DataW.weights, Try.underlying22]
      exact List.mem_cons.2 (.inl (by rw [e1, Nat.mul_one])))
    have hzl : len ≤ zs.length := by rw [hz]; split <;> omega
    simp only [lits, List.length_map, List.length_take, List.length_drop, reachBytes] at this
    omega

theorem texts_sized {fuel : Nat} {v : Value} {x : DataW H × List MemPlace} (h : DataW.trod enc Try.prog W base spare held fuel 33 [v] = some x) (hs : ∀ n ∈ DataW.weights Try.prog 33 x.1, n ≤ reachBytes) :
    ∃ l, Ts W (fun _ => True) v l ∧ ∀ t ∈ l, t.length ≤ 140737488355328 := by
  rcases open_slice Try.underlying33 h with ⟨hcs, _⟩ | ⟨a, len, cap, m, n, D, Pl, hcs, _, hl, hm, hmm, hxx, hi⟩
  · injection hcs with hcs
    subst hcs
    exact ⟨[], ⟨none, 0, [], rfl, by simp, by simp [maxLen], fun _ => rfl, ⟨rfl, fun j x hx => by simp at hx⟩, fun hn => by simp at hn⟩, fun t ht => by simp at ht⟩
  · injection hcs with hcs
    subst hcs
    have hml : len ≤ m := by rw [hmm]; split <;> omega
    have hel : ∀ i, i < len → ∃ t : List UInt8 × Value, W.cell? (a.add i) = some t.2 ∧ Bs W (fun _ => True) t.2 t.1 ∧ t.1.length ≤ 140737488355328 := by
      intro i hil
      obtain ⟨cs', hc, ht⟩ := hi i (by omega)
      have e1 : Try.prog.cellsOf 22 = 1 := by kernel_rfl
      rw [e1] at hc
      obtain ⟨_, hcl, hat⟩ := World.cells?_some hc
      match cs', hcl with
      | [c0], _ =>
        obtain ⟨b, hb⟩ := bs_of_trod ht
        refine ⟨(b, c0), ?_, hb, bs_sized ht (fun n hn => hs n ?_) hb⟩
        · have := hat 0 (by omega)
          simpa [Addr.add] using this
        · rw [hxx]
          dsimp only
          rw [DataW.weights, Try.underlying33]
          refine List.mem_cons_of_mem _ (List.mem_append.2 (.inl (weights_all (d := D i) ?_ n hn)))
          exact List.mem_map.2 ⟨i, List.mem_range.2 hil, rfl⟩
    obtain ⟨l, hl1, hl2⟩ := list_by_index hel
    refine ⟨l.map (·.1), ⟨some a, cap, l.map (·.2), by simp [hl1], by simp [hl1, hl], hm, (fun h => by cases h), ⟨by simp, fun j x hx => ?_⟩, fun _ => ⟨a, rfl, trivial, fun j u hu => ?_⟩⟩, fun t ht => ?_⟩
    · rw [List.getElem?_map, Option.map_eq_some_iff] at hx
      obtain ⟨t, ht, rfl⟩ := hx
      exact ⟨t.2, by rw [List.getElem?_map, ht]; rfl, (hl2 j t ht).2.1⟩
    · rw [List.getElem?_map, Option.map_eq_some_iff] at hu
      obtain ⟨t, ht, rfl⟩ := hu
      exact (hl2 j t ht).1
    · obtain ⟨u, hu, rfl⟩ := List.mem_map.1 ht
      obtain ⟨j, hj⟩ := List.mem_iff_getElem?.1 hu
      exact (hl2 j u hj).2.2

theorem texts_of_trod_sized {r : Reach} {b0 : Nat} {v : Value} {d : DataW H} {p : List MemPlace} (hv : Value.okWide Try.prog W r b0 33 v) (h : DataW.Trod enc Try.prog W base spare held 33 v d p) (hs : ∀ n ∈ DataW.weights Try.prog 33 d, n ≤ reachBytes) :
    ∃ l, Ts W (fun _ => True) v l ∧ ∀ t ∈ l, t.length ≤ 140737488355328 := by
  obtain ⟨A, len, cap, rfl⟩ := okWide_slice Try.underlying33 hv
  obtain ⟨fuel, hf⟩ := h
  exact texts_sized hf hs
end

set_option maxRecDepth 100000 in
theorem packCut_lifted (os : Os) (started : os.Started) (H : Type) (enc : TypeId × Value → H) :
    ReturnsInHanded {} Try.checked os 6 .any (Rows.packCutSpec.pre6 enc Try.prog Try.f6 Rows.packCutRow.domain false) (Rows.packCutSpec.post enc Try.prog Try.f6 false true false false) := by
  refine returnsInHanded_of_change_sized (C := Try.checked) Try.own started (by kernel_rfl) Try.func6
    (ChangeSpec.witness6 (enc := enc) (C := Try.checked) false ⟨#[], #[.slice none 0 0, .slice none 0 0, .slice none 0 0], []⟩ 8 (by kernel_rfl) (by kernel_rfl) (by kernel_rfl) (by kernel_rfl)) ?_
  intro W base args ds gs before hval0 hW hcnd hsz0 _
  have hval : ∀ (j : Nat) t v, Try.f6.params[j]? = some t → args[j]? = some v → Value.okWide Try.prog W .any base t v := hval0
  have hW' := hW
  obtain ⟨p, q, hA0, hV, rfl, hfz, hnd⟩ := hW
  have hA : DataW.TrodAll enc Try.prog W 0 (fun _ => true) true Try.f6.params.toList args.toList ds p := hA0
  have hlt := hW'.lt
  have hsz : (DataW.weightsEach Try.prog (Try.f6.params.toList ++ Rows.packCutSpec.plain.varTypes Try.prog) (ds ++ gs)).all (· ≤ reachBytes) = true := hsz0
  rw [Try.params6] at hA hval hsz
  obtain ⟨v0, v1, v2, d0, d1, d2, p0, p1, p2, rfl, rfl, rfl, h0, h1, h2⟩ := packCut_args hA
  obtain ⟨rfl, rfl⟩ := trodVars_none hV
  have hz : ∀ (j : Nat) (t : TypeId) (d : DataW H), [33, 33, 22][j]? = some t → [d0, d1, d2][j]? = some d → ∀ n ∈ d.weights Try.prog t, n ≤ reachBytes := fun j t d ht hd n hn => by
    have := List.all_eq_true.1 hsz n (DataW.weights_mem_each ht hd n hn)
    simpa using this
  obtain ⟨l0, h0', hm0⟩ := texts_of_trod_sized (hval 0 33 v0 rfl rfl) h0 (hz 0 _ _ rfl rfl)
  obtain ⟨l1, h1', hm1⟩ := texts_of_trod_sized (hval 1 33 v1 rfl rfl) h1 (hz 1 _ _ rfl rfl)
  obtain ⟨l2, h2'⟩ := octets_of_trod (hval 2 22 v2 rfl rfl) h2
  clear hA0 hval0 hsz0 hsz hz
  simp only [List.append_nil, List.nil_append] at hW' hlt
  refine (packCut_any v0 v1 v2 l0 l1 l2 W h0' h1' h2' hm0 hm1).mono fun e W' ⟨he, hb⟩ => ?_
  subst he
  refine ⟨_, rfl, post_under (pa := p0 ++ p1 ++ p2) (pv := []) hW' (fun _ _ _ => trodAll_mk1 (shut_bool Try.underlying4 _)) (fun sp hsp => ?_) (fun _ _ => rfl) (by simp) hb (ok_one (by kernel_rfl) rfl (okWide_bool_mk Try.underlying4 _))⟩
  have s0 : DataW.Trod enc Try.prog W' 0 sp true 33 v0 d0 p0 := WideElems.Trod_stays Try.laidOut (by kernel_rfl) (of_decide_eq_true (by kernel_rfl)) h0 (fun x hx => hb.same (hlt x (by simp [hx]))) (fun x hx => hsp x (by simp [hx]))
  have s1 : DataW.Trod enc Try.prog W' 0 sp true 33 v1 d1 p1 := WideElems.Trod_stays Try.laidOut (by kernel_rfl) (of_decide_eq_true (by kernel_rfl)) h1 (fun x hx => hb.same (hlt x (by simp [hx]))) (fun x hx => hsp x (by simp [hx]))
  have s2 : DataW.Trod enc Try.prog W' 0 sp true 22 v2 d2 p2 := WideElems.Trod_stays Try.laidOut (by kernel_rfl) (of_decide_eq_true (by kernel_rfl)) h2 (fun x hx => hb.same (hlt x (by simp [hx]))) (fun x hx => hsp x (by simp [hx]))
  have s := packCut_mk (enc := enc) (P := Try.prog) (w := W') (base := 0) (spare := sp) (held := true) s0 s1 s2
  simp only [List.append_nil, List.nil_append, List.append_assoc] at s ⊢
  exact s

theorem packCut_holds : Rows.PackCutSaid :=
  OpenClaim.holds_of_wide 6 Try.f6 rfl rfl rfl rfl rfl rfl rfl ⟨rfl, rfl, rfl, rfl, rfl⟩ rfl rfl rfl rfl rfl (by kernel_rfl) Try.func6 (by kernel_rfl)
    (of_decide_eq_true (by kernel_rfl)) (by unfold Func.isWrapper; first | (rw [if_pos (by decide +kernel)]; kernel_rfl) | (rw [if_neg (by decide +kernel)]; exact ⟨rfl, rfl⟩))
    (fun os started H enc _ => packCut_lifted os started H enc)
#print axioms packCut_holds

end Go.Proofs.Ytndccdoohmgmlab
