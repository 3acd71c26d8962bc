/- Two marks compared. -/
import Derived.Test.Ytikobhckkbicaaa2A
import Derived.Laws.StructEq
namespace Go.Proofs.Ytikobhckkbicaaa
open Go.RowKit Sk

section
variable {P : Program} (w : World)

theorem run_equalIn_row (d : Nat) (t e : TypeId) (k : IntKind) (n : Nat) (xs ys : List Int) (ht : P.underlying t = some (.array n e)) (hq : ∀ a b w, (Op.equalIn d e (.int k a) (.int k b)).run P w = .ok (a == b) w) (ha : ∀ w, (isAgg e).run P w = .ok false w) (hs : ∀ w, (sizeOf e).run P w = .ok 1 w)
    (hx : xs.length = n) (hy : ys.length = n) :
    (Op.equalIn (d + 1) t (.agg (xs.map (Value.int k)).toArray) (.agg (ys.map (Value.int k)).toArray)).run P w = .ok (decide (xs = ys)) w := by
  simp only [Op.equalIn, Sem.run_bind, run_underlying ht, Result.andThen_ok, hs, Std.Legacy.Range.forIn_eq_forIn_range', Std.Legacy.Range.size, Nat.sub_zero, Nat.add_sub_cancel, Nat.div_one]
  have key : ∀ (m i : Nat) (w : World), i + m = n → ((forIn (List.range' i m) ((none : Option Bool), ()) fun i __s => do
            let __do_lift ← part e (List.map (Value.int k) xs).toArray (i * 1)
            let __do_lift_1 ← part e (List.map (Value.int k) ys).toArray (i * 1)
            let __do_lift ← Op.equalIn d e __do_lift __do_lift_1
            if (!__do_lift) = true then pure (ForInStep.done (some false, ())) else pure (ForInStep.yield (none, ()))) : Sem _).run P w = .ok (if xs.drop i = ys.drop i then (none, ()) else (some false, ())) w := by
    intro m
    induction m with
    | zero =>
      intro i w h
      rw [List.drop_eq_nil_of_le (by omega), List.drop_eq_nil_of_le (by omega)]
      simp
    | succ m ih =>
      intro i w h
      have hxi : xs[i]? = some xs[i] := List.getElem?_eq_getElem (by omega)
      have hyi : ys[i]? = some ys[i] := List.getElem?_eq_getElem (by omega)
      have pa : ∀ w, (part e (List.map (Value.int k) xs).toArray (i * 1)).run P w = .ok (.int k xs[i]) w := fun w => by
        simp [part, ha, hxi]
      have pb : ∀ w, (part e (List.map (Value.int k) ys).toArray (i * 1)).run P w = .ok (.int k ys[i]) w := fun w => by
        simp [part, ha, hyi]
      rw [List.range'_succ, List.forIn_cons]
      simp only [Sem.run_bind, pa, pb, Result.andThen_ok, hq, Sem.run_ite]
      have d1 : xs.drop i = xs[i] :: xs.drop (i + 1) := List.drop_eq_getElem_cons (by omega)
      have d2 : ys.drop i = ys[i] :: ys.drop (i + 1) := List.drop_eq_getElem_cons (by omega)
      by_cases hc : xs[i] = ys[i]
      · have hb : (xs[i] == ys[i]) = true := by simpa using hc
        have e1 : (xs.drop i = ys.drop i) = (xs.drop (i + 1) = ys.drop (i + 1)) := by rw [d1, d2, hc]; simp only [List.cons.injEq, true_and]
        simp only [hb, e1, Bool.not_true, Bool.false_eq_true, if_false, Sem.run_pure, Result.andThen_ok]
        exact ih (i + 1) w (by omega)
      · have hb : (xs[i] == ys[i]) = false := by simpa using hc
        have e1 : (xs.drop i = ys.drop i) = False := eq_false (by rw [d1, d2]; intro h; injection h with h1 h2; exact hc h1)
        simp only [hb, e1, Bool.not_false, if_true, if_false, Sem.run_pure, Result.andThen_ok]
  rw [key n 0 w (by omega)]
  simp only [List.drop_zero]
  by_cases h : xs = ys <;> simp [h]

end

theorem ints_octets (l : List UInt8) : octets l = (l.map fun x => (x.toNat : Int)).map (Value.int .u8) := by simp [octets]

theorem ints_inj {l m : List UInt8} (h : (l.map fun x => (x.toNat : Int)) = (m.map fun x => (x.toNat : Int))) : l = m := by
  induction l generalizing m with
  | nil => cases m with
    | nil => rfl
    | cons _ _ => simp at h
  | cons x r ih => cases m with
    | nil => simp at h
    | cons y q =>
      simp only [List.map_cons, List.cons.injEq] at h
      obtain ⟨h1, h2⟩ := h
      rw [ih h2, UInt8.toNat_inj.1 (by omega : x.toNat = y.toNat)]

theorem isAgg_u8 (w : World) : (isAgg 5).run Try.prog w = .ok false w := by kernel_rfl
theorem sizeOf_u8 (w : World) : (sizeOf 5).run Try.prog w = .ok 1 w := by kernel_rfl

theorem run_equalIn_mark (l m : List UInt8) (hl : l.length = 8) (hm : m.length = 8) (w : World) :
    (Op.equalIn 10000 89 (.agg (octets l).toArray) (.agg (octets m).toArray)).run Try.prog w = .ok (decide (l = m)) w := by
  rw [ints_octets, ints_octets, show (10000 : Nat) = 9998 + 1 + 1 from rfl,
    run_equalIn_row w (9998 + 1) 89 5 .u8 8 _ _ (by kernel_rfl) (fun a b w => run_equalIn_int w 9998 5 .u8 .u8 a b Try.underlying5) isAgg_u8 sizeOf_u8 (by simpa using hl) (by simpa using hm)]
  by_cases h : l = m
  · simp [h]
  · have : ¬ (l.map fun x => (x.toNat : Int)) = (m.map fun x => (x.toNat : Int)) := fun e => h (ints_inj e)
    simp [h, this]

theorem run_eql_mark (l m : List UInt8) (hl : l.length = 8) (hm : m.length = 8) (w : World) :
    (binOp .eql 89 (.agg (octets l).toArray) (.agg (octets m).toArray)).run Try.prog w = .ok (.bool (decide (l = m))) w := by
  rw [run_eql_struct, run_equalIn_mark l m hl hm]
  rfl
theorem run_neq_mark (l m : List UInt8) (hl : l.length = 8) (hm : m.length = 8) (w : World) :
    (binOp .neq 89 (.agg (octets l).toArray) (.agg (octets m).toArray)).run Try.prog w = .ok (.bool (!decide (l = m))) w := by
  rw [run_neq_struct, run_equalIn_mark l m hl hm]
  rfl

end Go.Proofs.Ytikobhckkbicaaa
