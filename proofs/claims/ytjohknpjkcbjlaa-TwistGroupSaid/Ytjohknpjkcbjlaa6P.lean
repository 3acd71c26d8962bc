/- Vectors over lists: how far they are apart, their dots; what follows. -/
import Derived.Test.Ytjohknpjkcbjlaa4Q
namespace Go.Proofs.Ytjohknpjkcbjlaa.Vc
open Go.Proofs.Ytjohknpjkcbjlaa.Pk

/-- A sum of so many. -/
def sm (f : Nat → Int) : Nat → Int
  | 0 => 0
  | n + 1 => sm f n + f n

/-- Whether a vector may be. -/
def okV (v : List Int) : Bool := decide (1 ≤ v.length ∧ v.length ≤ 64) && v.all fun x => decide (-32767 ≤ x)
def chk (v : List Int) : Int := if okV v then 0 else 1
def isP (a b : List Int) : Bool := decide (a.length = b.length) && okV a && okV b
/-- Each number has sixteen bits. -/
def Small (v : List Int) : Prop := ∀ x ∈ v, -32768 ≤ x ∧ x ≤ 32767

def dif (a b : List Int) (i : Nat) : Int := (a.getD i 0 - b.getD i 0) * (a.getD i 0 - b.getD i 0)
def pro (a b : List Int) (i : Nat) : Int := a.getD i 0 * b.getD i 0
def dist (a b : List Int) : Int × Int := if isP a b then (sm (dif a b) a.length, 0) else (0, 1)
def dot (a b : List Int) : Int × Int := if isP a b then (sm (pro a b) a.length, 0) else (0, 1)

theorem sm_congr {f g : Nat → Int} : ∀ {n : Nat}, (∀ i, i < n → f i = g i) → sm f n = sm g n
  | 0, _ => rfl
  | n + 1, h => by rw [sm, sm, sm_congr (n := n) fun i hi => h i (by omega), h n (by omega)]
theorem sm_le {f : Nat → Int} {m : Int} : ∀ {n : Nat}, (∀ i, i < n → 0 ≤ f i ∧ f i ≤ m) → 0 ≤ sm f n ∧ sm f n ≤ (n : Int) * m
  | 0, _ => by simp [sm]
  | n + 1, h => by
    have h1 := sm_le (n := n) fun i hi => h i (by omega)
    have h2 := h n (by omega)
    have e : ((n + 1 : Nat) : Int) * m = (n : Int) * m + m := by rw [Int.natCast_add, Int.add_mul]; simp
    rw [sm, e]
    omega
theorem sm_abs {f : Nat → Int} {m : Int} : ∀ {n : Nat}, (∀ i, i < n → -m ≤ f i ∧ f i ≤ m) → -((n : Int) * m) ≤ sm f n ∧ sm f n ≤ (n : Int) * m
  | 0, _ => by simp [sm]
  | n + 1, h => by
    have h1 := sm_abs (n := n) fun i hi => h i (by omega)
    have h2 := h n (by omega)
    have e : ((n + 1 : Nat) : Int) * m = (n : Int) * m + m := by rw [Int.natCast_add, Int.add_mul]; simp
    rw [sm, e]
    omega
theorem sm_pos {f : Nat → Int} : ∀ {n : Nat}, (∀ i, i < n → 0 ≤ f i) → 0 ≤ sm f n
  | 0, _ => Int.le_refl _
  | n + 1, h => by
    have h1 := sm_pos (n := n) fun i hi => h i (by omega)
    have h2 := h n (by omega)
    rw [sm]
    omega
theorem sm_zero {f : Nat → Int} : ∀ {n : Nat}, (∀ i, i < n → 0 ≤ f i) → sm f n = 0 → ∀ i, i < n → f i = 0
  | 0, _, _ => fun i hi => by omega
  | n + 1, h, e => by
    have h1 := sm_pos (n := n) fun i hi => h i (by omega)
    rw [sm] at e
    have h2 := h n (by omega)
    intro i hi
    by_cases hn : i < n
    · exact sm_zero (n := n) (fun i hi => h i (by omega)) (by omega) i hn
    · obtain rfl : i = n := by omega
      omega
theorem sm_add {f g h : Nat → Int} {c d : Int} : ∀ {n : Nat}, (∀ i, i < n → h i = c * f i + d * g i) → sm h n = c * sm f n + d * sm g n
  | 0, _ => by simp [sm]
  | n + 1, e => by
    rw [sm, sm, sm, sm_add (n := n) fun i hi => e i (by omega), e n (by omega), Int.mul_add, Int.mul_add]
    omega
theorem sm_split {f : Nat → Int} {k : Nat} : ∀ {n : Nat}, sm f (k + n) = sm f k + sm (fun i => f (k + i)) n
  | 0 => by simp [sm]
  | n + 1 => by rw [← Nat.add_assoc, sm, sm_split (n := n), sm]; omega

theorem okV_yes {v : List Int} (h : okV v = true) : 1 ≤ v.length ∧ v.length ≤ 64 ∧ ∀ x ∈ v, -32767 ≤ x := by
  rw [okV, Bool.and_eq_true, decide_eq_true_eq, List.all_eq_true] at h
  exact ⟨h.1.1, h.1.2, fun x hx => of_decide_eq_true (h.2 x hx)⟩
theorem okV_mk {v : List Int} (h1 : 1 ≤ v.length) (h2 : v.length ≤ 64) (h3 : ∀ x ∈ v, -32767 ≤ x) : okV v = true := by
  rw [okV, decide_eq_true ⟨h1, h2⟩, Bool.true_and, List.all_eq_true]
  exact fun x hx => decide_eq_true (h3 x hx)
theorem okV_len {v : List Int} (h : v.length < 1 ∨ 64 < v.length) : okV v = false := by
  rw [okV, decide_eq_false (by omega), Bool.false_and]
theorem okV_low {v : List Int} {x : Int} (hx : x ∈ v) (h : x < -32767) : okV v = false := by
  rw [okV, Bool.and_eq_false_iff]
  right
  rw [List.all_eq_false]
  exact ⟨x, hx, by simpa using h⟩
theorem isP_yes {a b : List Int} (h : isP a b = true) : a.length = b.length ∧ okV a = true ∧ okV b = true := by
  rw [isP, Bool.and_eq_true, Bool.and_eq_true, decide_eq_true_eq] at h
  exact ⟨h.1.1, h.1.2, h.2⟩
theorem isP_mk {a b : List Int} (h1 : a.length = b.length) (h2 : okV a = true) (h3 : okV b = true) : isP a b = true := by
  rw [isP, decide_eq_true h1, h2, h3]
  rfl
theorem isP_comm (a b : List Int) : isP a b = isP b a := by
  rw [isP, isP, Bool.and_assoc, Bool.and_assoc, Bool.and_comm (okV a), show decide (a.length = b.length) = decide (b.length = a.length) from decide_eq_decide.2 ⟨Eq.symm, Eq.symm⟩]

/-- A number of a vector. -/
theorem at_ {v : List Int} {i : Nat} {x : Int} (h : v[i]? = some x) : v.getD i 0 = x := by rw [List.getD_eq_getElem?_getD, h]; rfl
theorem mem_at {v : List Int} {i : Nat} (hi : i < v.length) : v.getD i 0 ∈ v := by
  rw [List.getD_eq_getElem?_getD, List.getElem?_eq_getElem hi]
  exact List.getElem_mem hi
theorem dif_le {a b : List Int} (hl : a.length = b.length) (ha : ∀ x ∈ a, -32768 ≤ x ∧ x ≤ 32767) (hb : ∀ x ∈ b, -32768 ≤ x ∧ x ≤ 32767) : ∀ i, i < a.length → 0 ≤ dif a b i ∧ dif a b i ≤ 4294836225 := by
  intro i hi
  have h1 := ha _ (mem_at hi)
  have h2 := hb _ (mem_at (hl ▸ hi))
  unfold dif
  generalize a.getD i 0 = x at *
  generalize b.getD i 0 = y at *
  have h3 : -65535 ≤ x - y := by omega
  have h4 : x - y ≤ 65535 := by omega
  generalize x - y = d at *
  have e := Int.natAbs_mul_self (a := d)
  refine ⟨by rw [← e]; exact Int.natCast_nonneg _, ?_⟩
  have : d.natAbs * d.natAbs ≤ 65535 * 65535 := Nat.mul_le_mul (by omega) (by omega)
  omega
theorem pro_le {a b : List Int} (hl : a.length = b.length) (ha : ∀ x ∈ a, -32768 ≤ x ∧ x ≤ 32767) (hb : ∀ x ∈ b, -32768 ≤ x ∧ x ≤ 32767) : ∀ i, i < a.length → -1073741824 ≤ pro a b i ∧ pro a b i ≤ 1073741824 := by
  intro i hi
  have h1 := ha _ (mem_at hi)
  have h2 := hb _ (mem_at (hl ▸ hi))
  unfold pro
  generalize a.getD i 0 = x at *
  generalize b.getD i 0 = y at *
  have : x.natAbs * y.natAbs ≤ 32768 * 32768 := Nat.mul_le_mul (by omega) (by omega)
  rw [← Int.natAbs_mul] at this
  omega

/-- Two vectors that are the same at each place. -/
theorem same_at : ∀ {a b : List Int}, a.length = b.length → (∀ i, i < a.length → a.getD i 0 = b.getD i 0) → a = b
  | [], [], _, _ => rfl
  | x :: r, y :: s, hl, h => by
    have h0 := h 0 (by simp)
    simp at h0
    rw [h0, same_at (a := r) (b := s) (by simpa using hl) fun i hi => by
      have := h (i + 1) (by simpa using hi)
      simpa using this]
  | [], _ :: _, hl, _ => by simp at hl
  | _ :: _, [], hl, _ => by simp at hl

end Go.Proofs.Ytjohknpjkcbjlaa.Vc
