/-
  No cell of these rows narrows 'for every input' (looked for: loops, veiled, ifaces, maps, wideKeys, modest, calm, conditions, laid).
  DERIVED. THE GIVEN ROWS OF THIS SEAT. 6 by the template 'for every input the law returns true; each argument reads behind the call as it read before'; 0 by the template 'total and deterministic' (their statements: YtjohknpjkcbjlaaTotals.lean).
  GIVEN WITH THE SEED: the statements are not yours to turn. If you find one false, say at which input.
  Laid BY PROGRAM, IN A SANDBOX (cutbox-rows.mjs): the forced cells as the released guide's own fill.sh prints them over the translation b0bf87b675fca111… (all of the seat's roots in one cut). By AI agents, Wed Nov 11 2026. No macro, syntax, notation, axiom, sorry.
-/
import Derived.Test.YtjohknpjkcbjlaaChecked
import GoSem.Claim
import GoSem.ClaimJoined
import GoSem.ClaimMapViews
import Derived.JoinedTies
import Derived.KernelRfl
namespace Go.Proofs.Ytjohknpjkcbjlaa
/- THE CELL 'sum', in the pinned program and in every row, IS THE sha256 OF THE DUMP (.gsa) THAT YtjohknpjkcbjlaaProg.lean LOADS. Nothing in Lean hashes anything: it is a label: what it is worth is what the hold of that sum in a sandbox is worth. -/
noncomputable def Try.pinned : Pinned := { name := "ytjohknpjkcbjlaa", sum := "b0bf87b675fca1115cc010a32cba54985a8a71717653af5460a17a4e75b6320d", checked := Try.checked }
namespace Rows
def none {H : Type} : Left H := { results := [], args := [] }

/-- 'cuvettelaw05.TwistDoes': WHATEVER THE INPUT: true; the input reads as it did. -/
def twistDoesSpec : ChangeSpec := { name := "twistDoes", fn := fun _ => fun
  | [d1, d2, d3] => { results := [.lit (.bool true)], args := [d1, d2, d3] }
  | _ => none }
def twistDoesRow : OpenClaim := { program := "ytjohknpjkcbjlaa", sum := "b0bf87b675fca1115cc010a32cba54985a8a71717653af5460a17a4e75b6320d", func := "cuvette/cuvettelaw05.TwistDoes", spec := "twistDoes", apart := false }
def TwistDoesSaid : Prop := twistDoesRow.holds Try.pinned (OpenSpec.ofChange twistDoesSpec)

/-- ITS FALSE NEIGHBOUR: 'it returns false'. Refute it at one input. -/
def twistDoesWrong : ChangeSpec := { name := "twistDoes", fn := fun _ => fun
  | [d1, d2, d3] => { results := [.lit (.bool false)], args := [d1, d2, d3] }
  | _ => none }
def TwistDoesWrongFalsely : Prop := twistDoesRow.holds Try.pinned (OpenSpec.ofChange twistDoesWrong)

/-- 'cuvettelaw05.TwistFar': WHATEVER THE INPUT: true; the input reads as it did. -/
def twistFarSpec : ChangeSpec := { name := "twistFar", fn := fun _ => fun
  | [d1, d2, d3] => { results := [.lit (.bool true)], args := [d1, d2, d3] }
  | _ => none }
def twistFarRow : OpenClaim := { program := "ytjohknpjkcbjlaa", sum := "b0bf87b675fca1115cc010a32cba54985a8a71717653af5460a17a4e75b6320d", func := "cuvette/cuvettelaw05.TwistFar", spec := "twistFar", unfollowed := true, recurses := true, apart := false }
def TwistFarSaid : Prop := twistFarRow.holds Try.pinned (OpenSpec.ofChange twistFarSpec)

/-- ITS FALSE NEIGHBOUR: 'it returns false'. Refute it at one input. -/
def twistFarWrong : ChangeSpec := { name := "twistFar", fn := fun _ => fun
  | [d1, d2, d3] => { results := [.lit (.bool false)], args := [d1, d2, d3] }
  | _ => none }
def TwistFarWrongFalsely : Prop := twistFarRow.holds Try.pinned (OpenSpec.ofChange twistFarWrong)

/-- 'cuvettelaw05.TwistBack': WHATEVER THE INPUT: true; the input reads as it did. -/
def twistBackSpec : ChangeSpec := { name := "twistBack", fn := fun _ => fun
  | [d1, d2, d3] => { results := [.lit (.bool true)], args := [d1, d2, d3] }
  | _ => none }
def twistBackRow : OpenClaim := { program := "ytjohknpjkcbjlaa", sum := "b0bf87b675fca1115cc010a32cba54985a8a71717653af5460a17a4e75b6320d", func := "cuvette/cuvettelaw05.TwistBack", spec := "twistBack", apart := false }
def TwistBackSaid : Prop := twistBackRow.holds Try.pinned (OpenSpec.ofChange twistBackSpec)

/-- ITS FALSE NEIGHBOUR: 'it returns false'. Refute it at one input. -/
def twistBackWrong : ChangeSpec := { name := "twistBack", fn := fun _ => fun
  | [d1, d2, d3] => { results := [.lit (.bool false)], args := [d1, d2, d3] }
  | _ => none }
def TwistBackWrongFalsely : Prop := twistBackRow.holds Try.pinned (OpenSpec.ofChange twistBackWrong)

/-- 'cuvettelaw05.TwistGroup': WHATEVER THE INPUT: true; the input reads as it did. -/
def twistGroupSpec : ChangeSpec := { name := "twistGroup", fn := fun _ => fun
  | [d1, d2, d3] => { results := [.lit (.bool true)], args := [d1, d2, d3] }
  | _ => none }
def twistGroupRow : OpenClaim := { program := "ytjohknpjkcbjlaa", sum := "b0bf87b675fca1115cc010a32cba54985a8a71717653af5460a17a4e75b6320d", func := "cuvette/cuvettelaw05.TwistGroup", spec := "twistGroup", apart := false }
def TwistGroupSaid : Prop := twistGroupRow.holds Try.pinned (OpenSpec.ofChange twistGroupSpec)

/-- ITS FALSE NEIGHBOUR: 'it returns false'. Refute it at one input. -/
def twistGroupWrong : ChangeSpec := { name := "twistGroup", fn := fun _ => fun
  | [d1, d2, d3] => { results := [.lit (.bool false)], args := [d1, d2, d3] }
  | _ => none }
def TwistGroupWrongFalsely : Prop := twistGroupRow.holds Try.pinned (OpenSpec.ofChange twistGroupWrong)

/-- 'cuvettelaw05.TwistParts': WHATEVER THE INPUT: true; the input reads as it did. -/
def twistPartsSpec : ChangeSpec := { name := "twistParts", fn := fun _ => fun
  | [d1, d2, d3] => { results := [.lit (.bool true)], args := [d1, d2, d3] }
  | _ => none }
def twistPartsRow : OpenClaim := { program := "ytjohknpjkcbjlaa", sum := "b0bf87b675fca1115cc010a32cba54985a8a71717653af5460a17a4e75b6320d", func := "cuvette/cuvettelaw05.TwistParts", spec := "twistParts", apart := false }
def TwistPartsSaid : Prop := twistPartsRow.holds Try.pinned (OpenSpec.ofChange twistPartsSpec)

/-- ITS FALSE NEIGHBOUR: 'it returns false'. Refute it at one input. -/
def twistPartsWrong : ChangeSpec := { name := "twistParts", fn := fun _ => fun
  | [d1, d2, d3] => { results := [.lit (.bool false)], args := [d1, d2, d3] }
  | _ => none }
def TwistPartsWrongFalsely : Prop := twistPartsRow.holds Try.pinned (OpenSpec.ofChange twistPartsWrong)

/-- 'cuvettelaw05.TwistPlain': WHATEVER THE INPUT: true; the input reads as it did. -/
def twistPlainSpec : ChangeSpec := { name := "twistPlain", fn := fun _ => fun
  | [d] => { results := [.lit (.bool true)], args := [d] }
  | _ => none }
def twistPlainRow : OpenClaim := { program := "ytjohknpjkcbjlaa", sum := "b0bf87b675fca1115cc010a32cba54985a8a71717653af5460a17a4e75b6320d", func := "cuvette/cuvettelaw05.TwistPlain", spec := "twistPlain", apart := false }
def TwistPlainSaid : Prop := twistPlainRow.holds Try.pinned (OpenSpec.ofChange twistPlainSpec)

/-- ITS FALSE NEIGHBOUR: 'it returns false'. Refute it at one input. -/
def twistPlainWrong : ChangeSpec := { name := "twistPlain", fn := fun _ => fun
  | [d] => { results := [.lit (.bool false)], args := [d] }
  | _ => none }
def TwistPlainWrongFalsely : Prop := twistPlainRow.holds Try.pinned (OpenSpec.ofChange twistPlainWrong)

/- THE SECOND FORM. 'bulk': how many values and letters a reading holds, each counted each time it is reached (what is shared counts as often as it is met; a slice's spare places count too). A statement '..UptoSaid' is the law's where the arguments, and the package variables that the reading takes, are together of bulk at most 1048576: NARROWER than '..Said'. Prove '..Said' where nothing that the law and all that it calls make is longer than what came in: it says more and counts as full. Else prove '..UptoSaid'. A law counts once. -/
mutual
def uptoBulk {H : Type} : DataW H → Nat
  | .lit (.string bytes) => bytes.length + 1
  | .lit _ => 1
  | .nil => 1
  | .ptr d => uptoBulk d + 1
  | .slice elems spare => uptoBulkAll elems + uptoBulkAll spare + 1
  | .agg parts => uptoBulkAll parts + 1
  | .iface _ d => uptoBulk d + 1
  | .map entries => uptoBulkEntries entries + 1
  | .held _ => 1
def uptoBulkAll {H : Type} : List (DataW H) → Nat
  | [] => 0
  | d :: r => uptoBulk d + uptoBulkAll r
def uptoBulkEntries {H : Type} : List (Lit × DataW H) → Nat
  | [] => 0
  | x :: r => uptoBulkEntry x + uptoBulkEntries r
def uptoBulkEntry {H : Type} : Lit × DataW H → Nat
  | (.string bytes, d) => bytes.length + uptoBulk d + 1
  | (_, d) => uptoBulk d + 1
 end
def uptoSmall : (H : Type) → List (DataW H) → Bool := fun _ ds => decide (uptoBulkAll ds ≤ 1048576)
def OpenSpec.upto (s : _root_.Go.ChangeSpec) : _root_.Go.OpenSpec := { _root_.Go.OpenSpec.ofChange s with cond := some uptoSmall }

/-- 'cuvettelaw05.TwistDoes', WHERE WHAT IT READS IS OF BULK AT MOST 1048576: true; the input reads as it did. -/
def twistDoesUptoRow : OpenClaim := { program := "ytjohknpjkcbjlaa", sum := "b0bf87b675fca1115cc010a32cba54985a8a71717653af5460a17a4e75b6320d", func := "cuvette/cuvettelaw05.TwistDoes", spec := "twistDoes", apart := false, narrowed := true }
def TwistDoesUptoSaid : Prop := twistDoesUptoRow.holds Try.pinned (OpenSpec.upto twistDoesSpec)

/-- 'cuvettelaw05.TwistFar', WHERE WHAT IT READS IS OF BULK AT MOST 1048576: true; the input reads as it did. -/
def twistFarUptoRow : OpenClaim := { program := "ytjohknpjkcbjlaa", sum := "b0bf87b675fca1115cc010a32cba54985a8a71717653af5460a17a4e75b6320d", func := "cuvette/cuvettelaw05.TwistFar", spec := "twistFar", unfollowed := true, recurses := true, apart := false, narrowed := true }
def TwistFarUptoSaid : Prop := twistFarUptoRow.holds Try.pinned (OpenSpec.upto twistFarSpec)

/-- 'cuvettelaw05.TwistBack', WHERE WHAT IT READS IS OF BULK AT MOST 1048576: true; the input reads as it did. -/
def twistBackUptoRow : OpenClaim := { program := "ytjohknpjkcbjlaa", sum := "b0bf87b675fca1115cc010a32cba54985a8a71717653af5460a17a4e75b6320d", func := "cuvette/cuvettelaw05.TwistBack", spec := "twistBack", apart := false, narrowed := true }
def TwistBackUptoSaid : Prop := twistBackUptoRow.holds Try.pinned (OpenSpec.upto twistBackSpec)

/-- 'cuvettelaw05.TwistGroup', WHERE WHAT IT READS IS OF BULK AT MOST 1048576: true; the input reads as it did. -/
def twistGroupUptoRow : OpenClaim := { program := "ytjohknpjkcbjlaa", sum := "b0bf87b675fca1115cc010a32cba54985a8a71717653af5460a17a4e75b6320d", func := "cuvette/cuvettelaw05.TwistGroup", spec := "twistGroup", apart := false, narrowed := true }
def TwistGroupUptoSaid : Prop := twistGroupUptoRow.holds Try.pinned (OpenSpec.upto twistGroupSpec)

/-- 'cuvettelaw05.TwistParts', WHERE WHAT IT READS IS OF BULK AT MOST 1048576: true; the input reads as it did. -/
def twistPartsUptoRow : OpenClaim := { program := "ytjohknpjkcbjlaa", sum := "b0bf87b675fca1115cc010a32cba54985a8a71717653af5460a17a4e75b6320d", func := "cuvette/cuvettelaw05.TwistParts", spec := "twistParts", apart := false, narrowed := true }
def TwistPartsUptoSaid : Prop := twistPartsUptoRow.holds Try.pinned (OpenSpec.upto twistPartsSpec)

/-- 'cuvettelaw05.TwistPlain', WHERE WHAT IT READS IS OF BULK AT MOST 1048576: true; the input reads as it did. -/
def twistPlainUptoRow : OpenClaim := { program := "ytjohknpjkcbjlaa", sum := "b0bf87b675fca1115cc010a32cba54985a8a71717653af5460a17a4e75b6320d", func := "cuvette/cuvettelaw05.TwistPlain", spec := "twistPlain", apart := false, narrowed := true }
def TwistPlainUptoSaid : Prop := twistPlainUptoRow.holds Try.pinned (OpenSpec.upto twistPlainSpec)

end Rows
end Go.Proofs.Ytjohknpjkcbjlaa
