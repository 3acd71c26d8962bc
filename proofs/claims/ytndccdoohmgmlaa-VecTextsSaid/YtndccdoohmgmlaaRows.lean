/-
  No cell of these rows narrows 'for every input' (looked for: loops, veiled, ifaces, maps, wideKeys, modest, calm, conditions, laid).
  DERIVED. THE GIVEN ROWS OF THIS SEAT. 7 by the template 'for every input the law returns true; each argument reads behind the call as it read before'; 0 by the template 'total and deterministic' (their statements: YtndccdoohmgmlaaTotals.lean).
  GIVEN WITH THE SEED: the statements are not yours to turn. If you find one false, say at which input.
  Laid BY PROGRAM, IN A SANDBOX (cutbox-rows.mjs): the forced cells as the released guide's own fill.sh prints them over the translation 7b4debbe39788591… (all of the seat's roots in one cut). By AI agents, Wed Nov 11 2026. No macro, syntax, notation, axiom, sorry.
-/
import Derived.Test.YtndccdoohmgmlaaChecked
import GoSem.Claim
import GoSem.ClaimJoined
import GoSem.ClaimMapViews
import Derived.JoinedTies
import Derived.KernelRfl
namespace Go.Proofs.Ytndccdoohmgmlaa
/- THE CELL 'sum', in the pinned program and in every row, IS THE sha256 OF THE DUMP (.gsa) THAT YtndccdoohmgmlaaProg.lean LOADS. Nothing in Lean hashes anything: it is a label: what it is worth is what the hold of that sum in a sandbox is worth. -/
noncomputable def Try.pinned : Pinned := { name := "ytndccdoohmgmlaa", sum := "7b4debbe397885915a4f805138a62eec189c049abbb0ebd7ce0cc310d3ca309d", checked := Try.checked }
namespace Rows
def none {H : Type} : Left H := { results := [], args := [] }

/-- 'cuvettelaw04.VecDoes': WHATEVER THE INPUT: true; the input reads as it did. -/
def vecDoesSpec : ChangeSpec := { name := "vecDoes", fn := fun _ => fun
  | [d1, d2] => { results := [.lit (.bool true)], args := [d1, d2] }
  | _ => none }
def vecDoesRow : OpenClaim := { program := "ytndccdoohmgmlaa", sum := "7b4debbe397885915a4f805138a62eec189c049abbb0ebd7ce0cc310d3ca309d", func := "cuvette/cuvettelaw04.VecDoes", spec := "vecDoes", unfollowed := true, recurses := true, apart := false }
def VecDoesSaid : Prop := vecDoesRow.holds Try.pinned (OpenSpec.ofChange vecDoesSpec)

/-- ITS FALSE NEIGHBOUR: 'it returns false'. Refute it at one input. -/
def vecDoesWrong : ChangeSpec := { name := "vecDoes", fn := fun _ => fun
  | [d1, d2] => { results := [.lit (.bool false)], args := [d1, d2] }
  | _ => none }
def VecDoesWrongFalsely : Prop := vecDoesRow.holds Try.pinned (OpenSpec.ofChange vecDoesWrong)

/-- 'cuvettelaw04.VecTexts': WHATEVER THE INPUT: true; the input reads as it did. -/
def vecTextsSpec : ChangeSpec := { name := "vecTexts", fn := fun _ => fun
  | [d1, d2] => { results := [.lit (.bool true)], args := [d1, d2] }
  | _ => none }
def vecTextsRow : OpenClaim := { program := "ytndccdoohmgmlaa", sum := "7b4debbe397885915a4f805138a62eec189c049abbb0ebd7ce0cc310d3ca309d", func := "cuvette/cuvettelaw04.VecTexts", spec := "vecTexts", unfollowed := true, recurses := true, apart := false }
def VecTextsSaid : Prop := vecTextsRow.holds Try.pinned (OpenSpec.ofChange vecTextsSpec)

/-- ITS FALSE NEIGHBOUR: 'it returns false'. Refute it at one input. -/
def vecTextsWrong : ChangeSpec := { name := "vecTexts", fn := fun _ => fun
  | [d1, d2] => { results := [.lit (.bool false)], args := [d1, d2] }
  | _ => none }
def VecTextsWrongFalsely : Prop := vecTextsRow.holds Try.pinned (OpenSpec.ofChange vecTextsWrong)

/-- 'cuvettelaw04.VecFar': WHATEVER THE INPUT: true; the input reads as it did. -/
def vecFarSpec : ChangeSpec := { name := "vecFar", fn := fun _ => fun
  | [d1, d2] => { results := [.lit (.bool true)], args := [d1, d2] }
  | _ => none }
def vecFarRow : OpenClaim := { program := "ytndccdoohmgmlaa", sum := "7b4debbe397885915a4f805138a62eec189c049abbb0ebd7ce0cc310d3ca309d", func := "cuvette/cuvettelaw04.VecFar", spec := "vecFar", unfollowed := true, recurses := true, apart := false }
def VecFarSaid : Prop := vecFarRow.holds Try.pinned (OpenSpec.ofChange vecFarSpec)

/-- ITS FALSE NEIGHBOUR: 'it returns false'. Refute it at one input. -/
def vecFarWrong : ChangeSpec := { name := "vecFar", fn := fun _ => fun
  | [d1, d2] => { results := [.lit (.bool false)], args := [d1, d2] }
  | _ => none }
def VecFarWrongFalsely : Prop := vecFarRow.holds Try.pinned (OpenSpec.ofChange vecFarWrong)

/-- 'cuvettelaw04.VecBack': WHATEVER THE INPUT: true; the input reads as it did. -/
def vecBackSpec : ChangeSpec := { name := "vecBack", fn := fun _ => fun
  | [d1, d2] => { results := [.lit (.bool true)], args := [d1, d2] }
  | _ => none }
def vecBackRow : OpenClaim := { program := "ytndccdoohmgmlaa", sum := "7b4debbe397885915a4f805138a62eec189c049abbb0ebd7ce0cc310d3ca309d", func := "cuvette/cuvettelaw04.VecBack", spec := "vecBack", unfollowed := true, recurses := true, apart := false }
def VecBackSaid : Prop := vecBackRow.holds Try.pinned (OpenSpec.ofChange vecBackSpec)

/-- ITS FALSE NEIGHBOUR: 'it returns false'. Refute it at one input. -/
def vecBackWrong : ChangeSpec := { name := "vecBack", fn := fun _ => fun
  | [d1, d2] => { results := [.lit (.bool false)], args := [d1, d2] }
  | _ => none }
def VecBackWrongFalsely : Prop := vecBackRow.holds Try.pinned (OpenSpec.ofChange vecBackWrong)

/-- 'cuvettelaw04.VecMiddle': WHATEVER THE INPUT: true; the input reads as it did. -/
def vecMiddleSpec : ChangeSpec := { name := "vecMiddle", fn := fun _ => fun
  | [d1, d2, d3] => { results := [.lit (.bool true)], args := [d1, d2, d3] }
  | _ => none }
def vecMiddleRow : OpenClaim := { program := "ytndccdoohmgmlaa", sum := "7b4debbe397885915a4f805138a62eec189c049abbb0ebd7ce0cc310d3ca309d", func := "cuvette/cuvettelaw04.VecMiddle", spec := "vecMiddle", unfollowed := true, recurses := true, apart := false }
def VecMiddleSaid : Prop := vecMiddleRow.holds Try.pinned (OpenSpec.ofChange vecMiddleSpec)

/-- ITS FALSE NEIGHBOUR: 'it returns false'. Refute it at one input. -/
def vecMiddleWrong : ChangeSpec := { name := "vecMiddle", fn := fun _ => fun
  | [d1, d2, d3] => { results := [.lit (.bool false)], args := [d1, d2, d3] }
  | _ => none }
def VecMiddleWrongFalsely : Prop := vecMiddleRow.holds Try.pinned (OpenSpec.ofChange vecMiddleWrong)

/-- 'cuvettelaw04.VecShift': WHATEVER THE INPUT: true; the input reads as it did. -/
def vecShiftSpec : ChangeSpec := { name := "vecShift", fn := fun _ => fun
  | [d1, d2, d3] => { results := [.lit (.bool true)], args := [d1, d2, d3] }
  | _ => none }
def vecShiftRow : OpenClaim := { program := "ytndccdoohmgmlaa", sum := "7b4debbe397885915a4f805138a62eec189c049abbb0ebd7ce0cc310d3ca309d", func := "cuvette/cuvettelaw04.VecShift", spec := "vecShift", unfollowed := true, recurses := true, apart := false }
def VecShiftSaid : Prop := vecShiftRow.holds Try.pinned (OpenSpec.ofChange vecShiftSpec)

/-- ITS FALSE NEIGHBOUR: 'it returns false'. Refute it at one input. -/
def vecShiftWrong : ChangeSpec := { name := "vecShift", fn := fun _ => fun
  | [d1, d2, d3] => { results := [.lit (.bool false)], args := [d1, d2, d3] }
  | _ => none }
def VecShiftWrongFalsely : Prop := vecShiftRow.holds Try.pinned (OpenSpec.ofChange vecShiftWrong)

/-- 'cuvettelaw04.VecParts': WHATEVER THE INPUT: true; the input reads as it did. -/
def vecPartsSpec : ChangeSpec := { name := "vecParts", fn := fun _ => fun
  | [d1, d2, d3] => { results := [.lit (.bool true)], args := [d1, d2, d3] }
  | _ => none }
def vecPartsRow : OpenClaim := { program := "ytndccdoohmgmlaa", sum := "7b4debbe397885915a4f805138a62eec189c049abbb0ebd7ce0cc310d3ca309d", func := "cuvette/cuvettelaw04.VecParts", spec := "vecParts", unfollowed := true, recurses := true, apart := false }
def VecPartsSaid : Prop := vecPartsRow.holds Try.pinned (OpenSpec.ofChange vecPartsSpec)

/-- ITS FALSE NEIGHBOUR: 'it returns false'. Refute it at one input. -/
def vecPartsWrong : ChangeSpec := { name := "vecParts", fn := fun _ => fun
  | [d1, d2, d3] => { results := [.lit (.bool false)], args := [d1, d2, d3] }
  | _ => none }
def VecPartsWrongFalsely : Prop := vecPartsRow.holds Try.pinned (OpenSpec.ofChange vecPartsWrong)

/- THE SECOND FORM. 'bulk': how many values and letters a reading holds, each counted each time it is reached (what is shared counts as often as it is met; a slice's spare places count too). A statement '..UptoSaid' is the law's where the arguments, and the package variables that the reading takes, are together of bulk at most 1048576: NARROWER than '..Said'. Prove '..Said' where nothing that the law and all that it calls make is longer than what came in: it says more and counts as full. Else prove '..UptoSaid'. A law counts once. -/
mutual
def uptoBulk {H : Type} : DataW H → Nat
  | .lit (.string bytes) => bytes.length + 1
  | .lit _ => 1
  | .nil => 1
  | .ptr d => uptoBulk d + 1
  | .slice elems spare => uptoBulkAll elems + uptoBulkAll spare + 1
  | .agg parts => uptoBulkAll parts + 1
  | .iface _ d => uptoBulk d + 1
  | .map entries => uptoBulkEntries entries + 1
  | .held _ => 1
def uptoBulkAll {H : Type} : List (DataW H) → Nat
  | [] => 0
  | d :: r => uptoBulk d + uptoBulkAll r
def uptoBulkEntries {H : Type} : List (Lit × DataW H) → Nat
  | [] => 0
  | x :: r => uptoBulkEntry x + uptoBulkEntries r
def uptoBulkEntry {H : Type} : Lit × DataW H → Nat
  | (.string bytes, d) => bytes.length + uptoBulk d + 1
  | (_, d) => uptoBulk d + 1
 end
def uptoSmall : (H : Type) → List (DataW H) → Bool := fun _ ds => decide (uptoBulkAll ds ≤ 1048576)
def OpenSpec.upto (s : _root_.Go.ChangeSpec) : _root_.Go.OpenSpec := { _root_.Go.OpenSpec.ofChange s with cond := some uptoSmall }

/-- 'cuvettelaw04.VecDoes', WHERE WHAT IT READS IS OF BULK AT MOST 1048576: true; the input reads as it did. -/
def vecDoesUptoRow : OpenClaim := { program := "ytndccdoohmgmlaa", sum := "7b4debbe397885915a4f805138a62eec189c049abbb0ebd7ce0cc310d3ca309d", func := "cuvette/cuvettelaw04.VecDoes", spec := "vecDoes", unfollowed := true, recurses := true, apart := false, narrowed := true }
def VecDoesUptoSaid : Prop := vecDoesUptoRow.holds Try.pinned (OpenSpec.upto vecDoesSpec)

/-- 'cuvettelaw04.VecTexts', WHERE WHAT IT READS IS OF BULK AT MOST 1048576: true; the input reads as it did. -/
def vecTextsUptoRow : OpenClaim := { program := "ytndccdoohmgmlaa", sum := "7b4debbe397885915a4f805138a62eec189c049abbb0ebd7ce0cc310d3ca309d", func := "cuvette/cuvettelaw04.VecTexts", spec := "vecTexts", unfollowed := true, recurses := true, apart := false, narrowed := true }
def VecTextsUptoSaid : Prop := vecTextsUptoRow.holds Try.pinned (OpenSpec.upto vecTextsSpec)

/-- 'cuvettelaw04.VecFar', WHERE WHAT IT READS IS OF BULK AT MOST 1048576: true; the input reads as it did. -/
def vecFarUptoRow : OpenClaim := { program := "ytndccdoohmgmlaa", sum := "7b4debbe397885915a4f805138a62eec189c049abbb0ebd7ce0cc310d3ca309d", func := "cuvette/cuvettelaw04.VecFar", spec := "vecFar", unfollowed := true, recurses := true, apart := false, narrowed := true }
def VecFarUptoSaid : Prop := vecFarUptoRow.holds Try.pinned (OpenSpec.upto vecFarSpec)

/-- 'cuvettelaw04.VecBack', WHERE WHAT IT READS IS OF BULK AT MOST 1048576: true; the input reads as it did. -/
def vecBackUptoRow : OpenClaim := { program := "ytndccdoohmgmlaa", sum := "7b4debbe397885915a4f805138a62eec189c049abbb0ebd7ce0cc310d3ca309d", func := "cuvette/cuvettelaw04.VecBack", spec := "vecBack", unfollowed := true, recurses := true, apart := false, narrowed := true }
def VecBackUptoSaid : Prop := vecBackUptoRow.holds Try.pinned (OpenSpec.upto vecBackSpec)

/-- 'cuvettelaw04.VecMiddle', WHERE WHAT IT READS IS OF BULK AT MOST 1048576: true; the input reads as it did. -/
def vecMiddleUptoRow : OpenClaim := { program := "ytndccdoohmgmlaa", sum := "7b4debbe397885915a4f805138a62eec189c049abbb0ebd7ce0cc310d3ca309d", func := "cuvette/cuvettelaw04.VecMiddle", spec := "vecMiddle", unfollowed := true, recurses := true, apart := false, narrowed := true }
def VecMiddleUptoSaid : Prop := vecMiddleUptoRow.holds Try.pinned (OpenSpec.upto vecMiddleSpec)

/-- 'cuvettelaw04.VecShift', WHERE WHAT IT READS IS OF BULK AT MOST 1048576: true; the input reads as it did. -/
def vecShiftUptoRow : OpenClaim := { program := "ytndccdoohmgmlaa", sum := "7b4debbe397885915a4f805138a62eec189c049abbb0ebd7ce0cc310d3ca309d", func := "cuvette/cuvettelaw04.VecShift", spec := "vecShift", unfollowed := true, recurses := true, apart := false, narrowed := true }
def VecShiftUptoSaid : Prop := vecShiftUptoRow.holds Try.pinned (OpenSpec.upto vecShiftSpec)

/-- 'cuvettelaw04.VecParts', WHERE WHAT IT READS IS OF BULK AT MOST 1048576: true; the input reads as it did. -/
def vecPartsUptoRow : OpenClaim := { program := "ytndccdoohmgmlaa", sum := "7b4debbe397885915a4f805138a62eec189c049abbb0ebd7ce0cc310d3ca309d", func := "cuvette/cuvettelaw04.VecParts", spec := "vecParts", unfollowed := true, recurses := true, apart := false, narrowed := true }
def VecPartsUptoSaid : Prop := vecPartsUptoRow.holds Try.pinned (OpenSpec.upto vecPartsSpec)

end Rows
end Go.Proofs.Ytndccdoohmgmlaa
