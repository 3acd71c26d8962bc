/- Arguments opened: a list of whole numbers. -/
import Derived.Test.Ytjohknpjkcbjlaa4N
namespace Go.Proofs.Ytjohknpjkcbjlaa
open Go.RowKit Go.ChangeShapes Go.WideShapes Go.Deep

theorem Try.cellsI : Try.prog.cellsOf 2 = 1 := by kernel_rfl

section
variable {H : Type} {enc : TypeId × Value → H} {W : World} {base : Nat} {spare : Nat → Bool} {held : Bool}

end

end Go.Proofs.Ytjohknpjkcbjlaa
