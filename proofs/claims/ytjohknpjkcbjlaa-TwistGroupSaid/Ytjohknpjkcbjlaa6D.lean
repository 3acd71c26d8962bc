/- Contracts of the reference's: Dist, Dot. -/
import Derived.Test.Ytjohknpjkcbjlaa6C
namespace Go.Proofs.Ytjohknpjkcbjlaa
open Go.RowKit Pk Vc

end Go.Proofs.Ytjohknpjkcbjlaa
