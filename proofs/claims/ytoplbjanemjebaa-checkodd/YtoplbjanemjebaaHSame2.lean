/- The contract of hist.Same. -/
import Derived.Test.YtoplbjanemjebaaHSame
namespace Go.Proofs.Ytoplbjanemjebaa
open Go.RowKit Go.Shelf Go.Proofs.Rw Go.Proofs.Lh Go.Proofs.Rn

/-- Whether two histograms are the same. -/
def sameB (ka ga kb gb : Int) (la lb : Lv) : Bool := decide (ka = kb ∧ ga = gb ∧ la = lb)

end Go.Proofs.Ytoplbjanemjebaa
