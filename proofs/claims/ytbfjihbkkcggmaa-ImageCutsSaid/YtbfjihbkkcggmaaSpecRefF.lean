/- The document's plain and Fit of layer 7. -/
import Derived.Test.YtbfjihbkkcggmaaPackA
import Derived.Test.YtbfjihbkkcggmaaRuleRef
namespace Go.Proofs.Ytbfjihbkkcggmaa
open Go.RowKit

def plainB (c : Int) : Bool := decide (c ≠ 9) && decide (c ≠ 10) && decide (c ≠ 32)
set_option maxRecDepth 100000 in
theorem plain_all {l : List Int} : Spec.plain l = (l.all plainB && !decide (l = [95])) := rfl

end Go.Proofs.Ytbfjihbkkcggmaa
