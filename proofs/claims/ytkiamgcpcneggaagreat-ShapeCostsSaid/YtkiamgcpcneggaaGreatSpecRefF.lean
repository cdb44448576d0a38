/- Used by the law. -/
import Derived.Test.YtkiamgcpcneggaaGreatPackB
import Derived.Test.YtkiamgcpcneggaaGreatRuleRef
set_option linter.all false
namespace Go.Proofs.YtkiamgcpcneggaaGreat
open Go.RowKit

def plainB (c:Int):Bool:=decide (c≠9) && decide (c≠10) && decide (c≠32)
set_option maxRecDepth 100000 in
theorem plain_all {l:List Int}:Spec.plain l=(l.all plainB && !decide (l=[95])):=rfl

end Go.Proofs.YtkiamgcpcneggaaGreat
