import Derived.Test.YtkiamgcpcneggaaGreatPackJ
set_option linter.all false
set_option maxRecDepth 100000
set_option maxHeartbeats 12800000
namespace Go.Proofs.YtkiamgcpcneggaaGreat
section
open Go.RowKit

def arv (w w':World) (e:Ending) (l:LLI):Prop :=
 ∃a' m c' ys,e=.returned (.slice a' m c')/\Bs w' a' m c' ys/\VT ys=l/\(a'=none->c'=0)/\Below w.heap.size w w'

end
section
open Go.RowKit

end
section
open Go.RowKit

end
section
open Go.RowKit

end
end Go.Proofs.YtkiamgcpcneggaaGreat
