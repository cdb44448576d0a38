/- Same: are two lists of numbers one? It reads alone. -/
import Derived.Test.YtflikfnehpaohaaOrderSame
import Derived.Test.YtflikfnehpaohaaUtfWalkH
namespace Go.Proofs.Ytflikfnehpaohaa
open Go.RowKit


end Go.Proofs.Ytflikfnehpaohaa
