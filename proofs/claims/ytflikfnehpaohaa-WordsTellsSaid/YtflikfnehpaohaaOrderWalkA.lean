/- order's Common. It reads alone. -/
import Derived.Test.YtflikfnehpaohaaOrderLess
namespace Go.Proofs.Ytflikfnehpaohaa
open Go.RowKit

end Go.Proofs.Ytflikfnehpaohaa
