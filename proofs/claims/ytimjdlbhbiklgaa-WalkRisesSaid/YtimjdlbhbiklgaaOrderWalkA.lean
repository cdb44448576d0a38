/- order's Common. It reads alone. -/
import Derived.Test.YtimjdlbhbiklgaaPackN
namespace Go.Proofs.Ytimjdlbhbiklgaa
open Go.RowKit

end Go.Proofs.Ytimjdlbhbiklgaa
