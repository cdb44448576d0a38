import Derived.Test.YtimjdlbhbiklgaaPackA
import Derived.Test.YtimjdlbhbiklgaaPackN
import Derived.Test.YtimjdlbhbiklgaaPackJ
import Derived.Test.YtimjdlbhbiklgaaOrderStep
/- Used by the law. -/
namespace Go.Proofs.Ytimjdlbhbiklgaa
open Go.RowKit

end Go.Proofs.Ytimjdlbhbiklgaa

/- Used by the law. -/
namespace Go.Proofs.Ytimjdlbhbiklgaa
open Go.RowKit

end Go.Proofs.Ytimjdlbhbiklgaa

/- Used by the law. -/
namespace Go.Proofs.Ytimjdlbhbiklgaa
open Go.RowKit

end Go.Proofs.Ytimjdlbhbiklgaa
