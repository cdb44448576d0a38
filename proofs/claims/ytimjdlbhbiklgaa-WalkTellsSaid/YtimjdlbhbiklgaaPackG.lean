import Derived.Test.YtimjdlbhbiklgaaPackI
import Derived.Test.YtimjdlbhbiklgaaPackO
import Derived.Test.YtimjdlbhbiklgaaPackF
/- Used by the law. -/
namespace Go.Proofs.Ytimjdlbhbiklgaa
open Go.RowKit

/-! ### Fit -/
end Go.Proofs.Ytimjdlbhbiklgaa

/- Used by the law. -/
namespace Go.Proofs.Ytimjdlbhbiklgaa
open Go.RowKit

end Go.Proofs.Ytimjdlbhbiklgaa
