import Derived.Test.YtimjdlbhbiklgaaPackI
import Derived.Test.YtimjdlbhbiklgaaOrderRefB
import Derived.Test.YtimjdlbhbiklgaaPackF
/- The document's Fit, Write and Read of layer 9. Written by wip/gen/word_ref.py. -/
namespace Go.Proofs.Ytimjdlbhbiklgaa
open Go.RowKit

/-! ### Fit -/
end Go.Proofs.Ytimjdlbhbiklgaa

/- The document's Write and Read of layer 9. Written by wip/gen/word_refw.py. -/
namespace Go.Proofs.Ytimjdlbhbiklgaa
open Go.RowKit

end Go.Proofs.Ytimjdlbhbiklgaa
