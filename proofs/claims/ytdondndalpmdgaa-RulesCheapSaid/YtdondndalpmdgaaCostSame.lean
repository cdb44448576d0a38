/- The document's Same of two lists of costs. It reads alone. -/
import Derived.Test.YtdondndalpmdgaaPackP
namespace Go.Proofs.Ytdondndalpmdgaa
open Go.RowKit

end Go.Proofs.Ytdondndalpmdgaa
