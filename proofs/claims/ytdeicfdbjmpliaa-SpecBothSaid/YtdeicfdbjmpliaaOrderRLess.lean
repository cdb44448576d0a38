/- The document's Common and Less of layer 3. They read alone. For whatever layer. -/
import Derived.Test.YtdeicfdbjmpliaaPackA
import Derived.Test.YtdeicfdbjmpliaaOrderSame
namespace Go.Proofs.Ytdeicfdbjmpliaa
open Go.RowKit

end Go.Proofs.Ytdeicfdbjmpliaa
