/- The contracts that the laws over rules stand on. -/
import Derived.Test.YtcpilhgofdnigaaRuleRefD
import Derived.Test.YtcpilhgofdnigaaRuleOpen
import Derived.Test.YtcpilhgofdnigaaRuleCheckW
import Derived.Test.YtcpilhgofdnigaaRuleLessW
import Derived.Test.YtcpilhgofdnigaaRuleNormW
