/- What the program's Check, Make and Step of layer 10 answer. -/
import Derived.Test.YtehdojhblekgeaaTrieStep
import Derived.Test.YtehdojhblekgeaaTrieCheck
import Derived.Test.YtehdojhblekgeaaTrieMake

#print axioms Go.Proofs.Ytehdojhblekgeaa.tmake_is
