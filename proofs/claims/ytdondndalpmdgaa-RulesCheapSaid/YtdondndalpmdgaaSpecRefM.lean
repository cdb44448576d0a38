/- The document's maps of layer 7: rules of a class. -/
import Derived.Test.YtdondndalpmdgaaPackA
import Derived.Test.YtdondndalpmdgaaRuleSteps
import Derived.Test.YtdondndalpmdgaaPackP
import Derived.Test.YtdondndalpmdgaaGenStr
namespace Go.Proofs.Ytdondndalpmdgaa
open Go.RowKit

/-- rules and whether they may be, as a call answers them -/
def RulesOk (w w' : World) (e : Ending) (rs : List Rul) (ok : Bool) : Prop :=
  ∃ a' m c' ys, e = .returned (.tuple #[.slice a' m c', .bool ok]) ∧ Rs w' a' m c' ys ∧ ruls ys = rs ∧ (a' = none → c' = 0) ∧ Below w.heap.size w w'

set_option maxRecDepth 100000 in
theorem mapsA_snoc (c a : Int) (l : List Int) (b : Int) : Spec.mapsA c a (l ++ [b]) = Spec.mapsA c a l ++ if a ≠ b then [⟨[a], [b], c⟩] else [] := by
  simp [Spec.mapsA, List.flatMap_append]
set_option maxRecDepth 100000 in
theorem take_snoc {l : List Int} {k : Nat} (h : k < l.length) : l.take (k + 1) = l.take k ++ [l.getD k 0] := by
  rw [List.take_succ_eq_append_getElem h]; simp [h]

end Go.Proofs.Ytdondndalpmdgaa
