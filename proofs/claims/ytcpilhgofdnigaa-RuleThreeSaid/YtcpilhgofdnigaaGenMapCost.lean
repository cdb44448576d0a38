/- A map of costs (uint64), read key by key. Nothing of the program, for whatever key. -/
import Derived.Maps.Views
import Derived.Maps.Own
namespace Go.Proofs.Ytcpilhgofdnigaa
open Go.Maps Go.RowKit

/-- what the map holds at a key -/
def costAt {H : Type} (D : DataW H) (k : Lit) : Option Int :=
  if has D k = true then (match D.atKey k (.lit (.int .u64 0)) with | .lit (.int _ c) => some c | _ => none) else none
theorem costAt_some {H : Type} {D : DataW H} {k : Lit} {c : Int} (h : has D k = true) (ha : D.atKey k (.lit (.int .u64 0)) = .lit (.int .u64 c)) : costAt D k = some c := by
  unfold costAt; rw [if_pos h, ha]
theorem costAt_none {H : Type} {D : DataW H} {k : Lit} (h : has D k = false) : costAt D k = none := by
  unfold costAt; rw [if_neg (by rw [h]; decide)]
theorem costAt_empty {H : Type} (k : Lit) : costAt (.map [] : DataW H) k = none := costAt_none rfl
theorem costAt_put_same {H : Type} {D : DataW H} (hD : IsMap D) {k : Lit} (hk : WideAt.IsKeyLit k) (c : Int) : costAt (D.put k (.lit (.int .u64 c))) k = some c :=
  costAt_some (has_put_same hD hk _) (atKey_put_same hD hk _ _)
theorem costAt_put_other {H : Type} {D : DataW H} {k k' : Lit} (hne : k' ≠ k) (c : Int) : costAt (D.put k (.lit (.int .u64 c))) k' = costAt D k' := by
  unfold costAt; rw [has_put_other hne, atKey_put_other hne]

end Go.Proofs.Ytcpilhgofdnigaa
