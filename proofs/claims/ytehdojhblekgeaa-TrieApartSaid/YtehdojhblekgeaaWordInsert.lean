/- slices.Insert of one word into a row of words: in place where there is room, or into a new row. -/
import Derived.Shelf.Spec.SlicesInsertGrow
import Derived.Deep.AppendLies
import Derived.Test.YtehdojhblekgeaaOrderWalkB
import Derived.Test.YtehdojhblekgeaaPackB
namespace Go.Proofs.Ytehdojhblekgeaa
open Go Go.RowKit Go.Lib

set_option maxRecDepth 100000 in
theorem size_run_words (w : World) : (Go.sizeOf 35).run Try.prog w = .ok 1 w := by kernel_rfl
set_option maxRecDepth 100000 in
theorem one_cell_vals (xs : List Wd) : ∀ v ∈ vals xs, v.oneCell' = true := by
  intro v hv
  obtain ⟨x, _, rfl⟩ := List.mem_map.1 hv
  rfl

set_option maxRecDepth 100000 in
theorem cell_of_block {w : World} {g : Nat} {cur : Array Value} {t : TypeId} (h : w.heap[g]? = some (.cells cur t (0, 0))) (j : Nat) : w.cell? ⟨g, j, none⟩ = cur[j]? := by simp [World.cell?, h]

end Go.Proofs.Ytehdojhblekgeaa
