/- A block that reads as numbers; a splice over a whole row. Nothing of the program. -/
import Derived.Laws.CopyOwn
import Derived.Test.YthblpmejkjdkcaaUtfSl
namespace Go.Proofs.Ythblpmejkjdkcaa
open Go.RowKit

set_option maxRecDepth 100000 in
theorem splice_all {α : Type} (L cs : List α) (h : L.length = cs.length) : splice L 0 cs = cs := by
  simp [splice, List.drop_eq_nil_of_le (show L.length ≤ cs.length by omega)]
set_option maxRecDepth 100000 in
theorem Sl.of_heap {k : IntKind} {w : World} {g n : Nat} {t : TypeId} {fr : Nat × Nat} {zs : List Int} (h : w.heap[g]? = some (.cells (zs.map (.int k)).toArray t fr)) (hw : ∀ z ∈ zs, (Lit.int k z).wf = true) (hl : zs.length = n) (hm : n ≤ maxLen) :
    Sl k w (some ⟨g, 0, none⟩) n n zs := by
  refine ⟨hl, Nat.le_refl _, hm, hw, .inr ⟨g, 0, rfl, fun i hi => ?_⟩⟩
  rw [World.cell?, h]
  simp [hl, hi]

end Go.Proofs.Ythblpmejkjdkcaa
