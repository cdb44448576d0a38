/- The document's Beginnings and Is of layer 10. -/
import Derived.Test.YtimjdlbhbiklgaaTrieRefB
import Derived.Test.YtimjdlbhbiklgaaPackA
import Derived.Test.YtimjdlbhbiklgaaPackJ
import Derived.Test.YtimjdlbhbiklgaaPackO
namespace Go.Proofs.Ytimjdlbhbiklgaa
open Go.RowKit Tri

/-- words that a call answers -/
def BegsIs (w w' : World) (e : Ending) (l : List (List Int)) : Prop :=
  ∃ a n c ys, e = .returned (.slice a n c) ∧ Ws w' a n c ys ∧ nums ys = l ∧ (a = none → c = 0) ∧ Below w.heap.size w w'
set_option maxRecDepth 100000 in
theorem owns_nil_word (w : World) : (w.alloc (.cells #[.slice none 0 0] 23)).ownsRow w.heap.size 23 1 (.slice (some ⟨w.heap.size, 0, none⟩) 1 1) 1 (vals [Wd.no]) :=
  World.ownsRow_lit (base := w.heap.size) (e := 23) (size := 1) w #[.slice none 0 0] 1 (Nat.le_refl _) (by unfold maxLen; omega) (by simp)
set_option maxRecDepth 100000 in
theorem level_len (ws : List (List Int)) (i n : Nat) : (level (ws.take i) n).length ≤ i := by
  refine Nat.le_trans (level_le _ _) ?_
  rw [List.length_take]; omega

end Go.Proofs.Ytimjdlbhbiklgaa
