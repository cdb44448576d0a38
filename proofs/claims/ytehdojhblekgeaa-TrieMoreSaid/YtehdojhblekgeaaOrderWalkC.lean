/- order.Find: where a word stands among words that rise, by sort.Search (the library's contract for it), and whether it is there. -/
import Derived.Test.YtehdojhblekgeaaOrderWalkB
import Derived.Test.YtehdojhblekgeaaOrderShelf
namespace Go.Proofs.Ytehdojhblekgeaa
open Go.RowKit Go.Sort

set_option maxRecDepth 100000 in
theorem cnt_range (l : List (List Int)) (z : List Int) (n : Nat) (h : l.length = n) : (List.range n).countP (fun i => !!lessL (l.getD i []) z) = cnt l z := by
  subst h
  have e : l = (List.range l.length).map (fun i => l.getD i []) := by
    apply List.ext_getElem
    · simp
    · intro i h1 h2
      simp [h1]
  unfold cnt
  conv => rhs; rw [e]
  rw [List.countP_map]
  congr 1
  funext i
  simp

end Go.Proofs.Ytehdojhblekgeaa
