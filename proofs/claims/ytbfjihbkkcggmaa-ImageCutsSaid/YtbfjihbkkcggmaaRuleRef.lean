/- The document's Good, Check, Less of layer 6. They turn nothing that was there. -/
import Derived.Test.YtbfjihbkkcggmaaPackD
import Derived.Test.YtbfjihbkkcggmaaPackJ
namespace Go.Proofs.Ytbfjihbkkcggmaa
open Go.RowKit

set_option maxRecDepth 100000 in
theorem allGood_take {zs : List Int} {i : Nat} (h : i < zs.length) (h1 : (zs.take i).all Utf.good = true) (h2 : Utf.good (zs.getD i 0) = true) : (zs.take (i + 1)).all Utf.good = true := by
  rw [List.take_succ_eq_append_getElem h, List.all_append, h1]
  simpa [h] using h2
set_option maxRecDepth 100000 in
theorem allGood_not {zs : List Int} {i : Nat} (h : i < zs.length) (h2 : Utf.good (zs.getD i 0) = false) : zs.all Utf.good = false := by
  rw [Bool.eq_false_iff]; intro ha
  have := List.all_eq_true.1 ha (zs[i]) (List.getElem_mem h)
  simp [h] at h2
  rw [h2] at this; cases this
set_option maxRecDepth 100000 in
theorem Sl.range {w : World} {a : Option Addr} {n cap : Nat} {zs : List Int} (h : Sl .i64 w a n cap zs) (i : Nat) : -9223372036854775808 ≤ zs.getD i 0 ∧ zs.getD i 0 ≤ 9223372036854775807 := by
  rcases Nat.lt_or_ge i zs.length with hi | hi
  · have := h.2.2.2.1 (zs[i]) (List.getElem_mem hi)
    have hb := bounds_i64 this
    simp [hi]; exact hb
  · rw [List.getD_eq_getElem?_getD, List.getElem?_eq_none hi]; decide

end Go.Proofs.Ytbfjihbkkcggmaa
