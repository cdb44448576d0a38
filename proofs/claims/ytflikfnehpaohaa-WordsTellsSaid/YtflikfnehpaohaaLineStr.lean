/- Byte rows as strings: what a conversion gives, and when two strings are one. -/
import Derived.Test.YtflikfnehpaohaaGenStr
import Derived.Test.YtflikfnehpaohaaLineRef
import Derived.ShutString
import Derived.Laws.BytesArg
namespace Go.Proofs.Ytflikfnehpaohaa
open Go.RowKit

set_option maxRecDepth 100000 in
theorem bnums_take_same {xs ys : List Bd} {j : Nat} (h : (bnums xs).take j = (bnums ys).take j) (hx : j < xs.length) (hy : j < ys.length) (e : (bnums xs).getD j [] = (bnums ys).getD j []) :
    (bnums xs).take (j + 1) = (bnums ys).take (j + 1) := by
  have hx' : j < (bnums xs).length := by rw [bnums_length]; exact hx
  have hy' : j < (bnums ys).length := by rw [bnums_length]; exact hy
  rw [List.take_succ_eq_append_getElem hx', List.take_succ_eq_append_getElem hy', h]
  simp only [List.getD_eq_getElem?_getD, List.getElem?_eq_getElem hx', List.getElem?_eq_getElem hy', Option.getD_some] at e
  rw [e]

end Go.Proofs.Ytflikfnehpaohaa
