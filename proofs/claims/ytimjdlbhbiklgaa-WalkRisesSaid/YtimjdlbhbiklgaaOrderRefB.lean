/- The document's Sort of layer 3: each word put in at its place. -/
import Derived.Test.YtimjdlbhbiklgaaOrderStep
import Derived.Test.YtimjdlbhbiklgaaPackO
namespace Go.Proofs.Ytimjdlbhbiklgaa
open Go.RowKit

set_option maxRecDepth 100000 in
theorem ins_not {l : List (List Int)} {z : List Int} {k : Nat} (h : decide (z ∈ l) = false) (hk : cnt l z = k) : ins l z = l.take k ++ z :: l.drop k := by
  subst hk
  unfold ins
  rw [if_neg (by simpa using h)]
set_option maxRecDepth 100000 in
theorem ins_is {l : List (List Int)} {z : List Int} (h : decide (z ∈ l) = true) : ins l z = l := by
  unfold ins
  rw [if_pos (by simpa using h)]
set_option maxRecDepth 100000 in
theorem srt_step {l : List (List Int)} {o R : List (List Int)} {j : Nat} {z : List Int} (h : o = (l.take j).foldl ins []) (hj : j < l.length) (hz : l.getD j [] = z) (hR : ins o z = R) : R = (l.take (j + 1)).foldl ins [] := by
  rw [List.take_succ_eq_append_getElem hj, List.foldl_append, ← h, ← hR]
  have : l[j] = z := by rw [← hz]; simp [hj]
  rw [this]; rfl

set_option maxRecDepth 100000 in
theorem Ws.empty {w : World} {a : Option Addr} {c : Nat} (h : c ≤ maxLen) : Ws w a 0 c [] := ⟨rfl, Nat.zero_le _, h, by simp, .inl rfl⟩

end Go.Proofs.Ytimjdlbhbiklgaa
