/- Used by the law. -/
import Derived.Test.YtkiamgcpcneggaaGreatPackD
import Derived.Test.YtkiamgcpcneggaaGreatPackK
set_option linter.all false
namespace Go.Proofs.YtkiamgcpcneggaaGreat
open Go.RowKit

set_option maxRecDepth 100000 in
theorem Sl.range {w:World} {a:Option Addr} {n cap:Nat} {zs:List Int} (h:Sl .i64 w a n cap zs) (i:Nat):-9223372036854775808≤zs.getD i 0∧zs.getD i 0≤9223372036854775807:=by
 rcases Nat.lt_or_ge i zs.length with hi|hi
 ·have:=h.2.2.2.1 (zs[i]) (List.getElem_mem hi)
  have hb:=bounds_i64 this
  simp [hi];exact hb
 ·rw [List.getD_eq_getElem?_getD,List.getElem?_eq_none hi];decide

end Go.Proofs.YtkiamgcpcneggaaGreat
