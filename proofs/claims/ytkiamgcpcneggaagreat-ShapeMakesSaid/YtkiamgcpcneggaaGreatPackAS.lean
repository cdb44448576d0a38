import Derived.Test.YtkiamgcpcneggaaGreatPackK
set_option linter.all false
set_option maxRecDepth 100000
set_option maxHeartbeats 12800000
namespace Go.Proofs.YtkiamgcpcneggaaGreat
section
open Go.RowKit

theorem Sl.range {w:World} {a:Option Addr} {n cap:Nat} {zs:List Int} (h:Sl .i64 w a n cap zs) (i:Nat):-9223372036854775808<=zs.getD i 0/\zs.getD i 0<=9223372036854775807:=by
 rcases Nat.lt_or_ge i zs.length with hi|hi
 ·have:=h.2.2.2.1 (zs[i]) (List.getElem_mem hi);have hb:=bounds_i64 this;simp [hi];exact hb
 ·rw [gdq,List.getElem?_eq_none hi];decide

end
section
open Go.RowKit

def plainB (c:Int):Bool:=decide (c≠9)&&decide (c≠10)&&decide (c≠32)
theorem ann {l:List Int}:Spec.plain l=(l.all plainB&&!decide (l=[95])):=rfl

end
end Go.Proofs.YtkiamgcpcneggaaGreat
