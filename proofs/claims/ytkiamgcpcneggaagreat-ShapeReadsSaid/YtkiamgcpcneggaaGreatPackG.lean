import Derived.Test.YtkiamgcpcneggaaGreatChecked
import Derived.Test.YtkiamgcpcneggaaGreatPackA
import Derived.Test.YtkiamgcpcneggaaGreatPackD
import Derived.WalkKit
import Derived.WalkLawsBesides
import Derived.Below
import Derived.ProofKit
import Derived.Outline
import Derived.BigQuiet
import Derived.BigGuardPart
import Derived.Deep.QuietTactic
import Derived.LoopN
import Derived.WalkMore
import Derived.OpenShut
import Derived.Laws.Small
import Derived.Lib.Hide
import Derived.Lib.Strings
import Derived.Deep.RegionLaw
import Derived.Deep.AppendLies
import Derived.Maps.RangeWalk
import Derived.Laws.AppendOwnNone
import Derived.Test.YtkiamgcpcneggaaGreatPackJ
import Derived.ShutString
import Derived.Laws.BytesArg
set_option linter.all false
/- Used by the law. -/
namespace Go.Proofs.YtkiamgcpcneggaaGreat
open Go.RowKit

set_option maxRecDepth 100000 in
theorem Bs.newc {w:World} {t:TypeId} {B n m:Nat} (xs:List Bd) (hg:∀ x ∈ xs,x.Good w) (hl:xs.length≤maxLen) (hB:B=w.heap.size) (hn:xs.length=n) (hm:xs.length=m) :
 Bs (w.alloc (.cells (bvals xs).toArray t)) (some ⟨B,0,none⟩) n m xs:=by
 subst hB hn hm
 refine ⟨rfl,Nat.le_refl _,hl,fun x hx=>(hg x hx).below ((Below.refl w.heap.size w).alloc (Nat.le_refl _) _) (Nat.le_refl _),.inr ⟨w.heap.size,0,rfl,fun i hi=>?_⟩⟩
 rw [World.cell?_alloc_at _ _ _ _ (by rfl)]
 simp [bvals,hi]

def RowsIs (w w':World) (e:Ending) (l:List (List Int)):Prop :=
 ∃ a' m c' ys,e=.returned (.slice a' m c')∧Bs w' a' m c' ys∧bnums ys=l∧(a'=none→c'=0)∧Below w.heap.size w w'

end Go.Proofs.YtkiamgcpcneggaaGreat

/- Used by the law. -/
namespace Go.Proofs.YtkiamgcpcneggaaGreat
open Go.RowKit

end Go.Proofs.YtkiamgcpcneggaaGreat

/- Used by the law. -/
namespace Go.Proofs.YtkiamgcpcneggaaGreat
open Go.RowKit

end Go.Proofs.YtkiamgcpcneggaaGreat

/- Used by the law. -/
namespace Go.Proofs.YtkiamgcpcneggaaGreat
open Go.RowKit

end Go.Proofs.YtkiamgcpcneggaaGreat
