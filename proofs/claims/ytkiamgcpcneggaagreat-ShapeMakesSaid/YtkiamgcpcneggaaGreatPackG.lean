import Derived.Test.YtkiamgcpcneggaaGreatPackJ
set_option linter.all false
set_option maxRecDepth 100000
set_option maxHeartbeats 12800000
namespace Go.Proofs.YtkiamgcpcneggaaGreat
section
open Go.RowKit

theorem Bs.newc {w:World} {t:TypeId} {B n m:Nat} (xs:List Bd) (hg:∀x∈xs,x.Good w) (hl:xs.length<=maxLen) (hB:B=w.heap.size) (hn:xs.length=n) (hm:xs.length=m) :
 Bs (w.alloc (.cells (bvals xs).toArray t)) (some ⟨B,0,none⟩) n m xs:=by
 subst hB hn hm;refine ⟨rfl,Nat.le_refl _,hl,fun x hx=>(hg x hx).below ((Below.refl w.heap.size w).alloc lrf _) lrf,.inr ⟨w.heap.size,0,rfl,fun i hi=>?_⟩⟩;rw [World.cell?_alloc_at _ _ _ _ (by rfl)]
 simp [bvals,hi]

theorem Sl.part {w:World} {b off n cap:Nat} {zs:List Int} (h:Sl .u8 w (some ⟨b,off,none⟩) n cap zs) (f i:Nat) (hf:f<=i) (hi:i<=n):Sl .u8 w (some ⟨b,off+f,none⟩) (i-f) (cap-f) ((zs.take i).drop f):=by
 have:=h.piece f (i-f) (by omega)
 rwa [<-List.drop_take] at this

def RowsIs (w w':World) (e:Ending) (l:List (List Int)):Prop :=
 ∃a' m c' ys,e=.returned (.slice a' m c')/\Bs w' a' m c' ys/\bnums ys=l/\(a'=none->c'=0)/\Below w.heap.size w w'

end
section
open Go.RowKit

end
section
open Go.RowKit

end
section
open Go.RowKit

end
end Go.Proofs.YtkiamgcpcneggaaGreat
