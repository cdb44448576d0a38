import Derived.Test.YtkiamgcpcneggaaGreatChecked
import Derived.Test.YtkiamgcpcneggaaGreatPackD
import Derived.WalkLawsBesides
import Derived.BigGuardPart
import Derived.OpenShut
import Derived.BigQuiet
set_option linter.all false
set_option maxRecDepth 100000
set_option maxHeartbeats 12800000
namespace Go.Proofs.YtkiamgcpcneggaaGreat
section
open Go.RowKit

theorem arm (a b:Option Addr) (n m cap cap2:Nat) (xs ys:List Int) (w:World) (ha:Sl .i64 w a n cap xs) (hb:Sl .i64 w b m cap2 ys) :
 Calls Tryz.prog 38 #[.slice a n cap,.slice b m cap2] w fun e w'=>e=.returned (.bool (decide (xs=ys)))/\∃q,w'=w.drewN q:=by
 have hnc:=ha.2.1;have hcm:=ha.2.2.1;unfold maxLen at hcm;have hmc:=hb.2.1;have hcm2:=hb.2.2.1;unfold maxLen at hcm2;have HA:=hdq ha;have HB:=hdq hb;clear ha hb;by_cases hnm:n=m
 ·subst hnm;go_enter Tryz.func38,Tryz.ntmps38;go_wp2;go_loopw [5] (fun ix wr=>∃j q:Nat,j<=n/\ix=.int .i64 (j:Int)/\Hid (xs.take j=ys.take j)/\wr=w.drewN q) (fun ix _=>n-(intOf ix).toNat)
  case atStart=>exact ⟨0,0,Nat.zero_le _,rfl,rfl,rfl⟩
  case round =>
   obtain ⟨j,q,hj,rfl,HT,rfl⟩:=hrel;by_cases hlt:j<n
   ·obtain ⟨b1,o1,rfl,_,hc1⟩:=HA.out.at (by omega)
    obtain ⟨b2,o2,rfl,_,hc2⟩:=HB.out.at (by omega)
    obtain ⟨x,hx⟩:∃x,x=xs.getD j 0:=⟨_,rfl⟩;obtain ⟨y,hy⟩:∃y,y=ys.getD j 0:=⟨_,rfl⟩;have hx1:=hc1 j hlt;have hy1:=hc2 j hlt;rw [<-hx] at hx1;rw [<-hy] at hy1;have HX:=hdq hx;have HY:=hdq hy;have hlti:(j:Int)<(n:Int):=by omega
    clear hc1 hc2 hx hy;by_cases he:x=y
    ·subst he;go_wp2;go_quiet (fail);go_wp2;go_roundw
     case rel=>exact ⟨j+1,_,by omega,by go_num,td HT.out (by rw [HA.out.1];exact hlt) (by rw [HB.out.1];exact hlt) (by rw [<-HX.out,<-HY.out]),rfl⟩
     case measure=>simp [intOf];omega
    ·have he1:(x==y)=false:=by simpa using he
     have he2:(x != y)=true:=by simpa using he
     have hfin:decide (xs=ys)=false:=by
      rw [decide_eq_false_iff_not];intro h;apply he;rw [HX.out,HY.out,h]
     have HF:=hdq hfin;clear he hfin;go_wp2;go_quiet (fail);go_wp2;go_ret;exact ⟨by rw [HF.out];rfl,_,World.drewN_drewN _ _ _⟩
   ·have hfin:decide (xs=ys)=true:=by
     rw [decide_eq_true_iff];have h:=HT.out
     rwa [tol (by rw [HA.out.1];omega),tol (by rw [HB.out.1];omega)] at h
    have HF:=hdq hfin;clear hfin;go_wp2;go_ret;exact ⟨by rw [HF.out];rfl,q,rfl⟩
 ·have h1:((n:Int)==(m:Int))=false:=by simp;omega
  have h2:((n:Int) != (m:Int))=true:=by simp;omega
  have hfin:decide (xs=ys)=false:=by
   rw [decide_eq_false_iff_not];intro h;apply hnm;rw [<-HA.out.1,<-HB.out.1,h]
  have HF:=hdq hfin;clear hnm hfin;go_enter Tryz.func38,Tryz.ntmps38;go_wp2;go_ret;exact ⟨by rw [HF.out];rfl,0,rfl⟩

theorem io (a b:Option Addr) (n m cap cap2:Nat) (xs ys:List Int) (r:Bool) (w:World) (ha:Sl .i64 w a n cap xs) (hb:Sl .i64 w b m cap2 ys) (h:decide (xs=ys)=r) :
 Calls Tryz.prog 38 #[.slice a n cap,.slice b m cap2] w fun e w'=>e=.returned (.bool r)/\∃q,w'=w.drewN q:=by
 subst h;exact arm a b n m cap cap2 xs ys w ha hb

end
section
open Go.RowKit

end
section
open Go.RowKit

end
end Go.Proofs.YtkiamgcpcneggaaGreat
