import Derived.Test.YtkiamgcpcneggaaGreatChecked
import Derived.Test.YtkiamgcpcneggaaGreatPackD
import Derived.WalkLawsBesides
import Derived.BigGuardPart
import Derived.OpenShut
import Derived.BigQuiet
set_option linter.all false
set_option maxRecDepth 100000
set_option maxHeartbeats 12800000
namespace Go.Proofs.YtkiamgcpcneggaaGreat
section
open Go.RowKit

theorem aey (a b:OAd) (n m cap cap2:Nat) (xs ys:LIn) (w:World) (ha:Sl .i64 w a n cap xs) (hb:Sl .i64 w b m cap2 ys) :
 Calls Tryz.prog 38 #[.slice a n cap,.slice b m cap2] w fun e w'=>e=.returned (.bool (decide (xs=ys)))/\∃q,w'=w.drewN q:=by
 have hnc:=ha.2.1;have hcm:=ha.2.2.1;unfold maxLen at hcm;have hmc:=hb.2.1;have hcm2:=hb.2.2.1;unfold maxLen at hcm2;have HA:=hdq ha;have HB:=hdq hb;clear ha hb;by_cases hnm:n=m
 ·subst hnm;go_enter Tryz.func38,Tryz.ntmps38;go_wp2;go_loopw [5] (fun ix wr=>∃j q:Nat,j<=n/\ix=.int .i64 (j:Int)/\Hid (xs.take j=ys.take j)/\wr=w.drewN q) (fun ix _=>n-(intOf ix).toNat)
  case atStart=>exact ⟨0,0,Nat.zero_le _,rfl,rfl,rfl⟩
  case round =>
   obtain ⟨j,q,hj,rfl,HT,rfl⟩:=hrel;by_cases hlt:j<n
   ·obtain ⟨b1,o1,rfl,_,hc1⟩:=HA.out.at omg;obtain ⟨b2,o2,rfl,_,hc2⟩:=HB.out.at omg;obtain ⟨x,hx⟩:∃x,x=xs.getD j 0:=⟨_,rfl⟩;obtain ⟨y,hy⟩:∃y,y=ys.getD j 0:=⟨_,rfl⟩;have hx1:=hc1 j hlt;have hy1:=hc2 j hlt;rw [<-hx] at hx1;rw [<-hy] at hy1;have HX:=hdq hx;have HY:=hdq hy;have bB:(j:Int)<(n:Int):=omg;clear hc1 hc2 hx hy;by_cases he:x=y
    ·subst he;go_wp2;go_quiet (fail);go_wp2;go_roundw
     case rel=>exact ⟨j+1,_,by omega,by go_num,take_same HT.out (by rw [HA.out.1];exact hlt) (by rw [HB.out.1];exact hlt) (by rw [<-HX.out,<-HY.out]),rfl⟩
     case measure=>simp [intOf];omega
    ·have he1:(x==y)=false:=by simpa using he
     have he2:(x != y)=true:=by simpa using he
     have hfin:decide (xs=ys)=false:=by
      rw [decide_eq_false_iff_not];intro h;apply he;rw [HX.out,HY.out,h]
     have HF:=hdq hfin;clear he hfin;go_wp2;go_quiet (fail);go_wp2;go_ret;exact ⟨by rw [HF.out];rfl,_,World.drewN_drewN _ _ _⟩
   ·have hfin:decide (xs=ys)=true:=by
     rw [decide_eq_true_iff];have h:=HT.out
     rwa [tol (by rw [HA.out.1];omega),tol (by rw [HB.out.1];omega)] at h
    have HF:=hdq hfin;clear hfin;go_wp2;go_ret;exact ⟨by rw [HF.out];rfl,q,rfl⟩
 ·have h1:((n:Int)==(m:Int))=false:=by simp;omega
  have h2:((n:Int) != (m:Int))=true:=by simp;omega
  have hfin:decide (xs=ys)=false:=by
   rw [decide_eq_false_iff_not];intro h;apply hnm;rw [<-HA.out.1,<-HB.out.1,h]
  have HF:=hdq hfin;clear hnm hfin;go_enter Tryz.func38,Tryz.ntmps38;go_wp2;go_ret;exact ⟨by rw [HF.out];rfl,0,rfl⟩

theorem dR (a b:OAd) (n m cap cap2:Nat) (xs ys:LIn) (r:Bool) (w:World) (ha:Sl .i64 w a n cap xs) (hb:Sl .i64 w b m cap2 ys) (h:decide (xs=ys)=r) :
 Calls Tryz.prog 38 #[.slice a n cap,.slice b m cap2] w fun e w'=>e=.returned (.bool r)/\∃q,w'=w.drewN q:=by
 subst h;exact aey a b n m cap cap2 xs ys w ha hb

end
section
open Go.RowKit

theorem aeL {a b:Bool} (h:a=b):Ending.returned (.bool a)=.returned (.bool b):=by rw [h]
theorem tq (n:Int) (w:World) (h0:-9223372036854775808<=n) (h1:n<=9223372036854775807) :
 Calls Tryz.prog 83 #[.int .i64 n] w fun e w'=>e=.returned (.bool (Utf.good n))/\w=w':=by
 go_enter Tryz.func83,Tryz.ntmps83;go_wp2;all_goals (go_ret;refine ⟨aeL ?_,rfl⟩);all_goals (rw [Bool.eq_iff_iff,Utf.lX];simp only [decide_eq_true_eq,Bool.false_eq_true,true_iff,false_iff];omega)

end
section
open Go.RowKit

theorem Nl (a b:OAd) (n m cap cap2:Nat) (xs ys:LIn) (k:Nat) (w:World) (ha:Sl .i64 w a n cap xs) (hb:Sl .i64 w b m cap2 ys) (hk:common xs ys=k) :
 Calls Tryz.prog 158 #[.slice a n cap,.slice b m cap2] w fun e w'=>e=.returned (.int .i64 (k:Nat))/\∃q,w'=w.drewN q:=by
 subst hk;have hnc:=ha.2.1;have hcm:=ha.2.2.1;unfold maxLen at hcm;have hmc:=hb.2.1;have hcm2:=hb.2.2.1;unfold maxLen at hcm2;have HA:=hdq ha;have HB:=hdq hb;clear ha hb;go_enter Tryz.func158,Tryz.ntmps158;go_wp2;go_loopw [5] (fun ix wr=>∃j q:Nat,j<=n/\j<=m/\ix=.int .i64 (j:Int)/\Hid (xs.take j=ys.take j)/\wr=w.drewN q) (fun ix _=>n-(intOf ix).toNat)
 case atStart=>exact ⟨0,0,Nat.zero_le _,Nat.zero_le _,rfl,rfl,rfl⟩
 case round =>
  obtain ⟨j,q,hjn,hjm,rfl,HT,rfl⟩:=hrel;by_cases hlt:j<n
  ·have hd1:decide ((j:Int)<(n:Int))=true:=by simp;omega
   have hi1:(j:Int)<(n:Int):=omg;by_cases hlt2:j<m
   ·have hd2:decide ((j:Int)<(m:Int))=true:=by simp;omega
    have hi2:(j:Int)<(m:Int):=omg;obtain ⟨b1,o1,rfl,_,hc1⟩:=HA.out.at omg;obtain ⟨b2,o2,rfl,_,hc2⟩:=HB.out.at omg;obtain ⟨x,hx⟩:∃x,x=xs.getD j 0:=⟨_,rfl⟩;obtain ⟨y,hy⟩:∃y,y=ys.getD j 0:=⟨_,rfl⟩;have hx1:=hc1 j hlt;have hy1:=hc2 j hlt2;rw [<-hx] at hx1;rw [<-hy] at hy1;have HX:=hdq hx;have HY:=hdq hy;clear hc1 hc2 hx hy;by_cases he:x=y
    ·subst he;go_wp2;go_quiet (fail);go_wp2;go_roundw
     case rel=>exact ⟨j+1,_,by omega,by omega,by go_num,take_same HT.out (by rw [HA.out.1];exact hlt) (by rw [HB.out.1];exact hlt2) (by rw [<-HX.out,<-HY.out]),rfl⟩
     case measure=>simp [intOf];omega
    ·have he1:(x==y)=false:=by simpa using he
     have hfin:common xs ys=j:=yo HT.out (by rw [HA.out.1];omega) (by rw [HB.out.1];omega) (.inr (.inr (by rw [<-HX.out,<-HY.out];exact he)));have HF:=hdq hfin;clear he hfin;go_wp2;go_quiet (fail);go_wp2;go_ret;exact ⟨by rw [HF.out];rfl,_,World.drewN_drewN _ _ _⟩
   ·have hd2:decide ((j:Int)<(m:Int))=false:=by simp;omega
    have hfin:common xs ys=j:=yo HT.out (by rw [HA.out.1];omega) (by rw [HB.out.1];omega) (.inr (.inl (by rw [HB.out.1];omega)));have HF:=hdq hfin;clear hfin;go_wp2;go_quiet (fail);go_wp2;go_ret;exact ⟨by rw [HF.out];rfl,_,World.drewN_drewN _ _ _⟩
  ·have hd1:decide ((j:Int)<(n:Int))=false:=by simp;omega
   have hfin:common xs ys=j:=yo HT.out (by rw [HA.out.1];omega) (by rw [HB.out.1];omega) (.inl (by rw [HA.out.1];omega));have HF:=hdq hfin;clear hfin;go_wp2;go_quiet (fail);go_wp2;go_ret;exact ⟨by rw [HF.out];rfl,_,World.drewN_drewN _ _ _⟩

theorem jL (a b:OAd) (n m cap cap2:Nat) (xs ys:LIn) (r:Bool) (w:World) (ha:Sl .i64 w a n cap xs) (hb:Sl .i64 w b m cap2 ys) (h:lessL xs ys=r) :
 Calls Tryz.prog 121 #[.slice a n cap,.slice b m cap2] w fun e w'=>e=.returned (.bool r)/\∃q,w'=w.drewN q:=by
 have hnc:=ha.2.1;have hcm:=ha.2.2.1;unfold maxLen at hcm;have hmc:=hb.2.1;have hcm2:=hb.2.2.1;unfold maxLen at hcm2;have hl:=IC xs ys;have hle:=Mq xs ys;obtain ⟨k,hk⟩:∃k,common xs ys=k:=⟨_,rfl⟩;rw [hk,h] at hl;rw [hk] at hle;rw [ha.1,hb.1] at hl hle;have HA:=hdq ha;have HB:=hdq hb;have HK:=hdq hk;obtain ⟨hle1,hle2⟩:=hle;by_cases yX:k=m
 ·rw [if_neg omg,decide_eq_false omg] at hl;subst hl;subst yX;clear ha hb hk h;go_enter Tryz.func121,Tryz.ntmps121;go_wp2_with (go_at_call 158;refine (Nl _ _ _ _ _ _ _ _ _ _ HA.out HB.out HK.out).mono ?_;rintro e w1 ⟨rfl,q,rfl⟩);go_ret;exact ⟨rfl,q,rfl⟩
 ·have arN:((k:Int)==(m:Int))=false:=by simp;omega
  have arO:¬(k:Int)=(m:Int):=omg;by_cases hkn:k=n
  ·rw [if_neg omg,decide_eq_true omg] at hl;subst hl;subst hkn;have hkk:((k:Int)==(k:Int))=true:=smp;clear ha hb hk h;go_enter Tryz.func121,Tryz.ntmps121;go_wp2_with (go_at_call 158;refine (Nl _ _ _ _ _ _ _ _ _ _ HA.out HB.out HK.out).mono ?_;rintro e w1 ⟨rfl,hq⟩);go_quiet (fail);go_wp2;go_ret;exact ⟨rfl,by obtain ⟨q,rfl⟩:=hq;exact ⟨_,World.drewN_drewN _ _ _⟩⟩
  ·have arP:((k:Int)==(n:Int))=false:=by simp;omega
   have hkn2:¬(k:Int)=(n:Int):=omg;rw [if_pos omg] at hl;have hi1:(k:Int)<(n:Int):=omg;have hi2:(k:Int)<(m:Int):=omg;obtain ⟨b1,o1,rfl,_,hc1⟩:=ha.at omg;obtain ⟨b2,o2,rfl,_,hc2⟩:=hb.at omg;obtain ⟨x,hx⟩:∃x,xs.getD k 0=x:=⟨_,rfl⟩;obtain ⟨y,hy⟩:∃y,ys.getD k 0=y:=⟨_,rfl⟩;have hx1:=hc1 k omg;have hy1:=hc2 k omg;rw [hx] at hx1 hl;rw [hy] at hy1 hl;have HL:=hdq hl;clear ha hb hk h hc1 hc2 hx hy hl;go_enter Tryz.func121,Tryz.ntmps121;go_wp2_with (go_at_call 158;refine (Nl _ _ _ _ _ _ _ _ _ _ HA.out HB.out HK.out).mono ?_;rintro e w1 ⟨rfl,q,hq⟩;have hx2:w1.cell? ⟨b1,o1+k,none⟩=some (.int .i64 x):=(by rw [hq];exact hx1);have hy2:w1.cell? ⟨b2,o2+k,none⟩=some (.int .i64 y):=(by rw [hq];exact hy1);have HQ:=hdq hq;clear hq);go_quiet (fail);go_wp2;go_ret;exact ⟨by rw [HL.out];rfl,q+nq,by rw [HQ.out,World.drewN_drewN]⟩

end
end Go.Proofs.YtkiamgcpcneggaaGreat
