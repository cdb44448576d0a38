import Derived.Test.YtkiamgcpcneggaaGreatPackE
import Derived.Test.YtkiamgcpcneggaaGreatRuleNormW
set_option linter.all false
set_option maxRecDepth 100000
set_option maxHeartbeats 12800000
namespace Go.Proofs.YtkiamgcpcneggaaGreat
section
open Go.RowKit

theorem agR (a:OAd) (n cap:Nat) (xs:List Rw) (ok:Bool) (w:World) (hs:Rs w a n cap xs) (hok:(aA xs).all Spec.fit=ok) :
 Calls Tryz.prog 45 #[.slice a n cap] w fun e w'=>e=.returned (.bool ok)/\Below w.heap.size w w':=by
 have hnc:=hs.2.1;have hcm:=hs.2.2.1;unfold maxLen at hcm;have HS:=hdq hs;have uW:=hdq hs.1;have uR:=hdq hok;clear hs hok;go_enter Tryz.func45,Tryz.ntmps45;go_wp2;go_loopw [7] (fun ix wr=>∃j:Nat,j<=n/\ix=.int .i64 (j:Int)/\Hid (((aA xs).take j).all Spec.fit=true)/\Hid (Below w.heap.size w wr)) (fun ix _=>n-(intOf ix).toNat)
 case atStart=>exact ⟨0,Nat.zero_le _,rfl,by first|rfl|trivial,Below.refl _ _⟩
 case round =>
  obtain ⟨j,hj,rfl,iT,ai⟩:=hrel;by_cases hlt:j<n
  ·obtain ⟨b1,o1,la,ln,lc,LL,ra,rn,rc,RR,C,rfl,hb1,hx1,hx2,hx3,hsl,gI,hC0,uX,hz1⟩:=HS.out.one j hlt;have hB:=ai.out;have Bz:wr.cell? ⟨b1,o1+j*3,none⟩=some (.slice la ln lc):=by rw [hB.cell (p:=⟨b1,o1+j*3,none⟩) hb1];exact hx1
   have uS:wr.cell? ⟨b1,o1+j*3+1,none⟩=some (.slice ra rn rc):=by rw [hB.cell (p:=⟨b1,o1+j*3+1,none⟩) hb1];exact hx2
   have BB:wr.cell? ⟨b1,o1+j*3+2,none⟩=some (.int .u64 C):=by rw [hB.cell (p:=⟨b1,o1+j*3+2,none⟩) hb1];exact hx3
   have fF:Hid ((⟨la,ln,lc,LL,ra,rn,rc,RR,C⟩:Rw).Good wr):=Rw.Good.below (w:=w) ⟨hsl,gI,hC0,uX⟩ hB lrf;have HT:Hid ((aA xs).take (j+1)=(aA xs).take j++[⟨LL,RR,C⟩]):=Vr (by rw [uW.out];exact hlt) (by rw [hz1];rfl);have HJ:Hid (j<(aA xs).length):=by show j<_;rw [gP,uW.out];exact hlt
   have bB:(j:Int)<(n:Int):=omg;have bM:Hid (w.heap.size<=wr.heap.size):=hB.size;obtain ⟨q,hq⟩:∃b,Spec.fit ⟨LL,RR,C⟩=b:=⟨_,rfl⟩;have HQ:=hdq hq;clear hsl gI hz1 hq hx1 hx2 hx3 hB;go_wp2_with fail;refine (afP ⟨la,ln,lc,LL,ra,rn,rc,RR,C⟩ q _ (fF.out.alloc _) HQ.out).mono ?_;rintro e w1 ⟨rfl,qm⟩;have HB1:Hid (Below w.heap.size w w1):=(ai.out.alloc bM.out _).trans (qm.mono (by simp;have:=bM.out;omega));clear qm;cases q
   ·obtain rfl:ok=false:=by
     rw [<-uR.out,List.all_eq_false];refine ⟨⟨LL,RR,C⟩,?_,by rw [HQ.out];decide⟩;have:(⟨LL,RR,C⟩:aj)∈(aA xs).take (j+1):=by rw [HT.out];simp
     exact List.mem_of_mem_take this
    go_wp2;go_ret;exact ⟨rfl,HB1.out⟩
   ·go_wp2;go_roundw
    case rel =>
     refine ⟨j+1,by omega,by go_num,?_,HB1.out⟩;show _=_;rw [HT.out,List.all_append,iT.out];simp [HQ.out]
    case measure=>simp [intOf];omega
  ·obtain rfl:j=n:=omg
   obtain rfl:ok=true:=by
    rw [<-uR.out,<-iT.out,tol (by rw [gP,uW.out];exact Nat.le_refl _)]
   go_wp2;go_ret;exact ⟨rfl,ai.out⟩

theorem agS (a:OAd) (n cap:Nat) (l:LIn) (x:Int) (w:World) (hs:Sl .u64 w a n cap l) :
 Calls Tryz.prog 87 #[.slice a n cap,.int .u64 x] w fun e w'=>∃r:Int,e=.returned (.int .i64 r)/\Hid (decide (0<=r)=l.any fun y=>decide (x=y))/\w=w':=by
 have hnc:=hs.2.1;have hcm:=hs.2.2.1;unfold maxLen at hcm;have HS:=hdq hs;have HL:=hdq hs.1;clear hs;go_enter Tryz.func87,Tryz.ntmps87;go_wp2;go_loopw [8] (fun ix wr=>∃i:Nat,i<=n/\ix=.int .i64 (i:Int)/\Hid (∀z∈l.take i,x≠z)/\wr=w) (fun ix _=>n-(intOf ix).toNat)
 case atStart=>exact ⟨0,Nat.zero_le _,rfl,by first|trivial|(intro z hz;simp at hz),rfl⟩
 case round =>
  obtain ⟨i,hi,rfl,HT,rfl⟩:=hrel;by_cases hlt:i<n
  ·have bB:(i:Int)<(n:Int):=omg;obtain ⟨b1,o1,rfl,hb1,hc1⟩:=HS.out.at omg;obtain ⟨y,hy⟩:∃y,y=l.getD i 0:=⟨_,rfl⟩;have hx1:=hc1 i hlt;rw [<-hy] at hx1
   have hyl:l[i]'(by rw [HL.out];exact hlt)=y:=by
    rw [hy,gdq,geg (by rw [HL.out];exact hlt),Option.getD_some]
   have HY:=hdq hyl;clear hc1 hy hb1 hyl;by_cases h:x=y
   ·have hb:(x==y)=true:=by simpa using h
    have HA:Hid (l.any (fun y=>decide (x=y))=true):=by
     show _=_;rw [List.any_eq_true];exact ⟨y,by rw [<-HY.out];exact List.getElem_mem _,by simpa using h⟩
    clear h;go_wp2;go_ret;exact ⟨(i:Int),rfl,by show _=_;rw [HA.out];simp,rfl⟩
   ·have hb:(x==y)=false:=by simpa using h
    have HN:=hdq h;clear h;go_wp2;go_roundw
    case rel =>
     refine ⟨i+1,by omega,by go_num,?_,by first|rfl|trivial⟩;intro z hz;rw [tsa (by rw [HL.out];exact hlt)] at hz;rcases map1 hz with hz|hz
     ·exact HT.out z hz
     ·rw [msg hz,HY.out];exact HN.out
    case measure=>simp [intOf];omega
  ·obtain rfl:i=n:=omg
   have HA:Hid (l.any (fun y=>decide (x=y))=false):=by
    show _=_;rw [List.any_eq_false];intro z hz;have:=HT.out z (by rw [tol (by rw [HL.out];exact Nat.le_refl _)];exact hz);simpa using this
   go_wp2;go_ret;exact ⟨-1,rfl,by show _=_;rw [HA.out];rfl,rfl⟩

theorem agT (a:OAd) (n cap:Nat) (l:LIn) (x:Int) (r:Bool) (w:World) (hs:Sl .u64 w a n cap l) (hr:(l.any fun y=>decide (x=y))=r) :
 Calls Tryz.prog 43 #[.slice a n cap,.int .u64 x] w fun e w'=>e=.returned (.bool r)/\w=w':=by
 have HR:=hdq hr;have HS:=hdq hs;clear hr hs;go_enter Tryz.func43,Tryz.ntmps43;go_wp2_with fail;refine (agS a n cap l x w HS.out).mono ?_;rintro e w1 ⟨k,rfl,hk,rfl⟩;have hkr:decide (k>=0)=r:=by rw [<-HR.out,<-hk.out]
 clear hk;go_wp2;go_ret;exact ⟨by first|rfl|(rw [<-hkr])|(simp [hkr]),rfl⟩


theorem agU (x y:Rw) (r:Bool) (w:World) (hx:x.Good w) (hy:y.Good w) (hr:decide (x.r.like y.r)=r) :
 Calls Tryz.prog 136 #[x.v,y.v] w fun e w'=>e=.returned (.bool r)/\Below w.heap.size w w':=by
 obtain ⟨la,ln,lc,L,ra,rn,rc,R,C⟩:=x;obtain ⟨la',jA,jB,L',iU,iV,rc',R',C'⟩:=y;obtain ⟨hl,hrr,h0,h1⟩:=hx;obtain ⟨hl',wO,h0',h1'⟩:=hy;have HL:=hdq hl;have HRR:=hdq hrr;have rz:=hdq hl';have uU:=hdq wO
 have HW:∀(o o':Obj) (q:Nat),Hid (Below w.heap.size w (((w.alloc o).alloc o').drewN q)):=fun o o' q=>by
  show Below _ _ _;have e:((w.alloc o).alloc o').drewN q=Go.Sort.grow (w.drewN q) #[o,o']:=by rw [Go.Sort.alloc_eq_grow,Go.Sort.alloc_eq_grow,Go.Sort.grow_grow];rfl
  rw [e];exact Ns lrf _ _
 clear hl hrr hl' wO;simp only [Rw.v,Rw.l,Rw.rt,Rw.c]
 have hr':(decide (L=L')&&decide (R=R'))=r:=by
  rw [<-hr];show _=decide (L=L'/\R=R');simp
 clear hr;obtain ⟨d1,hd1⟩:∃d,decide (L=L')=d:=⟨_,rfl⟩;obtain ⟨d2,hd2⟩:∃d,decide (R=R')=d:=⟨_,rfl⟩;rw [hd1,hd2] at hr';have HD1:=hdq hd1;have HD2:=hdq hd2;have HR:=hdq hr';clear hd1 hd2 hr';go_enter Tryz.func136,Tryz.ntmps136;go_wp2_with fail;refine (yB _ _ _ _ _ _ L L' d1 _ ((HL.out.alloc _).alloc _) ((rz.out.alloc _).alloc _) HD1.out).mono ?_;rintro e w1 ⟨rfl,q1,rfl⟩;cases d1
 ·go_wp2;go_ret;exact ⟨by rw [<-HR.out];rfl,(HW _ _ _).out⟩
 ·go_wp2_with fail;refine (yB _ _ _ _ _ _ R R' d2 _ (HRR.out.two _ _ _) (uU.out.two _ _ _) HD2.out).mono ?_;rintro e w1 ⟨rfl,q2,rfl⟩;go_wp2;go_ret;exact ⟨by rw [<-HR.out];rfl,(HW _ _ _).out⟩

theorem agV {w w1:World} {x y:Rw} {o o':Obj} (ho:o=.cells #[x.l,x.rt,x.c] 74 (0,0)) (ho':o'=.cells #[y.l,y.rt,y.c] 74 (0,0)) (hb:Below ((w.alloc o).alloc o').heap.size ((w.alloc o).alloc o') w1) :
 bX w1 w.heap.size 0 x/\bX w1 (w.heap.size+1) 0 y/\Below w.heap.size w w1:=by
 subst ho ho';have e1:∀o,(w.alloc o).heap.size=w.heap.size+1:=fun o=>World.size_alloc w o;refine ⟨(((bX.new w x _).alloc _).below hb lrf),?_,?_⟩
 ·have:=bX.new (w.alloc (.cells #[x.l,x.rt,x.c] 74 (0,0))) y 74;rw [e1] at this;exact this.below hb lrf
 ·refine (((Below.refl _ w).alloc lrf _).alloc (by rw [e1];omega) _).trans (hb.mono ?_);rw [World.size_alloc,e1];omega

theorem agW (x y:Rw) (r:Bool) (w:World) (hx:x.Good w) (hy:y.Good w) (hr:decide (x.r=y.r)=r) :
 Calls Tryz.prog 91 #[x.v,y.v] w fun e w'=>e=.returned (.bool r)/\Below w.heap.size w w':=by
 have hr':(decide (x.r.like y.r)&&decide (x.C=y.C))=r:=by
  rw [<-hr]
  cases h1:decide (x.r.like y.r)&&decide (x.C=y.C) with
  | true =>
    simp only [Bool.and_eq_true,decide_eq_true_eq] at h1;exact (decide_eq_true (aj.ext' h1.1.1 h1.1.2 h1.2)).symm
  | false =>
    refine (decide_eq_false fun h=>?_).symm;rw [Bool.and_eq_false_iff] at h1;rcases h1 with h1|h1
    ·exact of_decide_eq_false h1 (by rw [h];exact ⟨rfl,rfl⟩)
    ·exact of_decide_eq_false h1 (congrArg aj.C h)
 clear hr;obtain ⟨d1,hd1⟩:∃d,decide (x.r.like y.r)=d:=⟨_,rfl⟩;rw [hd1] at hr';have HD1:=hdq hd1;have HR:=hdq hr';have HX:=hdq hx;have HY:=hdq hy;clear hd1 hr' hx hy;simp only [Rw.v] at *;go_enter Tryz.func91,Tryz.ntmps91;go_wp2_with fail;refine (agU x y d1 _ ((HX.out.alloc _).alloc _) ((HY.out.alloc _).alloc _) HD1.out).mono ?_;rintro e w1 ⟨rfl,hb1⟩;obtain ⟨⟨hx1,hx2,hx3⟩,⟨hy1,hy2,hy3⟩,hb⟩:=agV rfl rfl hb1;have HB:=hdq hb;clear hb1 hb;cases d1
 ·go_wp2;go_ret;exact ⟨by rw [<-HR.out];rfl,HB.out⟩
 ·have HR2:Hid (decide (x.C=y.C)=r):=by show _=_;rw [<-HR.out];simp
  simp only [Rw.c] at hx3 hy3;have hxy:(x.C==y.C)=r:=by rw [<-HR2.out];rfl
  go_wp2;go_ret;exact ⟨by first|rfl|(rw [hxy]),HB.out⟩

theorem agX {xs ys:List aj} {j:Nat} (h:xs.take j=ys.take j) (h1:j<xs.length) (h2:j<ys.length) (he:xs.getD j aj.no=ys.getD j aj.no):xs.take (j+1)=ys.take (j+1):=by
 rw [tsa h1,tsa h2,h]
 congr 2
 rw [gdq,geg h1,gdq,geg h2] at he;exact he

theorem agY (a b:OAd) (n m cap cap2:Nat) (xs ys:List Rw) (r:Bool) (w:World) (ha:Rs w a n cap xs) (hb:Rs w b m cap2 ys) (hr:decide (aA xs=aA ys)=r) :
 Calls Tryz.prog 89 #[.slice a n cap,.slice b m cap2,.func (.func 91) #[] #[]] w fun e w'=>e=.returned (.bool r)/\Below w.heap.size w w':=by
 have hnc:=ha.2.1;have hcm:=ha.2.2.1;unfold maxLen at hcm;have hmc:=hb.2.1;have hcm2:=hb.2.2.1;unfold maxLen at hcm2;have dF:Hid ((aA xs).length=n):=by show _=_;rw [gP,ha.1]
 have iR:Hid ((aA ys).length=m):=by show _=_;rw [gP,hb.1]
 have HA:=hdq ha;have HB:=hdq hb;have HR:=hdq hr;have eg:∀args w,(callFunc 91 args).run Tryz.prog w=.ok (.enter 91 args) w:=enters_of Tryz.func91 krf rfl;clear ha hb hr;by_cases hnm:n=m
 ·subst hnm;go_enter Tryz.func89,Tryz.ntmps89;go_wp2;go_loopw [17] (fun ix wr=>∃j:Nat,j<=n/\ix=.int .i64 (j:Int)/\Hid ((aA xs).take j=(aA ys).take j)/\Hid (Below w.heap.size w wr)) (fun ix _=>n-(intOf ix).toNat)
  case atStart=>exact ⟨0,Nat.zero_le _,rfl,rfl,Below.refl _ _⟩
  case round =>
   obtain ⟨j,hj,rfl,HT,ai⟩:=hrel;by_cases hlt:j<n
   ·obtain ⟨b1,o1,la,ln,lc,LL,ra,rn,rc,RR,C,rfl,hb1,hx1,hx2,hx3,hsl,gI,hC0,uX,hz1⟩:=HA.out.one j hlt;obtain ⟨b2,o2,la',jA,jB,jD,iU,iV,rc',kv,C',rfl,hb2,hy1,hy2,hy3,wV,wW,Zo,Zp,hz2⟩:=HB.out.one j hlt;have hB:=ai.out;have Bz:wr.cell? ⟨b1,o1+j*3,none⟩=some (.slice la ln lc):=by rw [hB.cell (p:=⟨b1,o1+j*3,none⟩) hb1];exact hx1
    have uS:wr.cell? ⟨b1,o1+j*3+1,none⟩=some (.slice ra rn rc):=by rw [hB.cell (p:=⟨b1,o1+j*3+1,none⟩) hb1];exact hx2
    have BB:wr.cell? ⟨b1,o1+j*3+2,none⟩=some (.int .u64 C):=by rw [hB.cell (p:=⟨b1,o1+j*3+2,none⟩) hb1];exact hx3
    have YY:wr.cell? ⟨b2,o2+j*3,none⟩=some (.slice la' jA jB):=by rw [hB.cell (p:=⟨b2,o2+j*3,none⟩) hb2];exact hy1
    have amO:wr.cell? ⟨b2,o2+j*3+1,none⟩=some (.slice iU iV rc'):=by rw [hB.cell (p:=⟨b2,o2+j*3+1,none⟩) hb2];exact hy2
    have arX:wr.cell? ⟨b2,o2+j*3+2,none⟩=some (.int .u64 C'):=by rw [hB.cell (p:=⟨b2,o2+j*3+2,none⟩) hb2];exact hy3
    have hwl:w.heap.size<=wr.heap.size:=hB.size;have arY:b1<wr.heap.size:=Nat.lt_of_lt_of_le hb1 hwl;have arZ:b2<wr.heap.size:=Nat.lt_of_lt_of_le hb2 hwl;have fF:Hid ((⟨la,ln,lc,LL,ra,rn,rc,RR,C⟩:Rw).Good wr):=Rw.Good.below (w:=w) ⟨hsl,gI,hC0,uX⟩ hB lrf;have PR:Hid ((⟨la',jA,jB,jD,iU,iV,rc',kv,C'⟩:Rw).Good wr):=Rw.Good.below (w:=w) ⟨wV,wW,Zo,Zp⟩ hB lrf;have Zq:Hid ((aA xs).getD j aj.no=⟨LL,RR,C⟩):=by show _=_;rw [lY,hz1];rfl
    have Ke:Hid ((aA ys).getD j aj.no=⟨jD,kv,C'⟩):=by show _=_;rw [lY,hz2];rfl
    have bB:(j:Int)<(n:Int):=omg;obtain ⟨q,hq⟩:∃q,decide ((⟨LL,RR,C⟩:aj)=⟨jD,kv,C'⟩)=q:=⟨_,rfl⟩;have HQ:=hdq hq;have rf:=hdq hwl;have gp:∀o o',Hid (Below w.heap.size w ((wr.alloc o).alloc o')/\((wr.alloc o).alloc o').heap.size=wr.heap.size+2):=fun o o'=>⟨(ai.out.alloc hwl o).alloc (by rw [World.size_alloc];omega) o',by rw [World.size_alloc,World.size_alloc]⟩;clear hsl gI wV wW hz1 hz2 hq hx1 hx2 hx3 hy1 hy2 hy3 hB hwl;go_wp2_with fail;refine (agW ⟨la,ln,lc,LL,ra,rn,rc,RR,C⟩ ⟨la',jA,jB,jD,iU,iV,rc',kv,C'⟩ q _ ((fF.out.alloc _).alloc _) ((PR.out.alloc _).alloc _) HQ.out).mono ?_;rintro e w1 ⟨rfl,qm⟩;have HB1:Hid (Below w.heap.size w w1):=(gp _ _).out.1.trans (qm.mono (by rw [(gp _ _).out.2];have:=rf.out;omega));clear qm;cases q
    ·obtain rfl:r=false:=by
      rw [<-HR.out];refine decide_eq_false fun h=>?_;have h1:=Zq.out;rw [h,Ke.out] at h1;exact of_decide_eq_false HQ.out h1.symm
     go_wp2;go_ret;exact ⟨rfl,HB1.out⟩
    ·go_wp2;go_roundw
     case rel =>
      refine ⟨j+1,by omega,by go_num,?_,HB1.out⟩;exact agX HT.out (by rw [dF.out];exact hlt) (by rw [iR.out];exact hlt) (by rw [Zq.out,Ke.out];exact of_decide_eq_true HQ.out)
     case measure=>simp [intOf];omega
   ·obtain rfl:j=n:=omg
    obtain rfl:r=true:=by
     rw [<-HR.out];have h:=HT.out;rw [tol (by rw [dF.out];exact Nat.le_refl _),tol (by rw [iR.out];exact Nat.le_refl _)] at h;exact decide_eq_true h
    go_wp2;go_ret;exact ⟨rfl,ai.out⟩
 ·have h1:((n:Int)==(m:Int))=false:=by simp;omega
  have h2:((n:Int) != (m:Int))=true:=by simp;omega
  obtain rfl:r=false:=by
   rw [<-HR.out];refine decide_eq_false fun h=>hnm ?_;rw [<-dF.out,<-iR.out,h]
  clear hnm;go_enter Tryz.func89,Tryz.ntmps89;go_wp2;go_ret;exact ⟨rfl,Below.refl _ _⟩

theorem agZ (a:OAd) (n cap:Nat) (xs:List Rw) (r:Bool) (w:World) (hs:Rs w a n cap xs) (hn:n<=20000) (hr:decide (nrm (aA xs)=aA xs)=r) :
 Calls Tryz.prog 46 #[.slice a n cap] w fun e w'=>e=.returned (.bool r)/\Below w.heap.size w w':=by
 have HS:=hdq hs;have HR:=hdq hr;clear hs hr;go_enter Tryz.func46,Tryz.ntmps46;go_wp2_with fail;refine (agQ a n cap xs w HS.out hn).mono ?_;rintro e w1 ⟨a',n',c',outs,rfl,hrs,EC,hn',hnil,hb⟩;have PZ:=hdq hrs;have HRU:=hdq EC;have HB:=hdq hb;clear hrs EC hb hn' hnil;go_wp2_with fail;refine (agY a' a n' n c' cap outs xs r w1 PZ.out (HS.out.below HB.out lrf) (by rw [HRU.out];exact HR.out)).mono ?_;rintro e w2 ⟨rfl,hb2⟩;have HB2:Hid (Below w.heap.size w w2):=HB.out.trans (hb2.mono HB.out.size);clear hb2;go_wp2;go_ret;exact ⟨rfl,HB2.out⟩


end
section
open Go.RowKit

theorem Sl.lay_grown {k:IntKind} {w:World} {t:TypeId} {fr:Nat × Nat} {n:Nat} (zs:LIn) (hw:∀z∈zs,(Lit.int k z).wf=true) (hn:zs.length=n) (hm:n<=maxLen) (o:Obj) :
 Sl k ((w.alloc o).alloc (.cells (zs.map (Value.int k)).toArray t fr)) (some ⟨w.heap.size+1,0,none⟩) n n zs :=
 Sl.lay zs hw omg (by rw [World.size_alloc]) hn hn

theorem aha (c:Cw) (w:World) (hc:c.Good w) :
 Calls Tryz.prog 44 #[c.v] w fun e w'=>∃g,e=.returned (.slice (some ⟨g,0,none⟩) 4 4)/\Sl .u64 w' (some ⟨g,0,none⟩) 4 4 c.base/\Below w.heap.size w w':=by
 have hw:=Cw.base_wf hc;obtain ⟨m,l,o,t,a,n,cap,xs⟩:=c;have HE:∀ob:Obj,Hid (Sl .u64 ((w.alloc ob).alloc (.cells (([m,l,o,t]:LIn).map (Value.int .u64)).toArray 23 (0,0))) (some ⟨w.heap.size+1,0,none⟩) 4 4 [m,l,o,t]):=fun ob=>Sl.lay_grown [m,l,o,t] hw rfl (by simp [maxLen]) ob;have HB:∀o o':Obj,Hid (Below w.heap.size w ((w.alloc o).alloc o')):=fun o o'=>((Below.refl _ w).alloc lrf o).alloc (by rw [World.size_alloc];omega) o';clear hc hw;simp only [Cw.v,Cw.cells];go_enter Tryz.func44,Tryz.ntmps44;go_wp2;go_ret;exact ⟨_,by first|rfl|simp,(HE _).out,(HB _ _).out⟩

theorem ahb {w w1:World} {c:Cw} {o:Obj} (ho:o=.cells c.cells 26 (0,0)) (hb:Below (w.alloc o).heap.size (w.alloc o) w1) :
 w1.heap[w.heap.size]?=some (.cells c.cells 26 (0,0))/\Below w.heap.size w w1:=by
 subst ho;refine ⟨?_,((Below.refl _ w).alloc lrf _).trans (hb.mono (by rw [World.size_alloc];omega))⟩;rw [hb.block _ (by rw [World.size_alloc];omega)];exact han w _

theorem Vz (c:Cw) (r:Bool) (w:World) (hc:c.Good w) (hr:File.check c.c=r) :
 Calls Tryz.prog 20 #[c.v] w fun e w'=>e=.returned (.bool r)/\Below w.heap.size w w':=by
 obtain ⟨d1,hd1⟩:∃d,(c.base.any fun y=>decide ((18446744073709551615:Int)=y))=d:=⟨_,rfl⟩;obtain ⟨d3,hd3⟩:∃d,(aA c.xs).all Spec.fit=d:=⟨_,rfl⟩;obtain ⟨d4,hd4⟩:∃d,decide (nrm (aA c.xs)=aA c.xs)=d:=⟨_,rfl⟩
 have hb1:(c.base.all fun x=>decide (x<18446744073709551615))=!d1:=by
  rw [<-hd1];have h:=hc.2
  cases hx:c.base.all fun x=>decide (x<18446744073709551615) with
  | true =>
    have:(c.base.any fun y=>decide ((18446744073709551615:Int)=y))=false:=by
     rw [List.any_eq_false];intro z hz;have:=List.all_eq_true.1 hx z hz;simp only [decide_eq_true_eq] at this ⊢;omega
    rw [this];rfl
  | false =>
    obtain ⟨z,hz,h1⟩:=List.all_eq_false.1 hx
    have:(c.base.any fun y=>decide ((18446744073709551615:Int)=y))=true:=by
     rw [List.any_eq_true];refine ⟨z,hz,?_⟩;have:=h z hz;simp only [decide_eq_true_eq] at h1 ⊢;omega
    rw [this];rfl
 have hl:(aA c.xs).length=c.n:=by rw [gP,hc.1.1]
 have hr':(!d1&&decide (c.n<=200)&&d3&&d4)=r:=by
  rw [<-hr];unfold File.check;show _=((c.base.all fun x=>decide (x<18446744073709551615))&&decide ((aA c.xs).length<=200)&&(aA c.xs).all Spec.fit&&decide (nrm (aA c.xs)=aA c.xs));rw [hb1,hd3,hd4,hl]
 have hcm:=hc.1.2.1;have hcm2:=hc.1.2.2.1;unfold maxLen at hcm2;have HD1:=hdq hd1;have HD3:=hdq hd3;have HD4:=hdq hd4;have HR:=hdq hr';have HC:=hdq hc;clear hd1 hd3 hd4 hb1 hr' hr hl;obtain ⟨m,l,o,t,a,n,cap,xs⟩:=c;simp only [Cw.v,Cw.cells] at *;have HT:∀ob,ob=Obj.cells #[Value.int .u64 m,Value.int .u64 l,Value.int .u64 o,Value.int .u64 t,Value.slice a n cap] 26 (0,0)->∀w1,Below (w.alloc ob).heap.size (w.alloc ob) w1->Hid (w1.heap[w.heap.size]?=some (.cells #[Value.int .u64 m,Value.int .u64 l,Value.int .u64 o,Value.int .u64 t,Value.slice a n cap] 26 (0,0))/\Below w.heap.size w w1):=fun ob aQ w1 h=>ahb (c:=⟨m,l,o,t,a,n,cap,xs⟩) aQ h;clear hc;go_enter Tryz.func20,Tryz.ntmps20;go_wp2_with fail;refine (aha ⟨m,l,o,t,a,n,cap,xs⟩ _ (HC.out.alloc _)).mono ?_;rintro e w1 ⟨g,rfl,hg,hb1⟩;have HG:=hdq hg;obtain ⟨Zr,Zt⟩:=(HT _ rfl _ hb1).out;have hc4:w1.cell? ⟨w.heap.size,4,none⟩=some (.slice a n cap):=by simp [World.cell?,Zr]
 have HB1:=hdq Zt;clear hg hb1 Zr Zt;go_wp2_with fail;refine (agT (some ⟨g,0,none⟩) 4 4 [m,l,o,t] 18446744073709551615 d1 w1 HG.out HD1.out).mono ?_;rintro e w2 ⟨rfl,rfl⟩;cases d1
 ·by_cases ED:n<=200
  ·have Qa:(n:Int)<=200:=omg;have Zu:Hid (decide (n<=200)=true):=decide_eq_true ED;go_wp2_with fail;refine (agR a n cap xs d3 w1 (HC.out.1.below HB1.out lrf) HD3.out).mono ?_;rintro e w2 ⟨rfl,hb2⟩;have asa:w2.cell? ⟨w.heap.size,4,none⟩=some (.slice a n cap):=by rw [hb2.cell (p:=⟨w.heap.size,4,none⟩) (bQ hc4)];exact hc4
   have HB2:Hid (Below w.heap.size w w2):=HB1.out.trans (hb2.mono HB1.out.size);clear hb2 hc4;cases d3
   ·obtain rfl:r=false:=by rw [<-HR.out,Zu.out];rfl
    go_wp2;go_ret;exact ⟨rfl,HB2.out⟩
   ·go_wp2_with fail;refine (agZ a n cap xs d4 w2 (HC.out.1.below HB2.out lrf) omg HD4.out).mono ?_;rintro e w3 ⟨rfl,hb3⟩;have HB3:Hid (Below w.heap.size w w3):=HB2.out.trans (hb3.mono HB2.out.size);clear hb3;obtain rfl:r=d4:=by rw [<-HR.out,Zu.out];rfl
    go_wp2;go_ret;exact ⟨rfl,HB3.out⟩
  ·have Qa:¬(n:Int)<=200:=omg;obtain rfl:r=false:=by rw [<-HR.out,decide_eq_false ED];rfl
   go_wp2;go_ret;exact ⟨rfl,HB1.out⟩
 ·obtain rfl:r=false:=by rw [<-HR.out];rfl
  go_wp2;go_ret;exact ⟨rfl,HB1.out⟩

end
section
open Go.RowKit

end
end Go.Proofs.YtkiamgcpcneggaaGreat
