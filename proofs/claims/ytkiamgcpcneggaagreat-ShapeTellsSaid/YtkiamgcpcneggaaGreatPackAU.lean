import Derived.Test.YtkiamgcpcneggaaGreatPackS
import Derived.Test.YtkiamgcpcneggaaGreatPackH
import Derived.Test.YtkiamgcpcneggaaGreatPackAM
import Derived.Test.YtkiamgcpcneggaaGreatPackC
set_option linter.all false
set_option maxRecDepth 100000
set_option maxHeartbeats 12800000
namespace Go.Proofs.YtkiamgcpcneggaaGreat
section
open Go.RowKit

theorem alh {l:LLI} {z w:LIn} {j:Nat} (hj:j<l.length) (hz:l.getD j []=z):cnt (l.take (j+1)) w=cnt (l.take j) w+(if lessL z w then 1 else 0):=by
 have e:l[j]=z:=by rw [<-hz];simp [hj]
 unfold cnt;rw [tsa hj,List.countP_append,e];simp [List.countP_cons]
theorem ali {l:LLI} {z w:LIn} {j:Nat} (hj:j<l.length) (hz:l.getD j []=z):decide (w∈l.take (j+1))=(decide (w∈l.take j)||decide (z=w)):=by
 have e:l[j]=z:=by rw [<-hz];simp [hj]
 rw [tsa hj,e,<-Bool.decide_or]
 congr 1
 simp only [List.mem_append,List.mem_singleton,eq_iff_iff];constructor
 ·rintro (h|h)
  ·exact .inl h
  ·exact .inr h.symm
 ·rintro (h|h)
  ·exact .inl h
  ·exact .inr h.symm

theorem alj (a b:OAd) (n m cap cap2:Nat) (xs:List Wd) (zs:LIn) (k:Nat) (r:Bool) (w:World) (ha:Ws w a n cap xs) (hb:Sl .i64 w b m cap2 zs)
 (hk:cnt (nums xs) zs=k) (h:decide (zs∈nums xs)=r) :
 Calls Tryz.prog 157 #[.slice a n cap,.slice b m cap2] w fun e w'=>e=.returned (.tuple #[.int .i64 (k:Nat),.bool r])/\∃q,w'=w.drewN q:=by
 subst hk h;have hnc:=ha.2.1;have hcm:=ha.2.2.1;unfold maxLen at hcm;have HA:=hdq ha;have HB:=hdq hb;clear ha hb;go_enter Tryz.func157,Tryz.ntmps157;go_wp2;go_loopw [6,7,8] (fun nv bv ix wr=>∃(j c:Nat) (g:Bool),j<=n/\c<=j/\ix=.int .i64 (j:Int)/\nv=.int .i64 (c:Int)/\bv=.bool g/\Hid (cnt ((nums xs).take j) zs=c)/\Hid (decide (zs∈(nums xs).take j)=g)/\Hid (∃q,wr=w.drewN q)) (fun _ _ ix _=>n-(intOf ix).toNat)
 case atStart=>exact ⟨0,0,false,Nat.zero_le _,Nat.le_refl _,rfl,rfl,rfl,rfl,(by show decide _=_;simp),⟨0,rfl⟩⟩
 case round =>
  obtain ⟨j,c,g,hj,hcj,rfl,rfl,rfl,HC,HG,HQ⟩:=hrel;by_cases hlt:j<n
  ·obtain ⟨b1,o1,a3,n3,c3,z3,rfl,_,_,hx1,hs1,hz1⟩:=(HA.out.drawn HQ.out).one j hlt;have hS:=HB.out.drawn HQ.out;have hjl:j<(nums xs).length:=by rw [nums_length,HA.out.1];exact hlt
   have hcn:=alh (w:=zs) hjl hz1;have hmm:=ali (w:=zs) hjl hz1;rw [HC.out] at hcn;rw [HG.out] at hmm;have bR:=hdq hs1;have HS:=hdq hS;have bB:(j:Int)<(n:Int):=omg;obtain ⟨rl,hrl⟩:∃rl,lessL z3 zs=rl:=⟨_,rfl⟩;obtain ⟨re,hre⟩:∃re,decide (z3=zs)=re:=⟨_,rfl⟩;rw [hrl] at hcn;rw [hre] at hmm;have LK:=hdq hrl;have nE:=hdq hre;have qj:=hdq hcn;have uy:=hdq hmm;clear hs1 hz1 hS hjl hcn hmm hrl hre HC HG;cases rl
   ·cases g
    ·go_wp2_with (first|(go_at_call 121;refine (jL _ _ _ _ _ _ z3 zs false _ bR.out HS.out LK.out).mono ?_;rintro e w1 ⟨rfl,q1,rfl⟩)|(go_at_call 38;refine (dR _ _ _ _ _ _ z3 zs re _ (bR.out.drewN _) (HS.out.drewN _) nE.out).mono ?_;rintro e w1 ⟨rfl,q2,rfl⟩));go_roundw
     case rel=>exact ⟨j+1,c,re,by omega,by omega,by go_num,by go_num,rfl,qj.out,uy.out.trans smp,(by obtain ⟨q,hq⟩:=HQ.out;exact ⟨q+(q1+q2),by rw [hq,World.drewN_drewN]⟩)⟩
     case measure=>simp [intOf];omega
    ·go_wp2_with (first|(go_at_call 121;refine (jL _ _ _ _ _ _ z3 zs false _ bR.out HS.out LK.out).mono ?_;rintro e w1 ⟨rfl,q1,rfl⟩));go_roundw
     case rel=>exact ⟨j+1,c,true,by omega,by omega,by go_num,by go_num,rfl,qj.out,uy.out.trans smp,(by obtain ⟨q,hq⟩:=HQ.out;exact ⟨q+q1,by rw [hq,World.drewN_drewN]⟩)⟩
     case measure=>simp [intOf];omega
   ·cases g
    ·go_wp2_with (first|(go_at_call 121;refine (jL _ _ _ _ _ _ z3 zs true _ bR.out HS.out LK.out).mono ?_;rintro e w1 ⟨rfl,q1,rfl⟩)|(go_at_call 38;refine (dR _ _ _ _ _ _ z3 zs re _ (bR.out.drewN _) (HS.out.drewN _) nE.out).mono ?_;rintro e w1 ⟨rfl,q2,rfl⟩));go_roundw
     case rel=>exact ⟨j+1,c+1,re,by omega,by omega,by go_num,by go_num,rfl,qj.out,uy.out.trans smp,(by obtain ⟨q,hq⟩:=HQ.out;exact ⟨q+(q1+q2),by rw [hq,World.drewN_drewN]⟩)⟩
     case measure=>simp [intOf];omega
    ·go_wp2_with (first|(go_at_call 121;refine (jL _ _ _ _ _ _ z3 zs true _ bR.out HS.out LK.out).mono ?_;rintro e w1 ⟨rfl,q1,rfl⟩));go_roundw
     case rel=>exact ⟨j+1,c+1,true,by omega,by omega,by go_num,by go_num,rfl,qj.out,uy.out.trans smp,(by obtain ⟨q,hq⟩:=HQ.out;exact ⟨q+q1,by rw [hq,World.drewN_drewN]⟩)⟩
     case measure=>simp [intOf];omega
  ·have hfin:(nums xs).take j=nums xs:=tol (by rw [nums_length,HA.out.1];omega);rw [hfin] at HC HG;clear hfin;go_wp2;go_ret2;exact ⟨by rw [HC.out,HG.out];rfl,HQ.out⟩

end
section
theorem z42 {P:Prop} (h:P:=by
 intro x hx;rcases map1 hx with hx|hx
 ·exact mE.out x hx
 ·rw [msg hx];exact gM.out):P:=h
open Go.RowKit Tri

def alk (w w':World) (e:Ending) (l:LLI):Prop :=
 ∃a n c ys,e=.returned (.slice a n c)/\Ws w' a n c ys/\nums ys=l/\(a=none->c=0)/\Below w.heap.size w w'
theorem alm (w:World):(w.alloc (.cells #[.slice none 0 0] 51)).ownsRow w.heap.size 51 1 (.slice (some ⟨w.heap.size,0,none⟩) 1 1) 1 (vals [Wd.no]) :=
 World.ownsRow_lit (base:=w.heap.size) (e:=51) (size:=1) w #[.slice none 0 0] 1 lrf (by unfold maxLen;omega) smp
theorem Pm (a:OAd) (n cap:Nat) (xs:List Wd) (w:World) (hs:Ws w a n cap xs) (_hnil:a=none->cap=0) (hn:n<=10000) (hr:aM (nums xs)) :
 Calls Tryz.prog 74 #[.slice a n cap] w fun e w'=>alk w w' e (begs (nums xs)):=by
 have hnc:=hs.2.1;have hcm:=hs.2.2.1;unfold maxLen at hcm;have HS:=hdq hs;have HR:=hdq hr;have HL:Hid ((nums xs).length=n):=by show _=_;rw [nums_length,hs.1]
 have HO0:=hdq (alm w);have HB0:∀o,Hid (Below w.heap.size w (w.alloc o)):=fun o=>(Below.refl _ w).alloc lrf o;clear hs hr _hnil;go_enter Tryz.func74,Tryz.ntmps74;go_wp2;go_loopw [3,4] (fun ov ix wr=>∃(p N:Nat) (a1:OAd) (c1:Nat) (outs:List Wd),p<=20/\ov=.slice a1 N c1/\ix=.int .i64 ((p:Int)+1)/\N<=1+p*n/\Hid (a1=none->c1=0)/\Hid (wr.ownsRow w.heap.size 51 1 (.slice a1 N c1) N (vals outs))/\Hid (∀x∈outs,x.Good w)/\Hid (nums outs=upto (nums xs) p)/\Hid (Below w.heap.size w wr)) (fun _ ix _=>21-(intOf ix).toNat)
 case atStart=>exact ⟨0,1,_,_,[Wd.no],Nat.zero_le _,rfl,rfl,by omega,(fun h=>by cases h),HO0.out,(by show ∀x∈[Wd.no],x.Good w;intro x hx;rw [msg hx];exact Wd.no_good w),rfl,(HB0 _).out⟩
 case round =>
  obtain ⟨p,N,a1,c1,outs,hp,rfl,rfl,hN,fu,HOW,jV,qB,ai⟩:=hrel;by_cases hlt:p<20
  ·have bB:(p:Int)+1<=20:=omg
   have hNM:N<=200001:=by
    have:p*n<=20*10000:=Nat.mul_le_mul omg hn;omega
   go_wp2;generalize wr=wo at *;go_loopw [5,6] (fun lv ix wr=>∃(i L:Nat) (a2:OAd) (c2:Nat) (ls:List Wd),i<=n/\lv=.slice a2 L c2/\ix=.int .i64 (i:Int)/\L<=i/\Hid (a2=none->c2=0)/\Hid (wr.ownsRow wo.heap.size 51 1 (.slice a2 L c2) L (vals ls))/\Hid (∀x∈ls,x.Good w)/\Hid (nums ls=level ((nums xs).take i) (p+1))/\Hid (Below wo.heap.size wo wr)) (fun _ ix _=>n-(intOf ix).toNat)
   case atStart=>exact ⟨0,0,none,0,[],Nat.zero_le _,rfl,rfl,Nat.le_refl _,(fun _=>rfl),⟨rfl,.inl ⟨rfl,rfl⟩⟩,(by show ∀x∈([]:List Wd),x.Good w;simp),rfl,Below.refl _ _⟩
   case round =>
    obtain ⟨i,L,a2,c2,ls,hi,rfl,rfl,hL,Tf,lN,mE,iX,bE⟩:=hrel;have aN:Hid (Below w.heap.size w wr):=ai.out.trans (bE.out.mono ai.out.size);by_cases hli:i<n
    ·obtain ⟨b1,o1,za,zn,zc,z,rfl,hb1,hgd,Hq,nQ,hz⟩:=HS.out.one i hli;have hcl:wr.cell? ⟨b1,o1+i,none⟩=some (.slice za zn zc):=by rw [aN.out.cell (p:=⟨b1,o1+i,none⟩) hb1];exact Hq
     have hzl:=nQ.1;have ZB:=nQ.2.1;have EM:=nQ.2.2.1;unfold maxLen at EM;have LM:=hdq nQ;have dH:Hid (Sl .i64 wr za zn zc z):=nQ.below aN.out lrf;have lT:=hdq (VC (n:=p+1) HR.out (by rw [HL.out];exact hli) hz);have atT:(i:Int)<(n:Int):=omg
     have vK:Hid ((level ((nums xs).take i) (p+1)).length=L):=by
      show _=_;rw [<-iX.out,nums_length];have:=lN.out.1;unfold vals at this;rw [List.length_map] at this;omega
     clear hgd Hq nQ hz;have qH:Hid (∀q,Below wo.heap.size wo (wr.drewN q)):=fun q=>below_drewN bE.out q;by_cases c1:p+1<=z.length
     ·have c1i:(zn:Int)>=(p:Int)+1:=omg;have Et:decide ((zn:Int)>=(p:Int)+1)=true:=decide_eq_true c1i;rw [if_pos c1] at lT;obtain ⟨zb,zo,rfl,_,_⟩:=dH.out.at omg;have sG:Hid (Wd.Good wr ⟨some ⟨zb,zo,none⟩,p+1,zc,z.take (p+1)⟩):=dH.out.first (p+1) omg
      have gM:Hid (Wd.Good w ⟨some ⟨zb,zo,none⟩,p+1,zc,z.take (p+1)⟩):=LM.out.first (p+1) omg
      have htn:((p:Int)+1).toNat=p+1:=omg;have hp1:(0:Int)<=(p:Int)+1:=omg;have hpc:(p:Int)+1<=(zc:Int):=omg;rw [vK.out] at lT;clear c1i
      cases L with
      | zero =>
        have Tg:Hid (level ((nums xs).take (i+1)) (p+1)=level ((nums xs).take i) (p+1)++[z.take (p+1)]):=by
         have h:=lT.out;rw [if_pos (.inl rfl)] at h;exact h
        have d2:(((0:Nat):Int)==0)=true:=by decide
        clear lT c1;go_wp2;go_quiet (fail)
        go_wp2_with (at_builtin;refine Dq rfl (.tmp 46) (.tmp 53) rfq wo.heap.size _ 0 ls rfq (World.ownsRow.alloc lN.out _) (some ⟨wr.heap.size,0,none⟩) 1 1 [⟨some ⟨zb,zo,none⟩,p+1,zc,z.take (p+1)⟩] rfq (Ws.newc [⟨some ⟨zb,zo,none⟩,p+1,zc,z.take (p+1)⟩] (by intro x hx;rw [msg hx];exact sG.out) (by simp [maxLen]) rfl rfl rfl) (fun h=>by cases h) (0+1) rfl omg (by first|exact (bE.out.alloc bE.out.size _).size|exact Nat.le_trans bE.out.size smp) ?_
                     intro a3 c3 w3 hown3 hb3 hnil3;have dU:=hdq hown3;have mP:=hdq hnil3;have HB3:Hid (Below wo.heap.size wo w3):=((qH.out _).alloc (qH.out _).size _).trans hb3
                     clear hown3 hb3 hnil3)
        go_roundw
        case rel =>
         refine ⟨i+1,0+1,a3,c3,ls++[Wd.mk (some ⟨zb,zo,none⟩) (p+1) zc (z.take (p+1))],by omega,rfl,by go_num,by omega,mP.out,dU.out,?_,?_,HB3.out⟩
         ·exact z42
         ·show _=_;rw [nums_app,iX.out];exact Tg.out.symm
        case measure=>simp [intOf];omega
      | succ L =>
        have rf:Hid (Ws wr a2 (L+1) c2 ls):=Ws.of_owns lN.out (fun x hx=>(mE.out x hx).below aN.out lrf) (by have:=lN.out.1;unfold vals at this;rw [List.length_map] at this;omega);obtain ⟨b3,o3,la,ln,lc,lz,rfl,hb3,apY,acj,ack,hz3⟩:=rf.out.one L omg;have EA:=rf.out.2.1;have hcm2:=rf.out.2.2.1;unfold maxLen at hcm2;have Ad:=hdq ack;have HZ3:Hid ((level ((nums xs).take i) (p+1)).getD (L+1-1) []=lz):=by show _=_;rw [<-iX.out,Nat.add_sub_cancel];exact hz3
        obtain ⟨q,hq⟩:∃q,decide (lz=z.take (p+1))=q:=⟨_,rfl⟩;have HQ:=hdq hq;have d2:(((L+1:Nat):Int)==0)=false:=by simp;omega
        have d2':((L:Int)+1==0)=false:=by simp;omega
        have hpw:IntKind.i64.wrap (((L+1:Nat):Int)-1)=(L:Int):=by rw [IntKind.wrap_i64];omega
        have YW:IntKind.i64.wrap ((L:Int)+1-1)=(L:Int):=by rw [IntKind.wrap_i64];omega
        have hL0:(0:Int)<=(L:Int):=omg;have hLn:(L:Int)<((L+1:Nat):Int):=omg;have atV:(L:Int)<(L:Int)+1:=omg;clear apY ack hz3 hq c1 rf;cases q
        ·have Tg:Hid (level ((nums xs).take (i+1)) (p+1)=level ((nums xs).take i) (p+1)++[z.take (p+1)]):=by
          have h:=lT.out;rw [HZ3.out,if_pos (.inr (of_decide_eq_false HQ.out))] at h;exact h
         clear lT;go_wp2;go_quiet ((go_at_call 38;exact Calls.quiet_of (dR la (some ⟨zb,zo,none⟩) ln (p+1) lc zc lz (z.take (p+1)) false _ (Ad.out.drewN _) (Sl.drewN sG.out _) HQ.out)))
         go_wp2_with (at_builtin;refine Dq rfl (.tmp 46) (.tmp 53) rfq wo.heap.size _ (L+1) ls rfq (World.ownsRow.alloc lN.out _) (some ⟨wr.heap.size,0,none⟩) 1 1 [⟨some ⟨zb,zo,none⟩,p+1,zc,z.take (p+1)⟩] rfq (Ws.newc [⟨some ⟨zb,zo,none⟩,p+1,zc,z.take (p+1)⟩] (by intro x hx;rw [msg hx];exact sG.out) (by simp [maxLen]) rfl rfl rfl) (fun h=>by cases h) (L+1+1) rfl omg (by first|exact (bE.out.alloc bE.out.size _).size|exact Nat.le_trans bE.out.size smp) ?_
                      intro a3 c3 w3 hown3 hb3 hnil3;have dU:=hdq hown3;have mP:=hdq hnil3;have HB3:Hid (Below wo.heap.size wo w3):=((qH.out _).alloc (qH.out _).size _).trans hb3
                      clear hown3 hb3 hnil3)
         go_roundw
         case rel =>
          refine ⟨i+1,L+1+1,a3,c3,ls++[Wd.mk (some ⟨zb,zo,none⟩) (p+1) zc (z.take (p+1))],by omega,rfl,by go_num,by omega,mP.out,dU.out,?_,?_,HB3.out⟩
          ·exact z42
          ·show _=_;rw [nums_app,iX.out];exact Tg.out.symm
         case measure=>simp [intOf];omega
        ·have Ti:Hid (level ((nums xs).take (i+1)) (p+1)=level ((nums xs).take i) (p+1)):=by
          have h:=lT.out;rw [HZ3.out,if_neg (by rw [of_decide_eq_true HQ.out];simp)] at h;exact h
         clear lT;go_wp2;go_quiet ((go_at_call 38;exact Calls.quiet_of (dR la (some ⟨zb,zo,none⟩) ln (p+1) lc zc lz (z.take (p+1)) true _ (Ad.out.drewN _) (Sl.drewN sG.out _) HQ.out)));go_wp2;go_roundw
         case rel =>
          refine ⟨i+1,L+1,_,c2,ls,by omega,rfl,by go_num,by omega,Tf.out,lN.out,mE.out,?_,qH.out _⟩;show _=_;rw [iX.out];exact Ti.out.symm
         case measure=>simp [intOf];omega
     ·have Et:decide ((zn:Int)>=(p:Int)+1)=false:=decide_eq_false omg
      have Ti:Hid (level ((nums xs).take (i+1)) (p+1)=level ((nums xs).take i) (p+1)):=by
       have h:=lT.out;rw [if_neg c1] at h;exact h
      clear lT c1;go_wp2;go_quiet (fail);go_wp2;go_roundw
      case rel =>
       refine ⟨i+1,L,_,c2,ls,by omega,rfl,by go_num,by omega,Tf.out,lN.out,mE.out,?_,qH.out _⟩;show _=_;rw [iX.out];exact Ti.out.symm
      case measure=>simp [intOf];omega
    ·obtain rfl:n=i:=omg
     go_wp2_with (at_builtin;refine Dq rfl (.tmp 55) (.tmp 56) rfq w.heap.size _ N outs rfq (ownsRow_below HOW.out bE.out lrf) a2 L c2 ls rfq (Ws.of_owns lN.out (fun x hx=>(mE.out x hx).below aN.out lrf) (by have:=lN.out.1;unfold vals at this;rw [List.length_map] at this;omega)) Tf.out (N+L) rfl omg aN.out.size ?_
                  intro a3 c3 w3 hown3 hb3 hnil3;have dU:=hdq hown3;have mP:=hdq hnil3;have HB3:Hid (Below w.heap.size w w3):=aN.out.trans hb3
                  clear hown3 hb3 hnil3)
     go_roundw
     case rel =>
      refine ⟨p+1,N+L,a3,c3,outs++ls,by omega,rfl,by go_num,?_,mP.out,dU.out,?_,?_,HB3.out⟩
      ·rw [Nat.succ_mul];omega
      ·intro x hx;rcases map1 hx with hx|hx
       ·exact jV.out x hx
       ·exact mE.out x hx
      ·show _=_;have h:=iX.out;rw [tol (by rw [HL.out];exact Nat.le_refl _)] at h;rw [nums_app,qB.out,h,VE]
     case measure=>simp [intOf];omega
  ·obtain rfl:p=20:=omg;have bB:¬(((20:Nat):Int)+1<=20):=omg;go_wp2;go_ret;exact ⟨a1,N,c1,outs,rfl,Ws.of_owns HOW.out (fun x hx=>(jV.out x hx).below ai.out lrf) (by have:=HOW.out.1;unfold vals at this;rw [List.length_map] at this;omega),qB.out,fu.out,ai.out⟩

theorem aln (a b:OAd) (n m cap cap2:Nat) (xs:List Wd) (zs:LIn) (r:Bool) (w:World) (ha:Ws w a n cap xs) (hb:Sl .i64 w b m cap2 zs) (h:decide (zs∈nums xs)=r) :
 Calls Tryz.prog 120 #[.slice a n cap,.slice b m cap2] w fun e w'=>e=.returned (.bool r)/\∃q,w'=w.drewN q:=by
 have HA:=hdq ha;have HB:=hdq hb;have HH:=hdq h;clear ha hb h;go_enter Tryz.func120,Tryz.ntmps120;go_wp2_with fail;refine (alj a b n m cap cap2 xs zs _ r w HA.out HB.out rfl HH.out).mono ?_;rintro e w1 ⟨rfl,hq⟩;have HQ:=hdq hq;clear hq;go_wp2;go_ret;exact ⟨rfl,HQ.out⟩

end
section
open Go.RowKit

end
section
open Go.RowKit

end
section
open Go.RowKit

theorem JM (a:OAd) (n cap:Nat) (zs:LIn) (r:Bool) (w:World) (hs:Sl .i64 w a n cap zs) (hr:Wl.fit zs=r) :
 Calls Tryz.prog 155 #[.slice a n cap] w fun e w'=>e=.returned (.bool r)/\w'=w:=by
 have hl:=hs.1;have hnc:=hs.2.1;have hcm:=hs.2.2.1;unfold maxLen at hcm;have hr2:(decide (1<=n)&&decide (n<=20)&&zs.all Wl.may&&!decide (zs.getD 0 0=35))=r:=by rw [<-hr,<-hl];rfl
 have HS:=hdq hs;have HR:=hdq hr2;have HL:=hdq hl;clear hs hr hr2 hl;go_enter Tryz.func155,Tryz.ntmps155;go_wp2;go_loopw [3] (fun ix wr=>∃j:Nat,j<=n/\ix=.int .i64 (j:Int)/\Hid ((zs.take j).all Wl.may=true)/\wr=w) (fun ix _=>n-(intOf ix).toNat)
 case atStart=>exact ⟨0,Nat.zero_le _,rfl,by first|rfl|trivial,rfl⟩
 case round =>
  obtain ⟨j,hj,rfl,HT,rfl⟩:=hrel;by_cases hlt:j<n
  ·obtain ⟨b,off,rfl,hb,hc⟩:=HS.out.at omg;have hx:=hc j hlt;have hwf:=HS.out.2.2.2.1 (zs.getD j 0) (by rw [gdq,geg (by rw [HL.out];exact hlt),Option.getD_some];exact List.getElem_mem _);obtain ⟨z,hz⟩:∃z,zs.getD j 0=z:=⟨_,rfl⟩;rw [hz] at hx hwf
   have hb0:-9223372036854775808<=z/\z<=9223372036854775807:=by
    simp [Lit.wf,IntKind.min,IntKind.max,IntKind.signed,IntKind.bits] at hwf;omega
   have HB0:=hdq hb0;have HZ:=hdq hz;have bB:(j:Int)<(n:Int):=omg
   have oV:Hid (∀q:Bool,Wl.may z=false->r=false):=fun _ h=>by
    have h1:zs.all Wl.may=false:=VR (by rw [HL.out];exact hlt) (by rw [HZ.out];exact h);rw [<-HR.out,h1];simp
   clear hc hz hwf hb0;cases hg:Utf.good z
   ·have uz:Wl.may z=false:=by unfold Wl.may;rw [hg];rfl
    go_wp2_with (go_at_call 83;refine (tq z _ HB0.out.1 HB0.out.2).mono ?_;rintro e w1 ⟨rfl,rfl⟩;rw [hg]);obtain rfl:r=false:=oV.out true uz;go_ret;exact ⟨rfl,rfl⟩
   ·by_cases h9:z=9
    ·subst h9;have uz:Wl.may 9=false:=by decide
     go_wp2_with (go_at_call 83;refine (tq _ _ HB0.out.1 HB0.out.2).mono ?_;rintro e w1 ⟨rfl,rfl⟩;rw [hg]);obtain rfl:r=false:=oV.out true uz;go_ret;exact ⟨rfl,rfl⟩
    ·by_cases h10:z=10
     ·subst h10;have uz:Wl.may 10=false:=by decide
      go_wp2_with (go_at_call 83;refine (tq _ _ HB0.out.1 HB0.out.2).mono ?_;rintro e w1 ⟨rfl,rfl⟩;rw [hg]);obtain rfl:r=false:=oV.out true uz;go_ret;exact ⟨rfl,rfl⟩
     ·by_cases h32:z=32
      ·subst h32;have uz:Wl.may 32=false:=by decide
       go_wp2_with (go_at_call 83;refine (tq _ _ HB0.out.1 HB0.out.2).mono ?_;rintro e w1 ⟨rfl,rfl⟩;rw [hg]);obtain rfl:r=false:=oV.out true uz;go_ret;exact ⟨rfl,rfl⟩
      ·have uz:Wl.may z=true:=by unfold Wl.may;rw [hg];simp [h9,h10,h32]
       have e9:(z==9)=false:=by simpa using h9
       have e10:(z==10)=false:=by simpa using h10
       have e32:(z==32)=false:=by simpa using h32
       have apZ:=hdq uz;clear uz;go_wp2_with (go_at_call 83;refine (tq z _ HB0.out.1 HB0.out.2).mono ?_;rintro e w1 ⟨rfl,rfl⟩;rw [hg]);go_roundw
       case rel=>exact ⟨j+1,by omega,by go_num,VQ HT.out (by rw [HL.out];exact hlt) (by rw [HZ.out];exact apZ.out),trivial⟩
       case measure=>simp [intOf];omega
  ·obtain rfl:j=n:=omg
   have HA:Hid (zs.all Wl.may=true):=by
    have h:=HT.out;rw [tol (by rw [HL.out];exact Nat.le_refl _)] at h;exact h
   have HR2:Hid ((decide (1<=j)&&decide (j<=20)&&!decide (zs.getD 0 0=35))=r):=by
    have h:=HR.out;rw [HA.out,Bool.and_true] at h;exact h
   have hji:¬(j:Int)<(j:Int):=omg;rcases Nat.eq_zero_or_pos j with h0|hp
   ·subst h0;obtain rfl:r=false:=by rw [<-HR2.out];rfl
    go_wp2;go_ret;exact ⟨rfl,rfl⟩
   ·have hp1:(1:Int)<=(j:Int):=omg;by_cases h20:j<=20
    ·have Qg:(j:Int)<=20:=omg;have h0i:(0:Int)<(j:Int):=omg;obtain ⟨b,off,rfl,hb,hc⟩:=HS.out.at hp;have hx:wr.cell? ⟨b,off,none⟩=some (.int .i64 (zs.getD 0 0)):=hc 0 hp;have h3:=HR2.out;rw [decide_eq_true (show 1<=j from hp),decide_eq_true h20,Bool.true_and,Bool.true_and] at h3;obtain ⟨z,hz⟩:∃z,zs.getD 0 0=z:=⟨_,rfl⟩;rw [hz] at hx h3;clear hc hz;by_cases hh:z=35
     ·subst hh;obtain rfl:r=false:=by rw [<-h3];rfl
      clear h3;go_wp2;go_ret;exact ⟨rfl,rfl⟩
     ·have hzz:(z != 35)=true:=by simpa using hh
      obtain rfl:r=true:=by rw [<-h3,decide_eq_false hh];rfl
      clear h3 hh;go_wp2;go_ret;exact ⟨rfl,rfl⟩
    ·have Qg:¬(j:Int)<=20:=omg;obtain rfl:r=false:=by rw [<-HR2.out,decide_eq_false h20];simp
     go_wp2;go_ret;exact ⟨rfl,rfl⟩

end
section
open Go.RowKit

theorem alo (a:OAd) (n cap:Nat) (xs:List Wd) (p:LIn × Int) (w:World) (hs:Ws w a n cap xs) (hp:Wl.write (nums xs)=p) :
 Calls Tryz.prog 119 #[.slice a n cap] w fun e w'=>VW w w' e p:=by
 have hnc:=hs.2.1;have hcm:=hs.2.2.1;unfold maxLen at hcm;have HS:=hdq hs;have HL:Hid ((nums xs).length=n):=by show _=_;rw [nums_length,hs.1]
 unfold Wl.write at hp;rw [HL.out] at hp;have HP:=hdq hp;clear hs hp;by_cases uf:300<n
 ·have hp:=HP.out;rw [if_pos uf] at hp;subst hp;have Qh:(300:Int)<(n:Int):=omg;clear HP;go_enter Tryz.func119,Tryz.ntmps119;go_wp2;go_ret2;exact ⟨none,0,rfl,Sl.nil,fun _=>rfl,Below.refl _ _⟩
 ·have Qh:¬(300:Int)<(n:Int):=omg
  have eO:Hid ((if (nums xs).all Wl.fit=true/\Wl.rises (nums xs)=true then (iP (nums xs),0) else ([],90))=p):=by
   have hp:=HP.out;rw [if_neg uf] at hp;exact hp
  have HPF:Hid ((nums xs).all Wl.fit=false->p=([],90)):=fun h=>by rw [<-eO.out,h];simp
  have wU:Hid (Wl.rises (nums xs)=false->p=([],90)):=fun h=>by rw [<-eO.out,h];simp
  clear HP;go_enter Tryz.func119,Tryz.ntmps119;go_wp2;go_loopw [4,5] (fun ov ix wr=>∃(j:Nat) (a1:OAd) (L c1:Nat) (outs:LIn),j<=n/\ov=.slice a1 L c1/\ix=.int .i64 (j:Int)/\L<=81*j/\Hid (iP ((nums xs).take j)=outs)/\Hid (((nums xs).take j).all Wl.fit=true)/\Hid (∀i,i+1<j->lessL ((nums xs).getD i []) ((nums xs).getD (i+1) [])=true)/\Hid (wr.ownsRow w.heap.size 5 1 (.slice a1 L c1) L (u8s outs))/\Hid (a1=none->c1=0)/\Hid (Below w.heap.size w wr)) (fun _ ix _=>n-(intOf ix).toNat)
  case atStart=>exact ⟨0,none,0,0,[],Nat.zero_le _,rfl,rfl,Nat.zero_le _,(by show iP _=_;simp [iP]),(by first|rfl|trivial),fun i hi=>by omega,⟨rfl,.inl ⟨rfl,rfl⟩⟩,fun _=>rfl,Below.refl _ _⟩
  case round =>
   obtain ⟨j,a1,L,c1,outs,hj,rfl,rfl,hL,HO,HF,HR,HOWN,fu,ai⟩:=hrel;by_cases hlt:j<n
   ·obtain ⟨b1,o1,za,zn,zc,z,rfl,hb1,hgd,hcl,hsl,hz⟩:=(HS.out.below ai.out lrf).one j hlt;have hb1':b1<wr.heap.size:=hb1;have xh:z∈nums xs:=by rw [<-hz,gdq,geg (by rw [HL.out];exact hlt),Option.getD_some];exact List.getElem_mem _
    have HT:Hid ((nums xs).take (j+1)=(nums xs).take j++[z]):=NJ (by rw [<-nums_length,HL.out];exact hlt) hz;have dH:=hdq hsl;have HZ:=hdq hz;have bB:(j:Int)<(n:Int):=omg;cases hq:Wl.fit z
    ·have HQ:=hdq hq;have hall:(nums xs).all Wl.fit=false:=by rw [List.all_eq_false];exact ⟨z,xh,by rw [hq];decide⟩
     obtain rfl:p=([],90):=HPF.out hall;clear hall hq xh hgd hsl hz;go_wp2_with (go_at_call 155;refine (JM za zn zc z false _ dH.out HQ.out).mono ?_;rintro e w1 ⟨rfl,rfl⟩);go_quiet (fail);go_wp2;go_ret2;exact ⟨none,0,rfl,Sl.nil,fun _=>rfl,below_drewN ai.out _⟩
    ·obtain ⟨f1,f2,f3,f4,f5⟩:=Wl.fit_parts hq;have HG:=hdq f3;have HQ:=hdq hq;obtain ⟨bs,hbs⟩:∃bs,Utf.put z=bs:=⟨_,rfl⟩;obtain ⟨m,hm⟩:∃m,bs.length=m:=⟨_,rfl⟩;have hml:m<=80:=by rw [<-hm,<-hbs];have:=Utf.Dk z;omega
     have Kj:zn<=17592186044416:=by have:=hsl.1;omega
     have bM:=hdq hbs;have HM:=hdq hm
     have Tj:Hid (((nums xs).take (j+1)).all Wl.fit=true):=by
      show _=_;rw [HT.out,List.all_append,HF.out];simp [HQ.out]
     have acm:∀W,Below w.heap.size w W->Sl .i64 W za zn zc z:=fun W hW=>by
      have h:=(HS.out.below hW lrf).one j hlt;obtain ⟨b2,o2,za2,zn2,zc2,z2,e2,hb2,hgd2,Tk,hsl2,hz2⟩:=h;rw [hgd] at hgd2;simp only [Wd.mk.injEq] at hgd2;obtain ⟨rfl,rfl,rfl,rfl⟩:=hgd2;exact hsl2
     have eY:∀W,(∃q,W=wr.drewN q)->W.ownsRow w.heap.size 5 1 (.slice a1 L c1) L (u8s outs):=fun W hW=>by
      obtain ⟨q,rfl⟩:=hW;exact ownsRow_below HOWN.out (below_drewN (Below.refl _ _) q) lrf
     rcases Nat.eq_zero_or_pos j with h0|hp
     ·subst h0;have Tm:Hid (∀i,i+1<0+1->lessL ((nums xs).getD i []) ((nums xs).getD (i+1) [])=true):=fun i hi=>by omega
      have hcl0:wr.cell? ⟨b1,o1,none⟩=some (.slice za zn zc):=hcl;have atZ:∀q,(wr.drewN q).cell? ⟨b1,o1,none⟩=some (.slice za zn zc):=fun _=>hcl;clear f1 f2 f3 f4 f5 xh hgd hsl hz hbs hm hq hcl;go_wp2_with (go_at_call 155;refine (JM za zn zc z true _ dH.out HQ.out).mono ?_;rintro e w1 ⟨rfl,rfl⟩);go_quiet (fail)
      go_wp2_with (first
       | (go_at_call 156;refine (Vq za zn zc z bs 0 _ (.inl ⟨HG.out,bM.out.symm,rfl⟩) (acm _ (aG ai.out ⟨_,rfl⟩)) Kj).mono ?_;rintro e w2 ⟨g,gc,rfl,hs2,hb2⟩;rw [HM.out] at hs2 ⊢;have HS2:=hdq hs2;have HB2:Hid (Below w.heap.size w w2):=(below_drewN ai.out _).trans (hb2.mono (below_drewN ai.out _).size);have bD:=hdq (ownsRow_below (eY _ ⟨_,rfl⟩) hb2 lrf);clear hs2 hb2)
       | (at_builtin;refine AO rfq (.tmp 50) (.tmp 51) rfq w.heap.size _ L outs rfq bD.out g m gc bs rfq HS2.out (L+m) rfl omg HB2.out.size ?_;intro a3 c3 w3 hown3 hb3 hnil3;have dU:=hdq hown3;have HB3:Hid (Below w.heap.size w w3):=HB2.out.trans hb3;clear hown3 hb3 hnil3)
       | (at_builtin;refine AO rfq (.tmp 52) (.tmp 53) rfq w.heap.size _ (L+m) (outs++bs) rfq (dU.out.alloc _) (some ⟨w3.heap.size,0,none⟩) 1 1 [10] rfq (Sl.newB [10] (by decide) (by unfold maxLen;simp) rfl rfl rfl) (L+m+1) rfl omg (by have:=HB3.out.size;rw [World.size_alloc];omega) ?_;intro a4 c4 w4 fK hb4 xk;have fA:=hdq fK;have zw:=hdq xk;have gm:Hid (Below w.heap.size w w4):=(HB3.out.alloc HB3.out.size _).trans hb4;clear fK hb4 xk))
      go_roundw
      case rel=>exact ⟨0+1,a4,L+m+1,c4,outs++bs++[10],by omega,rfl,by go_num,by omega,(by show _=_;rw [HT.out,NN,HO.out,bM.out]),Tj.out,Tm.out,fA.out,zw.out,gm.out⟩
      case measure=>simp [intOf];omega
     ·obtain ⟨p',rfl⟩:∃p',j=p'+1:=⟨j-1,by omega⟩;obtain ⟨b2,o2,ya,yn,yc,y,hb2,_,hgd2,Tk,hsl2,hz2⟩:=(HS.out.below ai.out lrf).one p' omg;simp only [sij,Addr.mk.injEq,and_true] at hb2;obtain ⟨rfl,rfl⟩:=hb2;have HSY:=hdq hsl2;have Ke:=hdq hz2;have hpos:(0:Int)<(p':Int)+1:=omg;have hpw:IntKind.i64.wrap ((p':Int)+1-1)=(p':Int):=by rw [IntKind.wrap_i64];omega
      have hpn:(p':Int)<(n:Int):=omg;have hp0:(0:Int)<=(p':Int):=omg;have hp1:(0:Int)<=(p':Int)+1:=omg;have htn:((p':Int)+1).toNat=p'+1:=omg;cases hle:lessL y z
      ·have hris:Wl.rises (nums xs)=false:=VU (i:=p') (by rw [HL.out];exact hlt) (by rw [hz2,hz];exact hle);obtain rfl:p=([],90):=wU.out hris;have iA:=hdq hle;clear f1 f2 f3 f4 f5 xh hgd hsl hz hbs hm hq hgd2 hsl2 hz2 hris hle;go_wp2_with (go_at_call 155;refine (JM za zn zc z true _ dH.out HQ.out).mono ?_;rintro e w1 ⟨rfl,rfl⟩);go_quiet ((go_at_call 121;exact Calls.quiet_of (jL ya za yn zn yc zc y z false _ (HSY.out.drewN _) (dH.out.drewN _) iA.out)));go_wp2;go_ret2;exact ⟨none,0,rfl,Sl.nil,fun _=>rfl,below_drewN ai.out _⟩
      ·have iA:=hdq hle
       have Tm:Hid (∀i,i+1<p'+1+1->lessL ((nums xs).getD i []) ((nums xs).getD (i+1) [])=true):=fun i hi=>by
        rcases Nat.lt_or_ge (i+1) (p'+1) with h|h
        ·exact HR.out i h
        ·obtain rfl:i=p':=omg;rw [Ke.out,HZ.out];exact iA.out
       clear f1 f2 f3 f4 f5 xh hgd hsl hz hbs hm hq hgd2 hsl2 hz2 hle;go_wp2_with (go_at_call 155;refine (JM za zn zc z true _ dH.out HQ.out).mono ?_;rintro e w1 ⟨rfl,rfl⟩);go_quiet ((go_at_call 121;exact Calls.quiet_of (jL ya za yn zn yc zc y z true _ (HSY.out.drewN _) (dH.out.drewN _) iA.out)))
       go_wp2_with (first
        | (go_at_call 156;refine (Vq za zn zc z bs 0 _ (.inl ⟨HG.out,bM.out.symm,rfl⟩) (acm _ (aG ai.out ⟨_,rfl⟩)) Kj).mono ?_;rintro e w2 ⟨g,gc,rfl,hs2,hb2⟩;rw [HM.out] at hs2 ⊢;have HS2:=hdq hs2;have HB2:Hid (Below w.heap.size w w2):=(below_drewN ai.out _).trans (hb2.mono (below_drewN ai.out _).size);have bD:=hdq (ownsRow_below (eY _ ⟨_,rfl⟩) hb2 lrf);clear hs2 hb2)
        | (at_builtin;refine AO rfq (.tmp 50) (.tmp 51) rfq w.heap.size _ L outs rfq bD.out g m gc bs rfq HS2.out (L+m) rfl omg HB2.out.size ?_;intro a3 c3 w3 hown3 hb3 hnil3;have dU:=hdq hown3;have HB3:Hid (Below w.heap.size w w3):=HB2.out.trans hb3;clear hown3 hb3 hnil3)
        | (at_builtin;refine AO rfq (.tmp 52) (.tmp 53) rfq w.heap.size _ (L+m) (outs++bs) rfq (dU.out.alloc _) (some ⟨w3.heap.size,0,none⟩) 1 1 [10] rfq (Sl.newB [10] (by decide) (by unfold maxLen;simp) rfl rfl rfl) (L+m+1) rfl omg (by have:=HB3.out.size;rw [World.size_alloc];omega) ?_;intro a4 c4 w4 fK hb4 xk;have fA:=hdq fK;have zw:=hdq xk;have gm:Hid (Below w.heap.size w w4):=(HB3.out.alloc HB3.out.size _).trans hb4;clear fK hb4 xk))
       go_roundw
       case rel=>exact ⟨p'+1+1,a4,L+m+1,c4,outs++bs++[10],by omega,rfl,by go_num,by omega,(by show _=_;rw [HT.out,NN,HO.out,bM.out]),Tj.out,Tm.out,fA.out,zw.out,gm.out⟩
       case measure=>simp [intOf];omega
   ·obtain rfl:j=n:=omg
    have HFA:Hid ((nums xs).all Wl.fit=true):=by
     have h:=HF.out;rw [tol (by rw [HL.out];exact Nat.le_refl _)] at h;exact h
    have zI:Hid (Wl.rises (nums xs)=true):=NM fun i hi=>HR.out i (by rw [HL.out] at hi;exact hi);obtain rfl:p=(iP (nums xs),0):=by rw [<-eO.out,HFA.out,zI.out];simp
    have iT:Hid (iP (nums xs)=outs):=by
     have h:=HO.out;rw [tol (by rw [HL.out];exact Nat.le_refl _)] at h;exact h
    have dX:Hid (outs.length=L):=by have h:=HOWN.out.1;unfold u8s at h;rw [List.length_map] at h;show _=_;omega
    go_wp2;go_ret2;refine ⟨a1,c1,?_,?_,fu.out,ai.out⟩
    ·show _=Ending.returned (.tuple #[.slice a1 (iP (nums xs)).length c1,.int .i64 0]);rw [iT.out,dX.out];rfl
    ·show Sl .u8 _ a1 (iP (nums xs)).length c1 (iP (nums xs));rw [iT.out,dX.out];refine Sl.of_owns HOWN.out ?_ dX.out;rw [<-iT.out];exact VX fun z hz=>(Wl.fit_parts (List.all_eq_true.1 HFA.out z hz)).2.2.1

end
section
theorem z43 {P:Prop} (h:P:=by
 refine ⟨k+1,m+1,a5,c5,by omega,by go_num,by omega,qG.out,?_,?_,?_,?_⟩
 ·show _=_;rw [heap_setCell_same _ _ _ _ _ _ HH7.out];rfl
 ·show World.ownsRow _ _ _ _ _ _ _;rw [sH.out];refine aU.out.kept (w':=w7.setCell ⟨w3.heap.size,1,none⟩ (.slice a5 (m+1) c5)) (row:=some w3.heap.size) ⟨rfl,rfl,rfl,by simp,fun k _ hk=>heap_setCell_other _ _ _ _ (fun e=>hk (by rw [e]))⟩ ?_
  cases aQ:(Value.slice a5 (m+1) c5).ownBlock with
  | none=>exact .inl rfl
  | some q=>exact .inr (fun e=>by have h1:=(aU.out.lt q aQ).1;have h2:=Option.some.inj e;omega)
 ·exact Below.setCell (p:=⟨w3.heap.size,1,none⟩) acr.out lrf _
 ·show _<=_
  have:=acs.out;simp;omega):P:=h
open Go.RowKit Tri

theorem alp (a:OAd) (n cap:Nat) (xs:List Wd) (g:List St × Int) (w:World) (hs:Ws w a n cap xs) (hnil:a=none->cap=0) (hg:made (nums xs)=g) :
 Calls Tryz.prog 72 #[.slice a n cap] w fun e w'=>IV w w' e g:=by
 have hnc:=hs.2.1;have hcm:=hs.2.2.1;unfold maxLen at hcm;have HS:=hdq hs;have fu:=hdq hnil;have HG:=hdq hg;have zf:Hid ((nums xs).length=n):=by show _=_;rw [nums_length,hs.1]
 obtain ⟨⟨bs,er⟩,hp⟩:∃p,Wl.write (nums xs)=p:=⟨_,rfl⟩;have HP:=hdq hp;have hmx:Tryz.prog.follows .mixedOrders=true:=krf;have gq:=hdq hmx;clear hs hnil hg hp hmx;go_enter Tryz.func72,Tryz.ntmps72;go_wp2_with fail;refine (alo a n cap xs _ w HS.out HP.out).mono ?_;rintro e v1 ⟨pa0,pc0,rfl,-,-,hb1⟩;have HB1:Hid (Below w.heap.size w v1):=hb1;obtain ⟨bl,hbl⟩:∃m,bs.length=m:=⟨_,rfl⟩;simp only [hbl];clear hb1 hbl;by_cases her:er=0
 ·subst her;have mJ:=Wl.AU (nums xs);rw [HP.out] at mJ
  have hw3:(nums xs).length<=300/\(∀z∈nums xs,Wl.fit z=true)/\aM (nums xs):=by
   rcases mJ with ⟨_,h1,h2,h3,_⟩|⟨h,_⟩
   ·exact ⟨h1,h2,h3⟩
   ·simp at h
  have Qi:=hdq hw3.2.2;have ug:n<=300:=by rw [<-zf.out];exact hw3.1
  have rH:Hid ((make (nums xs),(0:Int))=g):=by
   show _=_;rw [<-HG.out];unfold made;rw [HP.out];simp
  have Qj:Hid (Tri.Short (nums xs)):=fun z hz=>(Wl.fit_parts (hw3.2.1 z hz)).2.1;clear mJ hw3;go_wp2_with fail;refine (Pm a n cap xs v1 (HS.out.below HB1.out lrf) fu.out omg Qi.out).mono ?_;rintro e v2 ⟨ba,N,bc,ys,rfl,hys,hyn,-,hb2⟩;have HY:=hdq hys;have HB2:Hid (Below w.heap.size w v2):=HB1.out.trans (hb2.mono HB1.out.size);have xU:=hdq hyn;have dD:Hid ((begs (nums xs)).length=N):=by show _=_;rw [<-hyn,nums_length,hys.1]
  have hN:N<=6001:=by have h:=Dt (nums xs);rw [dD.out,zf.out] at h;omega
  have hNc:=hys.2.1;have aqb:=hys.2.2.1;unfold maxLen at aqb;clear hys hyn hb2;go_wp2;go_loopw [7,8] (fun ov ix wr=>∃(i:Nat) (a1:OAd) (c1:Nat) (outs:List Sw),i<=N/\ov=.slice a1 i c1/\ix=.int .i64 (i:Int)/\Hid (a1=none->c1=0)/\Hid (wr.ownsRow v2.heap.size 58 2 (.slice a1 i c1) i (bT outs))/\Hid (∀x∈outs,x.Good wr)/\Hid (∀x∈outs,x.Front)/\Hid (sts outs=(make (nums xs)).take i)/\Hid (Below v2.heap.size v2 wr)) (fun _ ix _=>N-(intOf ix).toNat)
  case atStart=>exact ⟨0,none,0,[],Nat.zero_le _,rfl,rfl,(fun _=>rfl),⟨rfl,.inl ⟨rfl,rfl⟩⟩,(by show ∀x∈([]:List Sw),x.Good v2;simp),(by show ∀x∈([]:List Sw),x.Front;simp),rfl,Below.refl _ _⟩
  case round =>
   obtain ⟨i,a1,c1,outs,hi,rfl,rfl,Br,HOW,jV,HFR,HST,ai⟩:=hrel;by_cases hlt:i<N
   ·obtain ⟨b1,o1,pa,pn,pc,pz,rfl,hb1,hgd,hcl,hsl,hz⟩:=HY.out.one i hlt;have hcl':wr.cell? ⟨b1,o1+i,none⟩=some (.slice pa pn pc):=by rw [ai.out.cell (p:=⟨b1,o1+i,none⟩) hb1];exact hcl
    have eB:Hid (Sl .i64 wr pa pn pc pz):=hsl.below ai.out lrf;have fH:=hdq hsl.1;have jT:Hid (∀W,Below v2.heap.size v2 W->W.cell? ⟨b1,o1+i,none⟩=some (.slice pa pn pc)):=fun W hW=>by rw [hW.cell (p:=⟨b1,o1+i,none⟩) hb1];exact hcl
    have Tn:=hsl.2.2.1;have aua:=hsl.2.1;unfold maxLen at Tn;have HPZ:Hid ((begs (nums xs)).getD i []=pz):=by show _=_;rw [<-xU.out];exact hz
    have aub:pn<=20:=by rw [<-fH.out];exact IW Qj.out (by rw [<-HPZ.out,gdq,geg (by rw [dD.out];exact hlt),Option.getD_some];exact List.getElem_mem _)
    obtain ⟨fin,hfin⟩:∃f,decide (pz∈nums xs)=f:=⟨_,rfl⟩;have aW:=hdq hfin;have bB:(i:Int)<(N:Int):=omg;have aN:Hid (Below w.heap.size w wr):=HB2.out.trans (ai.out.mono HB2.out.size);clear hgd hcl hsl hz hfin;go_wp2_with fail;refine (aln a pa n pn cap pc xs pz fin wr (HS.out.below aN.out lrf) eB.out aW.out).mono ?_;rintro e w3 ⟨rfl,hq3⟩;have wZ:Hid (w3.ownsRow v2.heap.size 58 2 (.slice a1 i c1) i (bT outs)):=by obtain ⟨q,rfl⟩:=hq3;exact HOW.out
    have aqc:Hid (∀x∈outs,x.Good w3):=by obtain ⟨q,rfl⟩:=hq3;exact jV.out
    have aqd:Hid (Sl .i64 w3 pa pn pc pz):=eB.out.drawn hq3;have oF:Hid (Below v2.heap.size v2 w3):=aG ai.out hq3;have tK:Hid (∀o,(w3.alloc o).heap[w3.heap.size]?=some o/\Below w3.heap.size w3 (w3.alloc o)/\w3.heap.size+1<=(w3.alloc o).heap.size):=fun o=>⟨han w3 o,(Below.refl _ w3).alloc lrf o,by rw [World.size_alloc];exact Nat.le_refl _⟩;clear hq3 hcl' hb1 HOW jV eB aN ai;go_wp2;generalize wr=wo at *;go_loopw [10] (fun ix wr=>∃(k m:Nat) (aa:OAd) (cc:Nat),k<=N/\ix=.int .i64 (k:Int)/\m<=k/\Hid (aa=none->cc=0)/\Hid (wr.heap[w3.heap.size]?=some (.cells #[.bool fin,.slice aa m cc] 58 (0,0)))/\Hid (wr.ownsRow (w3.heap.size+1) 95 2 (.slice aa m cc) m (aL (mZ (begs (nums xs)) pz k)))/\Hid (Below w3.heap.size w3 wr)/\Hid (w3.heap.size+1<=wr.heap.size)) (fun ix _=>N-(intOf ix).toNat)
    case atStart=>exact ⟨0,0,none,0,Nat.zero_le _,rfl,Nat.le_refl _,(fun _=>rfl),(tK.out _).1,⟨rfl,.inl ⟨rfl,rfl⟩⟩,(tK.out _).2.1,(tK.out _).2.2⟩
    case round =>
     obtain ⟨k,m,aa,cc,hk,rfl,hmk,Bq,pM,qw,bE,bU⟩:=hrel;by_cases hlk:k<N
     ·obtain ⟨b2,o2,qa,qn,qc,qz,hb2,hbl,_,acw,Tp,hz2⟩:=HY.out.one k hlk;simp only [sij,Addr.mk.injEq,and_true] at hb2;obtain ⟨rfl,rfl⟩:=hb2;have Tq:Hid (∀W,Below w3.heap.size w3 W->Below v2.heap.size v2 W):=fun W hW=>oF.out.trans (hW.mono oF.out.size);have aC:Hid (∀W,Below w3.heap.size w3 W->W.cell? ⟨b1,o1+k,none⟩=some (.slice qa qn qc)):=fun W hW=>by rw [(Tq.out W hW).cell (p:=⟨b1,o1+k,none⟩) hbl];exact acw
      have Tk:wr.cell? ⟨b1,o1+k,none⟩=some (.slice qa qn qc):=aC.out wr bE.out;have hsl2:Sl .i64 wr qa qn qc qz:=Tp.below (Tq.out wr bE.out) lrf;have HQV:=hdq Tp;have acj:wr.cell? ⟨b1,o1+i,none⟩=some (.slice pa pn pc):=jT.out wr (oF.out.trans (bE.out.mono oF.out.size));have gM:Hid (Sl .i64 wr pa pn pc pz):=aqd.out.below bE.out lrf;have vO:=hdq hsl2;have Kl:=hdq hsl2.1;have vP:Hid ((begs (nums xs)).getD k []=qz):=by show _=_;rw [<-xU.out];exact hz2
      have Tt:=hdq (ahf (p:=pz) (by rw [dD.out];exact hlk) vP.out);have aqf:=hsl2.2.2.1;have auc:=hsl2.2.1;unfold maxLen at aqf;have YV:(k:Int)<(N:Int):=omg;have acx:wr.cell? ⟨w3.heap.size,1,none⟩=some (.slice aa m cc):=by simp only [World.cell?];rw [pM.out];rfl
      have aud:IntKind.i64.wrap ((pn:Int)+1)=(pn:Int)+1:=by rw [IntKind.wrap_i64];omega
      clear hsl2 hz2 acw Tp hbl;by_cases c1:qn=pn+1
      ·subst c1;have d1:(((pn+1:Nat):Int)==(pn:Int)+1)=true:=smp;have hpw:IntKind.i64.wrap (((pn+1:Nat):Int)-1)=(pn:Int):=by rw [IntKind.wrap_i64];omega
       have YW:IntKind.i64.wrap ((pn:Int)+1-1)=(pn:Int):=by rw [IntKind.wrap_i64];omega
       have aue:IntKind.i64.wrap (pn:Int)=(pn:Int):=by rw [IntKind.wrap_i64];omega
       have hp0:(0:Int)<=(pn:Int):=omg;have hpc:(pn:Int)<=(qc:Int):=omg;have hpl:(pn:Int)<((pn+1:Nat):Int):=omg;have hpl':(pn:Int)<(pn:Int)+1:=omg;obtain ⟨qb,qo,rfl,acy,acz⟩:=HQV.out.at omg;have bu:Hid (∀W,Below w3.heap.size w3 W->W.cell? ⟨qb,qo+pn,none⟩=some (.int .i64 (qz.getD pn 0))):=fun W hW=>by rw [(Tq.out W hW).cell (p:=⟨qb,qo+pn,none⟩) acy];exact acz pn omg
       clear acz acy;obtain ⟨sg,hsg⟩:∃z,qz.getD pn 0=z:=⟨_,rfl⟩;rw [hsg] at bu;have HSG:=hdq hsg;have Hr:Hid (Sl .i64 wr (some ⟨qb,qo,none⟩) pn qc (qz.take pn)):=vO.out.first pn omg
       obtain ⟨sm,hsm⟩:∃q,decide (qz.take pn=pz)=q:=⟨_,rfl⟩;have jQ:=hdq hsm;clear hsg hsm;cases sm
       ·have sH:Hid (mZ (begs (nums xs)) pz (k+1)=mZ (begs (nums xs)) pz k):=by
         show _=_;rw [Tt.out,if_neg (fun h=>of_decide_eq_false jQ.out (by have:=h.2;rw [fH.out] at this;exact this)),List.append_nil]
        go_wp2;go_quiet ((go_at_call 38;exact Calls.quiet_of (dR (some ⟨qb,qo,none⟩) pa pn pn qc pc (qz.take pn) pz false _ (Sl.drewN Hr.out _) (Sl.drewN gM.out _) jQ.out)));go_wp2;go_roundw
        case rel=>exact ⟨k+1,m,aa,cc,by omega,by go_num,by omega,Bq.out,pM.out,(by show World.ownsRow _ _ _ _ _ _ _;rw [sH.out];exact qw.out),below_drewN bE.out _,bU.out⟩
        case measure=>simp [intOf];omega
       ·have sH:Hid (mZ (begs (nums xs)) pz (k+1)=mZ (begs (nums xs)) pz k++[(sg,(k:Int))]):=by
         show _=_;rw [Tt.out,if_pos ⟨by rw [Kl.out,fH.out],by rw [fH.out];exact of_decide_eq_true jQ.out⟩,fH.out,HSG.out]
        have KZ:(Lit.int .i64 (k:Int)).wf=true:=by apply WalkArith.wf_i64;omega
        go_wp2;go_quiet ((go_at_call 38;exact Calls.quiet_of (dR (some ⟨qb,qo,none⟩) pa pn pn qc pc (qz.take pn) pz true _ (Sl.drewN Hr.out _) (Sl.drewN gM.out _) jQ.out)));go_wp2_with fail;generalize oH:World.drewN wr _=w5;have xV:w5.cell? ⟨w3.heap.size,1,none⟩=some (.slice aa m cc):=by rw [<-oH];exact acx
        have acA:Hid (w5.drew.ownsRow (w3.heap.size+1) 95 2 (.slice aa m cc) m (aL (mZ (begs (nums xs)) pz k))):=by rw [<-oH];exact qw.out
        have LP:Hid (w5.drew.heap[w3.heap.size]?=some (.cells #[.bool fin,.slice aa m cc] 58 (0,0))):=by rw [<-oH];exact pM.out
        have eD:Below w3.heap.size w3 w5.drew:=by rw [<-oH];exact aG (below_drewN bE.out _) ⟨1,rfl⟩
        have xW:Hid (w3.heap.size+1<=w5.drew.heap.size):=by rw [<-oH];exact bU.out
        have hmx:=gq.out;clear oH acx Tk acj;refine wp_region_held_drew (S:=(fun W=>W.cell? ⟨b1,o1+k,none⟩=some (.slice (some ⟨qb,qo,none⟩) (pn+1) qc)/\W.cell? ⟨qb,qo+pn,none⟩=some (.int .i64 sg))) krf (by first|((first|exact ⟨aC.out _ jX,bu.out _ jX⟩|exact ⟨aC.out _ bK,bu.out _ bK⟩|exact ⟨aC.out _ iJ,bu.out _ iJ⟩|exact ⟨aC.out _ eD,bu.out _ eD⟩|exact ⟨aC.out _ (Below.setCell (p:=⟨w3.heap.size,1,none⟩) bK lrf _),bu.out _ (Below.setCell (p:=⟨w3.heap.size,1,none⟩) bK lrf _)⟩))|((try dsimp only);(first|exact ⟨aC.out _ jX,bu.out _ jX⟩|exact ⟨aC.out _ bK,bu.out _ bK⟩|exact ⟨aC.out _ iJ,bu.out _ iJ⟩|exact ⟨aC.out _ eD,bu.out _ eD⟩|exact ⟨aC.out _ (Below.setCell (p:=⟨w3.heap.size,1,none⟩) bK lrf _),bu.out _ (Below.setCell (p:=⟨w3.heap.size,1,none⟩) bK lrf _)⟩))) (fun hHeld=>?_);refine wpAnyH_take (i:=0) (v:=?auf) rfl krf krf krf (fun _ _ _ h=>h) (Or.inl ⟨by rfl,?aqh⟩) (by assumption) ?aug
        case aqh=>intro w hSw;(try dsimp only at hSw);go_simp;try with_reducible rfl
        simp only [Act.put,List.getElem_toArray,List.getElem_cons_zero,List.setIfInBounds_toArray,List.set_cons_succ,List.set_cons_zero];refine t_h 2 ?_;refine t_h 3 ?_;refine t_h 4 ?_;refine t_h 5 ?_;refine t_h 6 ?_;refine t_h 7 ?_;refine t_h 8 ?_;refine t_h 9 ?_;refine t_h 10 ?_;refine t_h 11 ?_;refine fT 1 12 (fun K hK=>?_) (fun K hK=>?_)
        ·go_simp;refine k_h hK (by (try dsimp only);(first|exact ⟨aC.out _ jX,bu.out _ jX⟩|exact ⟨aC.out _ bK,bu.out _ bK⟩|exact ⟨aC.out _ iJ,bu.out _ iJ⟩|exact ⟨aC.out _ eD,bu.out _ eD⟩|exact ⟨aC.out _ (Below.setCell (p:=⟨w3.heap.size,1,none⟩) bK lrf _),bu.out _ (Below.setCell (p:=⟨w3.heap.size,1,none⟩) bK lrf _)⟩)) (fun hHeld=>?_);clear hK K;refine r_h 12 (fun K hK=>?_);refine AJ rfq (.tmp 79) sg (k:Int) rfq rfq ?_;intro gB wB jE jF au;have iJ:=eD.trans (au.mono eD.size);have Tu:wB.cell? ⟨w3.heap.size,1,none⟩=some (.slice aa m cc):=by simp only [World.cell?];rw [au.block _ (show w3.heap.size<w5.drew.heap.size by have:=xW.out;omega)];rw [LP.out];rfl
         have Ht:w3.heap.size+1<=wB.heap.size:=Nat.le_trans xW.out au.size;refine k_h hK (by (try dsimp only);(first|exact ⟨aC.out _ jX,bu.out _ jX⟩|exact ⟨aC.out _ bK,bu.out _ bK⟩|exact ⟨aC.out _ iJ,bu.out _ iJ⟩|exact ⟨aC.out _ eD,bu.out _ eD⟩|exact ⟨aC.out _ (Below.setCell (p:=⟨w3.heap.size,1,none⟩) bK lrf _),bu.out _ (Below.setCell (p:=⟨w3.heap.size,1,none⟩) bK lrf _)⟩)) (fun hHeld=>?_);clear hK K;refine r_h 13 (fun K hK=>?_);refine UK rfq (.tmp 69) (.tmp 80) rfq (w3.heap.size+1) _ m _ rfq (ownsRow_below acA.out au lrf) gB (sg,(k:Int)) rfq jE jF (m+1) rfl omg Ht ?_;intro a5 c5 w7 bH az oI iB;have hbb:Below (w3.heap.size+1) w5.drew w7:=(au.mono xW.out).trans az;have vQ:w7.heap[w3.heap.size]?=some (.cells #[.bool fin,.slice aa m cc] 58 (0,0)):=(hbb.block _ (Nat.lt_succ_self _)).trans LP.out;have bK:Below w3.heap.size w3 w7:=eD.trans (hbb.mono (Nat.le_succ _));have Hu:w3.heap.size+1<=w7.heap.size:=Nat.le_trans xW.out hbb.size;have vg:w7.cell? ⟨w3.heap.size,1,none⟩=some (.slice aa m cc):=by simp only [World.cell?];rw [vQ];rfl
         have EJ:w7.frozen? ⟨w3.heap.size,1,none⟩=false:=by simp only [World.frozen?];rw [vQ];rfl
         refine k_h hK (by (try dsimp only);(first|exact ⟨aC.out _ jX,bu.out _ jX⟩|exact ⟨aC.out _ bK,bu.out _ bK⟩|exact ⟨aC.out _ iJ,bu.out _ iJ⟩|exact ⟨aC.out _ eD,bu.out _ eD⟩|exact ⟨aC.out _ (Below.setCell (p:=⟨w3.heap.size,1,none⟩) bK lrf _),bu.out _ (Below.setCell (p:=⟨w3.heap.size,1,none⟩) bK lrf _)⟩)) (fun hHeld=>?_);clear hK K;refine t_h 14 ?_;refine r_h 15 (fun K hK=>?_);go_simp;refine k_h hK (by (try dsimp only);(first|exact ⟨aC.out _ jX,bu.out _ jX⟩|exact ⟨aC.out _ bK,bu.out _ bK⟩|exact ⟨aC.out _ iJ,bu.out _ iJ⟩|exact ⟨aC.out _ eD,bu.out _ eD⟩|exact ⟨aC.out _ (Below.setCell (p:=⟨w3.heap.size,1,none⟩) bK lrf _),bu.out _ (Below.setCell (p:=⟨w3.heap.size,1,none⟩) bK lrf _)⟩)) (fun hHeld=>?_);clear hK K;refine wpAnyH_done krf ?_ _;have aU:=hdq bH;have qG:=hdq iB;have HH7:=hdq vQ;have acr:=hdq bK;have acs:=hdq Hu;clear bH az oI iB hbb vQ bK Hu hHeld au jE jF iJ Tu Ht eD;go_wp2;go_roundw
         case rel =>
          exact z43
         case measure=>simp [intOf];omega

        ·refine AJ rfq (.tmp 79) sg (k:Int) rfq rfq ?_;intro gB wB jE jF au;have iJ:=eD.trans (au.mono eD.size);have Tu:wB.cell? ⟨w3.heap.size,1,none⟩=some (.slice aa m cc):=by simp only [World.cell?];rw [au.block _ (show w3.heap.size<w5.drew.heap.size by have:=xW.out;omega)];rw [LP.out];rfl
         have Ht:w3.heap.size+1<=wB.heap.size:=Nat.le_trans xW.out au.size;refine k_h hK (by (try dsimp only);(first|exact ⟨aC.out _ jX,bu.out _ jX⟩|exact ⟨aC.out _ bK,bu.out _ bK⟩|exact ⟨aC.out _ iJ,bu.out _ iJ⟩|exact ⟨aC.out _ eD,bu.out _ eD⟩|exact ⟨aC.out _ (Below.setCell (p:=⟨w3.heap.size,1,none⟩) bK lrf _),bu.out _ (Below.setCell (p:=⟨w3.heap.size,1,none⟩) bK lrf _)⟩)) (fun hHeld=>?_);clear hK K;refine r_h 1 (fun K hK=>?_);go_simp;refine k_h hK (by (try dsimp only);(first|exact ⟨aC.out _ jX,bu.out _ jX⟩|exact ⟨aC.out _ bK,bu.out _ bK⟩|exact ⟨aC.out _ iJ,bu.out _ iJ⟩|exact ⟨aC.out _ eD,bu.out _ eD⟩|exact ⟨aC.out _ (Below.setCell (p:=⟨w3.heap.size,1,none⟩) bK lrf _),bu.out _ (Below.setCell (p:=⟨w3.heap.size,1,none⟩) bK lrf _)⟩)) (fun hHeld=>?_);clear hK K;refine r_h 13 (fun K hK=>?_);refine UK rfq (.tmp 69) (.tmp 80) rfq (w3.heap.size+1) _ m _ rfq (ownsRow_below acA.out au lrf) gB (sg,(k:Int)) rfq jE jF (m+1) rfl omg Ht ?_;intro a5 c5 w7 bH az oI iB;have hbb:Below (w3.heap.size+1) w5.drew w7:=(au.mono xW.out).trans az;have vQ:w7.heap[w3.heap.size]?=some (.cells #[.bool fin,.slice aa m cc] 58 (0,0)):=(hbb.block _ (Nat.lt_succ_self _)).trans LP.out;have bK:Below w3.heap.size w3 w7:=eD.trans (hbb.mono (Nat.le_succ _));have Hu:w3.heap.size+1<=w7.heap.size:=Nat.le_trans xW.out hbb.size;have vg:w7.cell? ⟨w3.heap.size,1,none⟩=some (.slice aa m cc):=by simp only [World.cell?];rw [vQ];rfl
         have EJ:w7.frozen? ⟨w3.heap.size,1,none⟩=false:=by simp only [World.frozen?];rw [vQ];rfl
         refine k_h hK (by (try dsimp only);(first|exact ⟨aC.out _ jX,bu.out _ jX⟩|exact ⟨aC.out _ bK,bu.out _ bK⟩|exact ⟨aC.out _ iJ,bu.out _ iJ⟩|exact ⟨aC.out _ eD,bu.out _ eD⟩|exact ⟨aC.out _ (Below.setCell (p:=⟨w3.heap.size,1,none⟩) bK lrf _),bu.out _ (Below.setCell (p:=⟨w3.heap.size,1,none⟩) bK lrf _)⟩)) (fun hHeld=>?_);clear hK K;refine t_h 14 ?_;refine r_h 15 (fun K hK=>?_);go_simp;refine k_h hK (by (try dsimp only);(first|exact ⟨aC.out _ jX,bu.out _ jX⟩|exact ⟨aC.out _ bK,bu.out _ bK⟩|exact ⟨aC.out _ iJ,bu.out _ iJ⟩|exact ⟨aC.out _ eD,bu.out _ eD⟩|exact ⟨aC.out _ (Below.setCell (p:=⟨w3.heap.size,1,none⟩) bK lrf _),bu.out _ (Below.setCell (p:=⟨w3.heap.size,1,none⟩) bK lrf _)⟩)) (fun hHeld=>?_);clear hK K;refine wpAnyH_done krf ?_ _;have aU:=hdq bH;have qG:=hdq iB;have HH7:=hdq vQ;have acr:=hdq bK;have acs:=hdq Hu;clear bH az oI iB hbb vQ bK Hu hHeld au jE jF iJ Tu Ht eD;go_wp2;go_roundw
         case rel =>
          exact z43
         case measure=>simp [intOf];omega

      ·have sH:Hid (mZ (begs (nums xs)) pz (k+1)=mZ (begs (nums xs)) pz k):=by
        show _=_;rw [Tt.out,if_neg (fun h=>c1 (by have:=h.1;rw [Kl.out,fH.out] at this;exact this)),List.append_nil]
       have d1:((qn:Int)==(pn:Int)+1)=false:=by simp;omega
       clear c1;go_wp2;go_quiet (fail);go_wp2;go_roundw
       case rel=>exact ⟨k+1,m,aa,cc,by omega,by go_num,by omega,Bq.out,pM.out,(by show World.ownsRow _ _ _ _ _ _ _;rw [sH.out];exact qw.out),below_drewN bE.out _,bU.out⟩
       case measure=>simp [intOf];omega
     ·obtain rfl:N=k:=omg;have iT:Hid (mZ (begs (nums xs)) pz N=aP (begs (nums xs)) pz):=by show _=_;rw [<-dD.out];exact ahg _ _
      have dJ:=hdq (aeX (by rw [dD.out];exact hlt) HPZ.out aW.out);obtain ⟨arcs,iE⟩:∃l,aP (begs (nums xs)) pz=l:=⟨_,rfl⟩;have Tv:Hid (wr.ownsRow (w3.heap.size+1) 95 2 (.slice aa m cc) m (aL arcs)):=by rw [<-iE,<-iT.out];exact qw.out
      have xy:Hid (∀x∈arcs,(Lit.int .i64 x.1).wf=true/\(Lit.int .i64 x.2).wf=true):=fun x hx=>by
       rw [<-iE] at hx;obtain ⟨t,ht,h1,h2⟩:=mY.1 hx;refine ⟨?_,by rw [h2];apply WalkArith.wf_i64;rw [dD.out] at ht;omega⟩;have hm:pz++[x.1]∈nums ys:=by rw [xU.out,<-h1];exact List.getElem_mem _
       obtain ⟨y,hy,hyz⟩:=List.mem_map.1 hm;exact (HY.out.2.2.2.1 y hy).2.2.2.1 x.1 (by rw [hyz];simp)
      have mK:Hid (Ars wr aa m cc arcs):=Ars.of_owns Tv.out xy.out (by have h:=Tv.out.1;rw [uC] at h;omega);have acB:=hdq (Nf Tv.out);rw [iE] at dJ;have HI2:Hid ((Tryz.prog.info? 58).map (·.size)=some (#[Value.bool fin,Value.slice aa m cc]).size):=aeW;have Tw:Hid (Below v2.heap.size v2 wr):=oF.out.trans (bE.out.mono oF.out.size);clear iE
      go_wp2_with first
       | (refine eQ rfq 58 (.tmp 9) rfq w3.heap.size rfq 58 #[.bool fin,.slice aa m cc] (0,0) _ pM.out Tryz.underlying58 rfq HI2.out ?_)
       | (at_builtin;refine Nc rfq (.tmp 83) (.tmp 85) rfq v2.heap.size _ i outs rfq (World.ownsRow.alloc (ownsRow_below wZ.out bE.out lrf) _) wr.heap.size ⟨fin,aa,m,cc,arcs⟩ rfq (pU _ _ _ _ _).1 (pU _ _ _ _ _).2 (i+1) rfl omg (by rw [World.size_alloc];have:=Tw.out.size;omega) ?_
          intro a5 c5 w7 bH az oI iB;have aU:=hdq bH;have qG:=hdq iB;have lL:Hid (Below v2.heap.size v2 w7):=(Tw.out.alloc Tw.out.size _).trans az
          have fQ:Hid (∀x:Sw,x.Good wr->(x∈outs/\x.Front\/x.n=0\/∃b,x.a=some ⟨b,0,none⟩/\w3.heap.size<b)->x.Good w7):=fun x hx hor=>by
           rcases hor with ⟨hm,hf⟩|h0|⟨b,hb,hlt3⟩
           ·exact Sw.Good.apart (hx.alloc _) hf oI (fun b hb=>aeV (World.ownsRow.alloc (ownsRow_below wZ.out bE.out lrf) _) b hb (by intro e;rw [e] at hm;simp at hm))
           ·exact ⟨hx.1,hx.2.1,hx.2.2.1,hx.2.2.2.1,.inl h0⟩
           ·exact Ars.far (hx.alloc _) oI (fun b' off' e h=>by
             rw [hb] at e;have e1:=(Addr.mk.inj (Option.some.inj e)).1;have h2:=(World.ownsRow.lt wZ.out b' h).2
             omega)
          clear bH az oI iB)
      go_roundw
      case rel =>
       refine ⟨i+1,a5,c5,outs++[Sw.mk fin aa m cc arcs],by omega,rfl,by go_num,qG.out,aU.out,?_,?_,?_,lL.out⟩
       ·intro x hx;rcases map1 hx with hx|hx
        ·exact fQ.out x ((aqc.out x hx).below bE.out lrf) (.inl ⟨hx,HFR.out x hx⟩)
        ·rw [msg hx];refine fQ.out _ mK.out (.inr ?_);rcases acB.out with h|⟨b,h1,h2,_⟩
         ·exact .inl h
         ·exact .inr ⟨b,h1,by omega⟩
       ·intro x hx;rcases map1 hx with hx|hx
        ·exact HFR.out x hx
        ·rw [msg hx];rcases acB.out with h|⟨b,h1,_,_⟩
         ·exact .inl h
         ·exact .inr ⟨b,h1⟩
       ·show _=_;rw [MU,HST.out,dJ.out];rfl
      case measure=>simp [intOf];omega
   ·obtain rfl:N=i:=omg;go_wp2;go_ret2;refine ⟨a1,N,c1,outs,?_,Ss.of_owns HOW.out jV.out ?_,?_,Br.out,HB2.out.trans (ai.out.mono HB2.out.size)⟩
    ·rw [<-rH.out];rfl
    ·have h:=HOW.out.1;rw [yx] at h;omega
    ·rw [HST.out,<-rH.out,tol (by rw [iM,dD.out];exact Nat.le_refl _)]
 ·have hne:(er != 0)=true:=by simpa using her
  have hgg:g=([],er):=by rw [<-HG.out];unfold made;rw [HP.out];simp [her]
  subst hgg;clear her;go_wp2;go_ret2;exact ⟨none,0,0,[],rfl,Ss.nil,rfl,fun _=>rfl,HB1.out⟩

end
end Go.Proofs.YtkiamgcpcneggaaGreat
