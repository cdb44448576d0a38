import Derived.Test.YtkiamgcpcneggaaGreatPackS
import Derived.Test.YtkiamgcpcneggaaGreatPackR
set_option linter.all false
set_option maxRecDepth 100000
set_option maxHeartbeats 12800000
namespace Go.Proofs.YtkiamgcpcneggaaGreat
section
open Go.RowKit Tri

theorem Ef {w w1:World} (h:∃q,w1=w.drewN q) (n:Nat):∃p,w1.drewN n=w.drewN p:=by
 obtain ⟨p,rfl⟩:=h;exact ⟨_,World.drewN_drewN _ _ _⟩
theorem amu {xs ys:List Sw} {j:Nat} (h:(sts xs).take j=(sts ys).take j) (hx:j<xs.length) (hy:j<ys.length) (e:(xs.getD j Sw.no).st=(ys.getD j Sw.no).st):(sts xs).take (j+1)=(sts ys).take (j+1):=by
 have hx':j<(sts xs).length:=by rw [fq];exact hx
 have hy':j<(sts ys).length:=by rw [fq];exact hy
 rw [tsa hx',tsa hy',h];rw [<-ic,<-ic] at e;simp only [gdq,geg hx',geg hy',Option.getD_some] at e;rw [e]

theorem amv (a b:OAd) (n m cap cap2:Nat) (xs ys:List Sw) (r:Bool) (w:World) (ha:Ss w a n cap xs) (hb:Ss w b m cap2 ys) (hr:r=true↔sts xs=sts ys) :
 Calls Tryz.prog 39 #[.slice a n cap,.slice b m cap2] w fun e w'=>e=.returned (.bool r)/\∃q,w'=w.drewN q:=by
 have hnc:=ha.2.1;have hcm:=ha.2.2.1;have auY:=hb.2.1;have hcm2:=hb.2.2.1;unfold maxLen at hcm hcm2;have HA:=hdq ha;have HB:=hdq hb;have HR:=hdq hr;clear ha hb hr;by_cases hnm:n=m
 ·subst hnm;have hlen:((n:Int) != (n:Int))=false:=smp;go_enter Tryz.func39,Tryz.ntmps39;go_wp2;go_loopw [5] (fun ix wr=>∃j:Nat,j<=n/\ix=.int .i64 (j:Int)/\Hid ((sts xs).take j=(sts ys).take j)/\Hid (∃q,wr=w.drewN q)) (fun ix _=>n-(intOf ix).toNat)
  case atStart=>exact ⟨0,Nat.zero_le _,rfl,rfl,⟨0,rfl⟩⟩
  case round =>
   obtain ⟨j,hj,rfl,HT,HQ⟩:=hrel;by_cases hlt:j<n
   ·obtain ⟨b1,o1,f,sa,sn,sc,arcs,rfl,_,hx1,hx2,bS,hz1⟩:=(HA.out.drawn HQ.out).one j hlt;obtain ⟨b2,o2,f',sa',sn',sc',Dj,rfl,_,hy1,hy2,Mh,hz2⟩:=(HB.out.drawn HQ.out).one j hlt;have HZ1:=hdq hz1;have HZ2:=hdq hz2;have jc:=hdq bS;have Mi:=hdq Mh;have hsc:=bS.2.1;have oC:=bS.2.2.1;have ava:=Mh.2.1;have ard:=Mh.2.2.1;unfold maxLen at oC ard;have bB:(j:Int)<(n:Int):=omg
    have oV:Hid ((⟨f,arcs⟩:St)≠⟨f',Dj⟩->r=false):=fun hne=>by
     cases hrr:r with
     | false=>rfl
     | true =>
       exfalso;have h1:=ic xs j;have h2:=ic ys j;rw [HR.out.1 hrr,h2,hz1,hz2] at h1;exact hne h1.symm
    clear bS Mh hz1 hz2;by_cases hf:f=f'
    ·subst hf;have hff:(f != f)=false:=smp;by_cases hs:sn=sn'
     ·subst hs;have hss:((sn:Int) != (sn:Int))=false:=smp;go_wp2;go_quiet (fail);go_wp2;generalize wr=wo at *;go_loopw [6] (fun ix wr=>∃k:Nat,k<=sn/\ix=.int .i64 (k:Int)/\Hid (arcs.take k=Dj.take k)/\Hid (∃q,wr=wo.drewN q)) (fun ix _=>sn-(intOf ix).toNat)
      case atStart=>exact ⟨0,Nat.zero_le _,rfl,rfl,⟨_,rfl⟩⟩
      case round =>
       obtain ⟨k,hk,rfl,Kv,HQ2⟩:=hrel;obtain ⟨q2,rfl⟩:=HQ2.out;by_cases hlk:k<sn
       ·obtain ⟨b3,o3,s3,t3,rfl,_,hu1,hu2,_,_,hu3⟩:=jc.out.one k hlk;obtain ⟨b4,o4,s4,t4,rfl,_,hv1,hv2,_,_,hv3⟩:=Mi.out.one k hlk;have YV:(k:Int)<(sn:Int):=omg;by_cases he:s3=s4/\t3=t4
        ·obtain ⟨rfl,rfl⟩:=he
         have Kt:Hid (arcs.take (k+1)=Dj.take (k+1)):=by
          show _=_;rw [sZ (by rw [jc.out.1];exact hlk) hu3,sZ (by rw [Mi.out.1];exact hlk) hv3,Kv.out]
         have e1:(s3 != s3)=false:=smp;have e2:(t3 != t3)=false:=smp;have e3:(s3==s3)=true:=smp;have e4:(t3==t3)=true:=smp;clear hu3 hv3;go_wp2;go_quiet (fail);go_wp2;go_roundw
         case rel=>exact ⟨k+1,by omega,by go_num,Kt.out,⟨_,by first|rfl|exact World.drewN_drewN _ _ _⟩⟩
         case measure=>simp [intOf];omega
        ·have hfin:r=false:=oV.out fun e=>by
          have e':arcs=Dj:=congrArg St.arcs e;rw [e',hv3] at hu3;simp only [Prod.mk.injEq] at hu3;exact he ⟨hu3.1.symm,hu3.2.symm⟩
         subst hfin;clear hu3 hv3;by_cases Mj:s3=s4
         ·subst Mj;have ht:¬t3=t4:=fun e=>he ⟨rfl,e⟩;have e1:(s3 != s3)=false:=smp;have e2:(t3 != t4)=true:=by simpa using ht
          have e3:(s3==s3)=true:=smp;have e4:(t3==t4)=false:=by simpa using ht
          clear he ht;go_wp2;go_quiet (fail);go_wp2;go_ret;exact ⟨rfl,Ef (IM HQ.out) _⟩
         ·have e1:(s3 != s4)=true:=by simpa using Mj
          have e3:(s3==s4)=false:=by simpa using Mj
          clear he Mj;go_wp2;go_quiet (fail);go_wp2;go_ret;exact ⟨rfl,Ef (IM HQ.out) _⟩
       ·obtain rfl:sn=k:=omg
        have HST:Hid ((sts xs).take (j+1)=(sts ys).take (j+1)):=amu HT.out (by rw [HA.out.1];exact hlt) (by rw [HB.out.1];exact hlt) (by
         rw [HZ1.out,HZ2.out];have h:=Kv.out;rw [tol (by rw [jc.out.1];exact Nat.le_refl _),tol (by rw [Mi.out.1];exact Nat.le_refl _)] at h;show (⟨f,arcs⟩:St)=⟨f,Dj⟩
         rw [h])
        go_wp2;go_roundw
        case rel=>exact ⟨j+1,by omega,by go_num,HST.out,IM HQ.out⟩
        case measure=>simp [intOf];omega
     ·have hss:((sn:Int) != (sn':Int))=true:=by simp;omega
      have hfin:r=false:=oV.out fun e=>by
       have e':arcs=Dj:=congrArg St.arcs e;exact hs (by rw [<-jc.out.1,<-Mi.out.1,e'])
      subst hfin;clear hs;go_wp2;go_quiet (fail);go_wp2;go_ret;exact ⟨rfl,Ef HQ.out _⟩
    ·have hfin:r=false:=oV.out fun e=>hf (congrArg St.final e);subst hfin;have hbb:f=false/\f'=true\/f=true/\f'=false:=by cases f<;>cases f'<;>simp at hf ⊢
     clear hf oV;rcases hbb with ⟨rfl,rfl⟩|⟨rfl,rfl⟩
     ·go_wp2;go_quiet (fail);go_wp2;go_ret;exact ⟨rfl,Ef HQ.out _⟩
     ·go_wp2;go_quiet (fail);go_wp2;go_ret;exact ⟨rfl,Ef HQ.out _⟩
   ·have hfin:r=true:=by
     rw [HR.out];have h:=HT.out
     rwa [tol (by rw [fq,HA.out.1];omega),tol (by rw [fq,HB.out.1];omega)] at h
    subst hfin;go_wp2;go_ret;exact ⟨rfl,HQ.out⟩
 ·have hfin:r=false:=by
   cases hrr:r with
   | false=>rfl
   | true =>
     exfalso;have:=congrArg List.length (HR.out.1 hrr);rw [fq,fq,HA.out.1,HB.out.1] at this;exact hnm this
  subst hfin;have hlen:((n:Int) != (m:Int))=true:=by simp;omega
  clear hnm;go_enter Tryz.func39,Tryz.ntmps39;go_wp2;go_ret;exact ⟨rfl,0,rfl⟩

end
section
theorem z53 {P:Prop} (h:P:=by
 go_enter Tryz.func23,Tryz.ntmps23;go_wp2_with fail;refine (Nv a a' n n' cap cap' xs xs' true _ ((HC.out.alloc _).alloc _) ((HC'.out.alloc _).alloc _) HD.out).mono ?_;rintro e w1 ⟨rfl,q1,rfl⟩;go_wp2;go_ret
 exact ⟨by rw [HR.out];first|rfl|simp,(HB _ _ _).out⟩):P:=h
open Go.RowKit

theorem YK (p:Prop):∃d:Bool,(d=true↔p):=by
 by_cases h:p
 ·exact ⟨true,by simp [h]⟩
 ·exact ⟨false,by simp [h]⟩

theorem amw (c c':Cw) (r:Bool) (w:World) (hc:c.Good w) (hc':c'.Good w) (hr:r=true↔c.c=c'.c) :
 Calls Tryz.prog 23 #[c.v,c'.v] w fun e w'=>e=.returned (.bool r)/\Below w.heap.size w w':=by
 obtain ⟨m,l,o,t,a,n,cap,xs⟩:=c;obtain ⟨m',l',o',t',a',n',cap',xs'⟩:=c';have HC:=hdq hc.1;have HC':=hdq hc'.1;obtain ⟨d,hd⟩:∃d,decide (aA xs=aA xs')=d:=⟨_,rfl⟩;obtain ⟨d1,hd1⟩:∃d,(m==m')=d:=⟨_,rfl⟩;obtain ⟨d2,hd2⟩:∃d,(l==l')=d:=⟨_,rfl⟩;obtain ⟨d3,hd3⟩:∃d,(o==o')=d:=⟨_,rfl⟩;obtain ⟨d4,hd4⟩:∃d,(t==t')=d:=⟨_,rfl⟩
 have hr2:r=(d&&(d1&&(d2&&(d3&&d4)))):=by
  rw [Bool.eq_iff_iff,hr,<-hd,<-hd1,<-hd2,<-hd3,<-hd4];simp only [Cw.c,Cw.base,File.Cst.mk.injEq,List.cons.injEq,and_true,Bool.and_eq_true,decide_eq_true_eq,beq_iff_eq];constructor
  ·rintro ⟨⟨h1,h2,h3,h4⟩,h5⟩;exact ⟨h5,h1,h2,h3,h4⟩
  ·rintro ⟨h5,h1,h2,h3,h4⟩;exact ⟨⟨h1,h2,h3,h4⟩,h5⟩
 have HD:=hdq hd;have HR:=hdq hr2
 have HB:∀o o' q,Hid (Below w.heap.size w (((w.alloc o).alloc o').drewN q)):=fun o o' q=>by
  show Below _ _ _;have e:((w.alloc o).alloc o').drewN q=Go.Sort.grow (w.drewN q) #[o,o']:=by rw [Go.Sort.alloc_eq_grow,Go.Sort.alloc_eq_grow,Go.Sort.grow_grow];rfl
  rw [e];exact Ns lrf _ _
 clear hc hc' hr hr2 hd;simp only [Cw.v,Cw.cells]
 cases d with
 | false =>
   go_enter Tryz.func23,Tryz.ntmps23;go_wp2_with fail;refine (Nv a a' n n' cap cap' xs xs' false _ ((HC.out.alloc _).alloc _) ((HC'.out.alloc _).alloc _) HD.out).mono ?_;rintro e w1 ⟨rfl,q1,rfl⟩;go_wp2;go_ret;exact ⟨by rw [HR.out];first|rfl|simp,(HB _ _ _).out⟩
 | true =>
   cases d1 with
   | false =>
     exact z53
   | true =>
     cases d2 with
     | false =>
       exact z53
     | true =>
       cases d3 with
       | false =>
         exact z53
       | true =>
         cases d4 with
         | false =>
           exact z53
         | true =>
           exact z53

theorem amx (x y:Iw) (r:Bool) (w:World) (hx:x.Good w) (hy:y.Good w) (hr:r=true↔x.im=y.im) :
 Calls Tryz.prog 17 #[x.v,y.v] w fun e w'=>e=.returned (.bool r)/\Below w.heap.size w w':=by
 obtain ⟨sa,sn,sc,xs,cm,cl,co,ct,ra,rn,bJ,rs⟩:=x;obtain ⟨ta,tn,tc,ys,dm,dl,dO,dt,qa,qn,qc,qs⟩:=y;have HX:=hdq hx;have HY:=hdq hy;obtain ⟨d1,hd1⟩:=YK (sts xs=sts ys);obtain ⟨d2,hd2⟩:=YK (Cw.c ⟨cm,cl,co,ct,ra,rn,bJ,rs⟩=Cw.c ⟨dm,dl,dO,dt,qa,qn,qc,qs⟩)
 have hr2:r=(d1&&d2):=by
  rw [Bool.eq_iff_iff,hr,Bool.and_eq_true,hd1,hd2];simp only [Iw.im,Img.Im.mk.injEq]
 have HR:=hdq hr2
 have ET:Hid (∀W,Ss W sa sn sc xs->Ss W ta tn tc ys->Calls Tryz.prog 39 #[.slice sa sn sc,.slice ta tn tc] W fun e w'=>e=.returned (.bool d1)/\∃q,w'=W.drewN q) :=
  fun W h1 h2=>amv _ _ _ _ _ _ xs ys d1 W h1 h2 hd1
 have H8:Hid (∀W,Cw.Good W ⟨cm,cl,co,ct,ra,rn,bJ,rs⟩->Cw.Good W ⟨dm,dl,dO,dt,qa,qn,qc,qs⟩->Calls Tryz.prog 23 #[Cw.v ⟨cm,cl,co,ct,ra,rn,bJ,rs⟩,Cw.v ⟨dm,dl,dO,dt,qa,qn,qc,qs⟩] W fun e w'=>e=.returned (.bool d2)/\Below W.heap.size W w') :=
  fun W h1 h2=>amw _ _ d2 W h1 h2 hd2
 obtain ⟨W0,hW0⟩:∃W0,W0=(w.alloc (.cells #[.slice sa sn sc,.int .u64 cm,.int .u64 cl,.int .u64 co,.int .u64 ct,.slice ra rn bJ] 28)).alloc (.cells #[.slice ta tn tc,.int .u64 dm,.int .u64 dl,.int .u64 dO,.int .u64 dt,.slice qa qn qc] 28):=⟨_,rfl⟩;have HB0:Hid (Below w.heap.size w W0):=by rw [hW0];exact ((Below.refl _ w).alloc lrf _).alloc smp _
 have HX0:Hid (Iw.Good W0 ⟨sa,sn,sc,xs,cm,cl,co,ct,ra,rn,bJ,rs⟩):=by rw [hW0];exact (HX.out.alloc _).alloc _
 have lU:Hid (Iw.Good W0 ⟨ta,tn,tc,ys,dm,dl,dO,dt,qa,qn,qc,qs⟩):=by rw [hW0];exact (HY.out.alloc _).alloc _
 have hc:W0.heap[w.heap.size]?=some (.cells #[Value.slice sa sn sc,Value.int .u64 cm,Value.int .u64 cl,Value.int .u64 co,Value.int .u64 ct,Value.slice ra rn bJ] 28 (0,0)):=by rw [hW0];exact heap_alloc2_old w _ _
 have hc':W0.heap[w.heap.size+1]?=some (.cells #[Value.slice ta tn tc,Value.int .u64 dm,Value.int .u64 dl,Value.int .u64 dO,Value.int .u64 dt,Value.slice qa qn qc] 28 (0,0)):=by rw [hW0];exact heap_alloc2_new w _ _
 have k0:=cell_of_row W0 w.heap.size 0 _ _ _ hc;have q0:=cell_of_row W0 (w.heap.size+1) 0 _ _ _ hc';have k1:=cell_of_row W0 w.heap.size 1 _ _ _ hc;have q1:=cell_of_row W0 (w.heap.size+1) 1 _ _ _ hc';have k2:=cell_of_row W0 w.heap.size 2 _ _ _ hc;have q2:=cell_of_row W0 (w.heap.size+1) 2 _ _ _ hc';have k3:=cell_of_row W0 w.heap.size 3 _ _ _ hc;have q3:=cell_of_row W0 (w.heap.size+1) 3 _ _ _ hc';have k4:=cell_of_row W0 w.heap.size 4 _ _ _ hc;have q4:=cell_of_row W0 (w.heap.size+1) 4 _ _ _ hc';have k5:=cell_of_row W0 w.heap.size 5 _ _ _ hc;have q5:=cell_of_row W0 (w.heap.size+1) 5 _ _ _ hc';simp only [List.getElem?_toArray,List.getElem?_cons_zero,List.getElem?_cons_succ] at k0 k1 k2 k3 k4 k5 q0 q1 q2 q3 q4 q5;clear hx hy hr hr2 hd1 hd2 hc hc';show Calls _ _ #[.agg #[.slice sa sn sc,.int .u64 cm,.int .u64 cl,.int .u64 co,.int .u64 ct,.slice ra rn bJ],.agg #[.slice ta tn tc,.int .u64 dm,.int .u64 dl,.int .u64 dO,.int .u64 dt,.slice qa qn qc]] w _
 cases d1 with
 | false =>
   go_enter Tryz.func17,Tryz.ntmps17;go_wp2_with fail;rw [<-hW0];refine (ET.out _ HX0.out.1 lU.out.1).mono ?_;rintro e w1 ⟨rfl,qq,hw1⟩;have B1:Hid (Below w.heap.size w w1):=aG HB0.out ⟨_,hw1⟩;clear hw1 hW0;go_wp2;go_ret;exact ⟨by rw [HR.out];first|rfl|simp,B1.out⟩
 | true =>
   go_enter Tryz.func17,Tryz.ntmps17;go_wp2_with fail;rw [<-hW0];refine (ET.out _ HX0.out.1 lU.out.1).mono ?_;rintro e w1 ⟨rfl,qq,hw1⟩;have B1:Hid (Below w.heap.size w w1):=aG HB0.out ⟨_,hw1⟩;have X1:Hid (Cw.Good w1 ⟨cm,cl,co,ct,ra,rn,bJ,rs⟩):=by rw [hw1];exact HX0.out.2
   have Y1:Hid (Cw.Good w1 ⟨dm,dl,dO,dt,qa,qn,qc,qs⟩):=by rw [hw1];exact lU.out.2
   have e1:∀p,w1.cell? p=W0.cell? p:=fun p=>by rw [hw1];rfl
   rw [<-e1] at k0 q0;rw [<-e1] at k1 q1;rw [<-e1] at k2 q2;rw [<-e1] at k3 q3;rw [<-e1] at k4 q4;rw [<-e1] at k5 q5;clear hw1 e1 hW0;go_wp2_with fail;refine (H8.out _ X1.out Y1.out).mono ?_;rintro e w2 ⟨rfl,hb2⟩;have B2:Hid (Below w.heap.size w w2):=B1.out.trans (hb2.mono B1.out.size);clear hb2;go_wp2;go_ret;exact ⟨by rw [HR.out];first|rfl|simp,B2.out⟩

end
end Go.Proofs.YtkiamgcpcneggaaGreat
