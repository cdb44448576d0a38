import Derived.Test.YtkiamgcpcneggaaGreatPackAL
import Derived.Test.YtkiamgcpcneggaaGreatPackAV
import Derived.Test.YtkiamgcpcneggaaGreatPackAW
import Derived.Test.YtkiamgcpcneggaaGreatFileRefC
set_option linter.all false
set_option maxRecDepth 100000
set_option maxHeartbeats 12800000
namespace Go.Proofs.YtkiamgcpcneggaaGreat
open Go.RowKit Tri Wlk

theorem YI (x:Iw) (r:Int) (w:World) (hx:x.Good w) (hn:x.c.n<=20000) (hr:Shp.chk x.im=r) :
 Calls Tryz.prog 15 #[x.v] w fun e w'=>e=.returned (.int .i64 r)/\Below w.heap.size w w':=by
 have HX_0a:=hdq hx;have HR:=hdq hr;obtain ⟨c,hc⟩:∃c,Tri.check (sts x.xs)=c:=⟨_,rfl⟩;obtain ⟨d,hd⟩:∃d,File.check x.c.c=d:=⟨_,rfl⟩;have HC:=hdq hc;have HD:=hdq hd;have HN:=hdq hn;have aN:Hid (∀o,Below w.heap.size w (w.alloc o)):=fun o=>(Below.refl _ w).alloc lrf o;have je:Hid (∀o,(w.alloc o).heap[w.heap.size]?=some o):=fun o=>han w o;clear hx hr hn hc hd;simp only [Iw.v];go_enter Tryz.func15,Tryz.ntmps15;go_wp2_with fail;refine (pW x.a x.n x.cap x.xs c _ (HX_0a.out.1.alloc _) HC.out).mono ?_;rintro e v1 ⟨rfl,hb⟩;have HB_0:Hid (Below w.heap.size w v1):=(aN.out _).trans (hb.mono smp);have HP_0:Hid (v1.heap[w.heap.size]?=some (.cells #[Value.slice x.a x.n x.cap,Value.int .u64 x.c.m,Value.int .u64 x.c.l,Value.int .u64 x.c.o,Value.int .u64 x.c.t,Value.slice x.c.a x.c.n x.c.cap] 28 (0,0))):=(hb.block _ smp).trans (je.out _);have HX_0:=hdq (HX_0a.out.below HB_0.out lrf);clear hb aN je HX_0a;obtain ⟨p0,p1,p2,p3,p4,p5⟩:=uM HP_0.out;go_wp2_with fail;refine (YH x.c d _ HX_0.out.2 HN.out HD.out).mono ?_;rintro e v2 ⟨rfl,hb⟩;clear p0 p1 p2 p3 p4 p5;have HP_1:=hdq ((hb.block _ (hltq HP_0.out)).trans HP_0.out);have HX_1:=hdq (HX_0.out.below hb lrf);have HB_1:=hdq (HB_0.out.trans (hb.mono HB_0.out.size));clear HP_0 HX_0 HB_0 hb
 cases c with
 | false =>
   obtain rfl:r=100:=by rw [<-HR.out];exact Xz HC.out
   go_wp2;go_ret;exact ⟨rfl,HB_1.out⟩
 | true =>
 have kK:Hid (Passed 1 x.im):=Passed.one HC.out
 cases d with
 | false =>
   obtain rfl:r=60:=by rw [<-HR.out];exact XA kK.out HD.out
   go_wp2;go_ret;exact ⟨rfl,HB_1.out⟩
 | true =>
 have eO:Hid (Passed 2 x.im):=kK.out.two HD.out;obtain ⟨m,hm⟩:∃m,dK (sts x.xs)=m:=⟨_,rfl⟩;have HM:=hdq hm;clear hm;have k0:=(uM HP_1.out).1;go_wp2_with fail;refine (Pw x.a x.n x.cap x.xs _ m HX_1.out.1 HM.out).mono ?_;rintro e v3 ⟨rfl,hb⟩;clear k0;have HP_2:=hdq ((hb.block _ (hltq HP_1.out)).trans HP_1.out);have HX_2:=hdq (HX_1.out.below hb lrf);have HB_2:=hdq (HB_1.out.trans (hb.mono HB_1.out.size));clear HP_1 HX_1 HB_1 hb;by_cases h3:300<m
 ·have Mg:(m:Int)>300:=omg;have h3d:decide ((m:Int)>300)=true:=decide_eq_true Mg;obtain rfl:r=81:=by rw [<-HR.out];exact XB eO.out (by show decide (300<dK (sts x.xs))=true;rw [HM.out];exact decide_eq_true h3)
  go_wp2;go_ret;exact ⟨rfl,HB_2.out⟩
 have Mg:¬(m:Int)>300:=omg;have h3d:decide ((m:Int)>300)=false:=decide_eq_false Mg;have jC:Hid (Passed 3 x.im):=eO.out.three (by show decide (300<dK (sts x.xs))=false;rw [HM.out];exact decide_eq_false h3);clear h3;obtain ⟨q,hq⟩:∃q,gT (sts x.xs)=q:=⟨_,rfl⟩;have HQ:=hdq hq;clear hq;have k0:=(uM HP_2.out).1;go_wp2_with fail;refine (alW x.a x.n x.cap x.xs _ q HX_2.out.1 HQ.out).mono ?_;rintro e v4 ⟨rfl,hb⟩;clear k0 Mg h3d;have HP_3:=hdq ((hb.block _ (hltq HP_2.out)).trans HP_2.out);have HX_3:=hdq (HX_2.out.below hb lrf);have HB_3:=hdq (HB_2.out.trans (hb.mono HB_2.out.size));clear HP_2 HX_2 HB_2 hb;by_cases h4:q>20
 ·have h4d:decide (q>20)=true:=decide_eq_true h4;obtain rfl:r=90:=by rw [<-HR.out];exact OH jC.out (by show (decide (20<gT (sts x.xs))||_)=true;rw [HQ.out,decide_eq_true h4];rfl)
  go_wp2;go_ret;exact ⟨rfl,HB_3.out⟩
 have h4d:decide (q>20)=false:=decide_eq_false h4;have hlen:=XD HX_3.out (jC.out.1 omg);have hal:=HX_3.out.1.one 0 hlen;have HA:Hid (x.a=x.a):=rfl;obtain ⟨b1,o1,f1,sa1,sn1,sc1,arcs,ha1,hbl,hc1,hc2,-,hz1⟩:=hal;obtain ⟨f,hf⟩:∃f,((sts x.xs).getD 0 Tri.St.no).final=f:=⟨_,rfl⟩;obtain rfl:f1=f:=by rw [<-hf,ic,hz1];rfl
 have k0:=(uM HP_3.out).1;rw [ha1] at k0;have k1:v4.cell? ⟨b1,o1,none⟩=some (.bool f1):=by rwa [Nat.zero_mul,Nat.add_zero] at hc1
 have k2:v4.cell? ⟨b1,o1+0,none⟩=some (.bool f1):=k1;have hsn:(0:Int)<(x.n:Int):=omg;have hsb:(0:Int)<=0/\(0:Int)<(x.n:Int):=⟨Int.le_refl _,hsn⟩;have HF:=hdq hf;have zV:Hid (decide (20<gT x.im.sts)=false):=by show decide (20<gT (sts x.xs))=false;rw [HQ.out];exact h4d
 clear hc1 hc2 hz1 hf ha1 hlen
 cases f1 with
 | true =>
   obtain rfl:r=90:=by rw [<-HR.out];exact OH jC.out (by show (_||((sts x.xs).getD 0 Tri.St.no).final)=true;rw [HF.out];simp)
   go_wp2;go_ret;exact ⟨rfl,HB_3.out⟩
 | false =>
   obtain rfl:r=0:=by rw [<-HR.out];exact XC (jC.out.four zV.out HF.out)
   go_wp2;go_ret;exact ⟨rfl,HB_3.out⟩
theorem amg (x:Iw) (L:LLI) (er:Int) (w:World) (hx:x.Good w) (hn:x.c.n<=20000) (hr:Shp.wrd x.im=(L,er)) :
 Calls Tryz.prog 11 #[x.v] w fun e w'=>JC w L er e w':=by
 have HX:=hdq hx;have Ak:=hdq hn;obtain ⟨r,hc⟩:∃r,Shp.chk x.im=r:=⟨_,rfl⟩;have HC:=hdq hc;have HR:=hdq hr;have je:Hid (∀o,(w.alloc o).heap[w.heap.size]?=some o):=fun o=>han w o;have uY:Hid (∀o:Obj,w.heap.size<(w.alloc o).heap.size):=fun o=>by show _<_;simp
 clear hx hr hc hn;simp only [Iw.v];go_enter Tryz.func11,Tryz.ntmps11;go_wp2_with (refine eQ rfq 28 (.tmp 1) rfq w.heap.size rfq 28 #[Value.slice x.a x.n x.cap,Value.int .u64 x.c.m,Value.int .u64 x.c.l,Value.int .u64 x.c.o,Value.int .u64 x.c.t,Value.slice x.c.a x.c.n x.c.cap] (0,0) _ (je.out _) Tryz.underlying28 rfq (show _=some (#[Value.slice x.a x.n x.cap,Value.int .u64 x.c.m,Value.int .u64 x.c.l,Value.int .u64 x.c.o,Value.int .u64 x.c.t,Value.slice x.c.a x.c.n x.c.cap]:Array Value).size from kF) ?_);refine (YI x r _ (HX.out.alloc _) Ak.out HC.out).mono ?_;rintro e w1 ⟨rfl,hb⟩;have HB:Hid (Below w.heap.size w w1):=yO rfl hb;have HP:Hid (w1.heap[w.heap.size]?=some (.cells #[Value.slice x.a x.n x.cap,Value.int .u64 x.c.m,Value.int .u64 x.c.l,Value.int .u64 x.c.o,Value.int .u64 x.c.t,Value.slice x.c.a x.c.n x.c.cap] 28 (0,0))):=(hb.block _ (uY.out _)).trans (je.out _);clear hb;by_cases h0:r=0
 ·subst h0;have hz:((0:Int)==0)=true:=rfl;have k0:w1.cell? ⟨w.heap.size,0,none⟩=some (.slice x.a x.n x.cap):=by simp [World.cell?,HP.out]
  have hw:kE (sts x.xs)=(L,er):=by
   obtain ⟨h1,-,h3,-,-⟩:=Shp.Xo HC.out;have hr:=HR.out;unfold Shp.wrd at hr;rw [if_pos HC.out] at hr;rw [<-hr];unfold kE;have h1':Tri.check (sts x.xs)=true:=h1;have h3':(wds (sts x.xs) 0).length<=300:=h3;exact (if_neg (by rw [h1'];exact Bool.noConfusion)).trans (if_neg omg)
  have HW:=hdq hw;clear hw;go_wp2_with fail;refine (ame x.a x.n x.cap x.xs _ L er (HX.out.below HB.out lrf).1 HW.out).mono ?_;rintro e w2 ⟨a',k,c',outs,rfl,hm,hn,hb⟩;have HM:=hdq (hm.lower HB.out.size);have HN:=hdq hn;have HB2:Hid (Below w.heap.size w w2):=HB.out.trans (hb.mono HB.out.size);clear hm hn hb;go_wp2;go_ret2;exact ⟨a',k,c',outs,rfl,HM.out,HN.out,HB2.out⟩
 ·have hz:(r==0)=false:=by simp [h0]
  have hw:=HR.out;unfold Shp.wrd at hw;rw [HC.out,if_neg h0] at hw;obtain ⟨rfl,rfl⟩:=Prod.mk.inj hw;clear hw;go_wp2;go_ret2;exact ⟨none,0,0,[],rfl,Ml.start _ _,rfl,HB.out⟩

theorem amh (a:OAd) (n cap:Nat) (xs:List Wd) (c:Cw) (g:Img.Im × Int) (w:World) (hs:Ws w a n cap xs) (hnil:a=none->cap=0) (hc:c.Good w) (hcn:c.n<=20000) (hnc:c.a=none->c.cap=0) (hg:Shp.mk (nums xs) c.c=g) :
 Calls Tryz.prog 13 #[.slice a n cap,c.v] w fun e w'=>wK w w' e g:=by
 obtain ⟨m,l,o,t,ra,rn,bJ,rs⟩:=c;obtain ⟨⟨L,er⟩,hd⟩:∃p,og (nums xs)=p:=⟨_,rfl⟩;obtain ⟨d,BN⟩:∃d,File.check (Cw.c ⟨m,l,o,t,ra,rn,bJ,rs⟩)=d:=⟨_,rfl⟩;have HS:=hdq hs;have qj:Hid (rn<=20000):=hcn;have LY:Hid (ra=none->bJ=0):=hnc;have fu:=hdq hnil;have HC:=hdq hc;have HD:=hdq hd;have xS:=hdq BN;have HG:=hdq hg;obtain ⟨W0,hW0⟩:∃W,W=(w.alloc (.cells #[Value.int .u64 m,Value.int .u64 l,Value.int .u64 o,Value.int .u64 t,Value.slice ra rn bJ] 26)).alloc (.cells #[Value.slice none 0 0,Value.int .u64 0,Value.int .u64 0,Value.int .u64 0,Value.int .u64 0,Value.slice none 0 0] 28):=⟨_,rfl⟩;have hs0:W0.heap.size=w.heap.size+1+1:=by rw [hW0,World.size_alloc,World.size_alloc]
 have hb0:Below w.heap.size w W0:=by rw [hW0];exact ((Below.refl _ w).alloc lrf _).alloc smp _
 have hp0:W0.heap[w.heap.size]?=some (.cells #[Value.int .u64 m,Value.int .u64 l,Value.int .u64 o,Value.int .u64 t,Value.slice ra rn bJ] 26 (0,0)):=by
  rw [hW0,((Below.refl (w.alloc _).heap.size (w.alloc _)).alloc lrf _).block _ smp];exact han w _
 have hz0:W0.heap[w.heap.size+1]?=some (.cells #[Value.slice none 0 0,Value.int .u64 0,Value.int .u64 0,Value.int .u64 0,Value.int .u64 0,Value.slice none 0 0] 28 (0,0)):=by
  have h:=han (w.alloc (.cells #[Value.int .u64 m,Value.int .u64 l,Value.int .u64 o,Value.int .u64 t,Value.slice ra rn bJ] 26)) (.cells #[Value.slice none 0 0,Value.int .u64 0,Value.int .u64 0,Value.int .u64 0,Value.int .u64 0,Value.slice none 0 0] 28);rw [World.size_alloc] at h;rw [hW0];exact h
 have dA:=hdq hs0;have HB0:=hdq hb0;have ou:=hdq hp0;have HZ0:=hdq hz0;have HW0:=hdq hW0;clear hs hnil hc hcn hnc hd BN hg hs0 hb0 hp0 hz0 hW0;show Calls _ _ #[.slice a n cap,.agg #[Value.int .u64 m,Value.int .u64 l,Value.int .u64 o,Value.int .u64 t,Value.slice ra rn bJ]] w _;go_enter Tryz.func13,Tryz.ntmps13;go_wp2_with fail;rw [<-HW0.out];refine (alO a n cap xs (L,er) W0 (HS.out.below HB0.out lrf) fu.out HD.out).mono ?_;rintro e w1 ⟨a1,n1,c1,ys,rfl,hs1,hst,Hm,hb⟩;have bR:=hdq hs1;have HST:=hdq hst;have Tc:=hdq Hm;have HB1:Hid (Below w.heap.size w w1):=HB0.out.trans (hb.mono HB0.out.size);have kK:Hid (w1.heap[w.heap.size]?=some (.cells #[Value.int .u64 m,Value.int .u64 l,Value.int .u64 o,Value.int .u64 t,Value.slice ra rn bJ] 26 (0,0))):=(hb.block _ (by rw [dA.out];omega)).trans ou.out;have HZ1:Hid (w1.heap[w.heap.size+1]?=some (.cells #[Value.slice none 0 0,Value.int .u64 0,Value.int .u64 0,Value.int .u64 0,Value.int .u64 0,Value.slice none 0 0] 28 (0,0))):=(hb.block _ (by rw [dA.out];omega)).trans HZ0.out;clear hs1 hst Hm hb ou HZ0 HB0 HW0;have hG:=HG.out;unfold Shp.mk at hG;rw [HD.out] at hG;by_cases h0:er=0
 ·subst h0;rw [if_pos rfl] at hG;have hz:((0:Int)==0)=true:=rfl;have ru:=hdq hG;clear hG;go_wp2_with (refine eQ rfq 26 (.tmp 3) rfq w.heap.size rfq 26 #[Value.int .u64 m,Value.int .u64 l,Value.int .u64 o,Value.int .u64 t,Value.slice ra rn bJ] (0,0) _ kK.out Tryz.underlying26 rfq (show _=some (#[Value.int .u64 m,Value.int .u64 l,Value.int .u64 o,Value.int .u64 t,Value.slice ra rn bJ]:Array Value).size from uD) ?_);refine (YH ⟨m,l,o,t,ra,rn,bJ,rs⟩ d _ (HC.out.below HB1.out lrf) qj.out xS.out).mono ?_;rintro e w2 ⟨rfl,hb⟩;have HB2:Hid (Below w.heap.size w w2):=HB1.out.trans (hb.mono HB1.out.size);have eO:Hid (w2.heap[w.heap.size]?=some (.cells #[Value.int .u64 m,Value.int .u64 l,Value.int .u64 o,Value.int .u64 t,Value.slice ra rn bJ] 26 (0,0))):=(hb.block _ (hltq kK.out)).trans kK.out;have HZ2:Hid (w2.heap[w.heap.size+1]?=some (.cells #[Value.slice none 0 0,Value.int .u64 0,Value.int .u64 0,Value.int .u64 0,Value.int .u64 0,Value.slice none 0 0] 28 (0,0))):=(hb.block _ (hltq HZ1.out)).trans HZ1.out;have HS2:=hdq (bR.out.below hb lrf);clear hb
  cases d with
  | false =>
    obtain rfl:g=(Img.Im.no,60):=by
     have h:=ru.out;rw [if_neg (by rw [xS.out];exact Bool.noConfusion)] at h;exact h.symm
    go_wp2_with (refine gQ rfq 28 (.tmp 4) (.tmp 22) rfq (w.heap.size+1) #[Value.slice none 0 0,Value.int .u64 0,Value.int .u64 0,Value.int .u64 0,Value.int .u64 0,Value.slice none 0 0] rfq rfq 28 #[Value.slice none 0 0,Value.int .u64 0,Value.int .u64 0,Value.int .u64 0,Value.int .u64 0,Value.slice none 0 0] HZ2.out (show _=some (#[Value.slice none 0 0,Value.int .u64 0,Value.int .u64 0,Value.int .u64 0,Value.int .u64 0,Value.slice none 0 0]:Array Value).size from kF) rfl (by simp [Value.oneCell']) ?_;intro w9 jv jw ow;have jb:=hdq jv;have lJ:=hdq jw;clear jv jw ow);refine bodyPost_ret (mW rfq _ _ (w.heap.size+1) 28 _ (0,0) _ rfq jb.out Tryz.underlying28 rfq krf) rfl ?_;exact wK.no (HB2.out.grown lJ.out HB2.out.size (fun k hk=>by cases hk;omega))
  | true =>
    obtain rfl:g=(⟨L,Cw.c ⟨m,l,o,t,ra,rn,bJ,rs⟩⟩,0):=by
     have h:=ru.out;rw [if_pos xS.out] at h;exact h.symm
    go_wp2_with first
     | (refine eQ rfq 26 (.tmp 3) rfq w.heap.size rfq 26 #[Value.int .u64 m,Value.int .u64 l,Value.int .u64 o,Value.int .u64 t,Value.slice ra rn bJ] (0,0) _ eO.out Tryz.underlying26 rfq (show _=some (#[Value.int .u64 m,Value.int .u64 l,Value.int .u64 o,Value.int .u64 t,Value.slice ra rn bJ]:Array Value).size from uD) ?_)
     | (refine gQ rfq 28 (.tmp 4) (.tmp 25) rfq (w.heap.size+1) #[Value.slice a1 n1 c1,Value.int .u64 m,Value.int .u64 l,Value.int .u64 o,Value.int .u64 t,Value.slice ra rn bJ] rfq rfq 28 #[Value.slice none 0 0,Value.int .u64 0,Value.int .u64 0,Value.int .u64 0,Value.int .u64 0,Value.slice none 0 0] HZ2.out (show _=some (#[Value.slice a1 n1 c1,Value.int .u64 m,Value.int .u64 l,Value.int .u64 o,Value.int .u64 t,Value.slice ra rn bJ]:Array Value).size from kF) rfl (by simp [Value.oneCell']) ?_;intro w9 jv jw ow;have jb:=hdq jv;have lJ:=hdq jw;clear jv jw ow)
    refine bodyPost_ret (mW rfq _ _ (w.heap.size+1) 28 _ (0,0) _ rfq jb.out Tryz.underlying28 rfq krf) rfl ?_;refine ⟨⟨a1,n1,c1,ys,⟨m,l,o,t,ra,rn,bJ,rs⟩⟩,rfl,?_,?_,⟨Tc.out,LY.out⟩,HB2.out.grown lJ.out HB2.out.size (fun k hk=>by cases hk;omega)⟩
    ·exact Iw.Good.notAt HZ2.out Yo lJ.out ⟨HS2.out,HC.out.below HB2.out lrf⟩
    ·show Img.Im.mk _ _=Img.Im.mk _ _;rw [show sts ys=L from HST.out]
 ·rw [if_neg h0] at hG;subst hG;have hz:(er==0)=false:=by simp [h0]
  go_wp2_with (refine gQ rfq 28 (.tmp 4) (.tmp 16) rfq (w.heap.size+1) #[Value.slice none 0 0,Value.int .u64 0,Value.int .u64 0,Value.int .u64 0,Value.int .u64 0,Value.slice none 0 0] rfq rfq 28 #[Value.slice none 0 0,Value.int .u64 0,Value.int .u64 0,Value.int .u64 0,Value.int .u64 0,Value.slice none 0 0] HZ1.out (show _=some (#[Value.slice none 0 0,Value.int .u64 0,Value.int .u64 0,Value.int .u64 0,Value.int .u64 0,Value.slice none 0 0]:Array Value).size from kF) rfl (by simp [Value.oneCell']) ?_;intro w9 jv jw ow;have jb:=hdq jv;have lJ:=hdq jw;clear jv jw ow);refine bodyPost_ret (mW rfq _ _ (w.heap.size+1) 28 _ (0,0) _ rfq jb.out Tryz.underlying28 rfq krf) rfl ?_;exact wK.no (HB1.out.grown lJ.out HB1.out.size (fun k hk=>by cases hk;omega))

end Go.Proofs.YtkiamgcpcneggaaGreat
