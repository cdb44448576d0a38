import Derived.Test.YtkiamgcpcneggaaGreatPackR
import Derived.Test.YtkiamgcpcneggaaGreatPackZ
set_option linter.all false
set_option maxRecDepth 100000
set_option maxHeartbeats 12800000
namespace Go.Proofs.YtkiamgcpcneggaaGreat
section
open Go.RowKit Wlk

theorem yO {w w':World} {o:Obj} {B:Nat} (hB:B=w.heap.size) (hb:Below (w.alloc o).heap.size (w.alloc o) w'):Below B w w':=by
 subst hB;exact ((Below.refl _ w).alloc lrf o).trans (hb.mono smp)
theorem aiU (x:Iw) (r:Bool) (w:World) (hx:x.Good w) (hr:Tri.check (sts x.xs)=r) :
 Calls Tryz.prog 79 #[x.v] w fun e w'=>e=.returned (.bool (!r))/\Below w.heap.size w w':=by
 obtain ⟨sa,sn,sc,xs,cm,cl,co,ct,ra,rn,bJ,rs⟩:=x;have HX:=hdq hx;have HR:=hdq hr;clear hx hr;simp only [Iw.v];go_enter Tryz.func79,Tryz.ntmps79;go_wp2_with fail;refine (uE sa sn sc xs r _ (HX.out.1.alloc _) HR.out).mono ?_;rintro e w1 ⟨rfl,hb⟩;have HB:=hdq (yO rfl hb);clear hb;go_wp2;go_ret;exact ⟨rfl,HB.out⟩
theorem aiV (x:Iw) (r:Bool) (w:World) (hx:x.Good w) (hr:File.check x.c.c=r) :
 Calls Tryz.prog 80 #[x.v] w fun e w'=>e=.returned (.bool (!r))/\Below w.heap.size w w':=by
 obtain ⟨sa,sn,sc,xs,cm,cl,co,ct,ra,rn,bJ,rs⟩:=x;have HX:=hdq hx;have HR:=hdq hr;clear hx hr;simp only [Iw.v];go_enter Tryz.func80,Tryz.ntmps80;go_wp2_with fail;refine (Vz ⟨cm,cl,co,ct,ra,rn,bJ,rs⟩ r _ (HX.out.2.alloc _) HR.out).mono ?_;rintro e w1 ⟨rfl,hb⟩;have HB:=hdq (yO rfl hb);clear hb;go_wp2;go_ret;exact ⟨rfl,HB.out⟩
theorem aiW (x:Iw) (r:Bool) (w:World) (hx:x.Good w) (hr:decide (300<dK (sts x.xs))=r) :
 Calls Tryz.prog 81 #[x.v] w fun e w'=>e=.returned (.bool r)/\Below w.heap.size w w':=by
 obtain ⟨sa,sn,sc,xs,cm,cl,co,ct,ra,rn,bJ,rs⟩:=x;have HX:=hdq hx;obtain ⟨m,hm⟩:∃m,dK (sts xs)=m:=⟨_,rfl⟩;have hr':decide (300<m)=r:=by rw [<-hm];exact hr
 have HM:=hdq hm;clear hx hr hm
 have HR:Hid (decide ((m:Int)>300)=r):=by
  show _=_;rw [<-hr'];by_cases h:300<m
  ·rw [decide_eq_true h,decide_eq_true omg]
  ·rw [decide_eq_false h,decide_eq_false omg]
 clear hr';simp only [Iw.v];go_enter Tryz.func81,Tryz.ntmps81;go_wp2_with fail;refine (Ot sa sn sc xs _ m (HX.out.1.alloc _) HM.out).mono ?_;rintro e w1 ⟨rfl,hb⟩;have HB:=hdq (yO rfl hb);clear hb;have hR:=HR.out;go_wp2;go_ret;exact ⟨rfl,HB.out⟩
theorem aiX (x:Iw) (d f:Bool) (w:World) (hx:x.Good w) (h0:0<x.n) (hd:decide (20<gT (sts x.xs))=d) (hf:((sts x.xs).getD 0 Tri.St.no).final=f) :
 Calls Tryz.prog 82 #[x.v] w fun e w'=>e=.returned (.bool (d||f))/\Below w.heap.size w w':=by
 obtain ⟨sa,sn,sc,xs,cm,cl,co,ct,ra,rn,bJ,rs⟩:=x;have hx1:Ss w sa sn sc xs:=hx.1;have h0':0<sn:=h0;obtain ⟨b1,o1,f1,sa1,sn1,sc1,arcs,rfl,hbl,hc1,hc2,-,hz1⟩:=hx1.one 0 h0'
 obtain rfl:f1=f:=by
  rw [<-hf];show f1=((sts xs).getD 0 Tri.St.no).final;rw [ic,hz1];rfl
 have HX:=hdq hx1;obtain ⟨m,hm⟩:∃m,gT (sts xs)=m:=⟨_,rfl⟩;have hd':decide (20<m)=d:=by rw [<-hm];exact hd
 have HM:=hdq hm;have HC:=hdq hc1;have kM:=hdq hbl;have hsn:(0:Int)<(sn:Int):=omg;have hsb:(0:Int)<=0/\(0:Int)<(sn:Int):=⟨Int.le_refl _,hsn⟩;clear hx hd hm hf hx1 h0 h0' hc1 hc2 hz1 hbl;have HR:Hid (decide (m>20)=d):=hd';clear hd';simp only [Iw.v];go_enter Tryz.func82,Tryz.ntmps82;go_wp2_with fail;refine (aiF _ sn sc xs _ m (HX.out.alloc _) HM.out).mono ?_;rintro e w1 ⟨rfl,hb⟩
 have k0:w1.cell? ⟨w.heap.size,0,none⟩=some (.slice (some ⟨b1,o1,none⟩) sn sc):=by
  rw [hb.cell (p:=⟨w.heap.size,0,none⟩) smp,World.cell?_alloc_at _ _ _ _ rfq];rfl
 have HB:=hdq (yO rfl hb)
 have k1:w1.cell? ⟨b1,o1,none⟩=some (.bool f1):=by
  rw [HB.out.cell (p:=⟨b1,o1,none⟩) kM.out];have h:=HC.out
  rwa [Nat.zero_mul,Nat.add_zero] at h
 have k2:w1.cell? ⟨b1,o1+0,none⟩=some (.bool f1):=k1;clear hb;have hR:=HR.out;cases d
 ·go_wp2;go_ret;exact ⟨rfl,HB.out⟩
 ·go_wp2;go_ret;exact ⟨rfl,HB.out⟩
theorem aiY (w:World) :
 Calls Tryz.prog 34 #[] w fun e w'=>e=.returned (.agg #[.func (.func 79) #[] #[],.int .i64 100,.func (.func 80) #[] #[],.int .i64 60,.func (.func 81) #[] #[],.int .i64 81,.func (.func 82) #[] #[],.int .i64 90])/\Below w.heap.size w w':=by
 have HB:Hid (Below w.heap.size w w):=Below.refl _ _;go_enter Tryz.func34,Tryz.ntmps34;go_wp2_with (refine gQ rfq 67 (.tmp 0) (.tmp 5) rfq w.heap.size #[Value.func (.func 79) #[] #[],Value.int .i64 100,Value.func (.func 80) #[] #[],Value.int .i64 60,Value.func (.func 81) #[] #[],Value.int .i64 81,Value.func (.func 82) #[] #[],Value.int .i64 90] rfq rfq 67 #[Value.nilFunc,Value.int .i64 0,Value.nilFunc,Value.int .i64 0,Value.nilFunc,Value.int .i64 0,Value.nilFunc,Value.int .i64 0] (han _ _) krf rfl (by simp [Value.oneCell']) ?_;intro w2 oQ hg2 hs2;have HH2:=hdq oQ;have HB2:=hdq (ma HB.out hg2);clear oQ hg2 hs2);exact bodyPost_ret (results_cell_row rfq _ _ w.heap.size 67 _ (0,0) _ rfq HH2.out Tryz.underlying67 rfq krf) rfl ⟨rfl,HB2.out⟩
end
section
open Go.RowKit Wlk

theorem kF:(Tryz.prog.info? 28).map (·.size)=some 6:=krf
def Passed (k:Nat) (x:Img.Im):Prop :=
 (0<k->Tri.check x.sts=true)/\(1<k->File.check x.c=true)/\(2<k->decide (300<dK x.sts)=false)/\(3<k->decide (20<gT x.sts)=false/\(x.sts.getD 0 Tri.St.no).final=false)
theorem Passed.zero (x:Img.Im):Passed 0 x:=⟨fun h=>absurd h omg,fun h=>absurd h omg,fun h=>absurd h omg,fun h=>absurd h omg⟩
theorem Passed.one {x:Img.Im} (h:Tri.check x.sts=true):Passed 1 x:=⟨fun _=>h,fun h=>absurd h omg,fun h=>absurd h omg,fun h=>absurd h omg⟩
theorem Passed.two {x:Img.Im} (h:Passed 1 x) (h2:File.check x.c=true):Passed 2 x:=⟨fun _=>h.1 omg,fun _=>h2,fun h=>absurd h omg,fun h=>absurd h omg⟩
theorem Passed.three {x:Img.Im} (h:Passed 2 x) (h2:decide (300<dK x.sts)=false):Passed 3 x:=⟨fun _=>h.1 omg,fun _=>h.2.1 omg,fun _=>h2,fun h=>absurd h omg⟩
theorem Passed.four {x:Img.Im} (h:Passed 3 x) (h2:decide (20<gT x.sts)=false) (h3:(x.sts.getD 0 Tri.St.no).final=false):Passed 4 x:=⟨fun _=>h.1 omg,fun _=>h.2.1 omg,fun _=>h.2.2.1 omg,fun _=>⟨h2,h3⟩⟩
theorem Xz {x:Img.Im} (h:Tri.check x.sts=false):Shp.chk x=100:=Shp.Xp h
theorem XA {x:Img.Im} (h:Passed 1 x) (h2:File.check x.c=false):Shp.chk x=60:=(Shp.aje (h.1 omg)).2 h2
theorem XB {x:Img.Im} (h:Passed 2 x) (h2:decide (300<dK x.sts)=true):Shp.chk x=81:=by
 unfold Shp.chk;rw [if_neg (by rw [h.1 omg];exact Bool.noConfusion),if_neg (by rw [h.2.1 omg];exact Bool.noConfusion),if_pos (of_decide_eq_true h2)]
theorem OH {x:Img.Im} (h:Passed 3 x) (h2:(decide (20<gT x.sts)||(x.sts.getD 0 Tri.St.no).final)=true):Shp.chk x=90:=by
 unfold Shp.chk;rw [if_neg (by rw [h.1 omg];exact Bool.noConfusion),if_neg (by rw [h.2.1 omg];exact Bool.noConfusion),if_neg (of_decide_eq_false (h.2.2.1 omg))];by_cases h3:20<gT x.sts
 ·rw [if_pos h3]
 ·rw [if_neg h3,if_pos (by rw [decide_eq_false h3] at h2;exact h2)]
theorem XC {x:Img.Im} (h:Passed 4 x):Shp.chk x=0:=by
 unfold Shp.chk;rw [if_neg (by rw [h.1 omg];exact Bool.noConfusion),if_neg (by rw [h.2.1 omg];exact Bool.noConfusion),if_neg (of_decide_eq_false (h.2.2.1 omg)),if_neg (of_decide_eq_false (h.2.2.2 omg).1),if_neg (by rw [(h.2.2.2 omg).2];exact Bool.noConfusion)]
theorem XD {w:World} {x:Iw} (hx:x.Good w) (h:Tri.check x.im.sts=true):0<x.n:=by
 have h1:=(Tri.jo h).1;have h2:x.im.sts.length=x.n:=by show (sts x.xs).length=_;rw [fq,hx.1.1]
 omega

theorem XE {a b:Bool} (h:(a||b)=false):a=false/\b=false:=by cases a<;>cases b<;>first|exact ⟨rfl,rfl⟩|cases h
theorem JD (x:Iw) (r:Int) (w:World) (hx:x.Good w) (hr:Shp.chk x.im=r) :
 Calls Tryz.prog 14 #[x.v] w fun e w'=>e=.returned (.int .i64 r)/\Below w.heap.size w w':=by
 have HX:=hdq hx;have HR:=hdq hr;have je:Hid (∀o,(w.alloc o).heap[w.heap.size]?=some o):=fun o=>han w o;have uY:Hid (∀o:Obj,w.heap.size<(w.alloc o).heap.size):=fun o=>by show _<_;simp
 clear hx hr;simp only [Iw.v];go_enter Tryz.func14,Tryz.ntmps14;go_wp2_with fail;refine (aiY _).mono ?_;rintro e w1 ⟨rfl,hb⟩;have HB:Hid (Below w.heap.size w w1):=yO rfl hb;have HP:Hid (w1.heap[w.heap.size]?=some (.cells #[Value.slice x.a x.n x.cap,Value.int .u64 x.c.m,Value.int .u64 x.c.l,Value.int .u64 x.c.o,Value.int .u64 x.c.t,Value.slice x.c.a x.c.n x.c.cap] 28 (0,0))):=(hb.block _ (uY.out _)).trans (je.out _);clear hb;go_wp2;go_loopw [6] (fun ix wr=>((ix=.int .i64 0/\Hid (Passed 0 x.im))\/(ix=.int .i64 1/\Hid (Passed 1 x.im))\/(ix=.int .i64 2/\Hid (Passed 2 x.im))\/(ix=.int .i64 3/\Hid (Passed 3 x.im))\/(ix=.int .i64 4/\Hid (Passed 4 x.im)))/\Hid (Below w.heap.size w wr)/\Hid (wr.heap[w.heap.size]?=some (.cells #[Value.slice x.a x.n x.cap,Value.int .u64 x.c.m,Value.int .u64 x.c.l,Value.int .u64 x.c.o,Value.int .u64 x.c.t,Value.slice x.c.a x.c.n x.c.cap] 28 (0,0)))) (fun ix _=>4-(intOf ix).toNat)
 case atStart=>exact ⟨.inl ⟨rfl,Passed.zero _⟩,HB.out,HP.out⟩
 case round =>
  obtain ⟨hk,ai,gM⟩:=hrel;have FO:=hdq (HX.out.below ai.out lrf);clear HB HP;rcases hk with ⟨rfl,eB⟩|⟨rfl,eB⟩|⟨rfl,eB⟩|⟨rfl,eB⟩|⟨rfl,eB⟩
  ·obtain ⟨d,hd⟩:∃d,Tri.check (sts x.xs)=d:=⟨_,rfl⟩;have HD:=hdq hd;clear hd;have QW:∀w,(Instr.index 67 (.agg #[Value.func (.func 79) #[] #[],Value.int .i64 100,Value.func (.func 80) #[] #[],Value.int .i64 60,Value.func (.func 81) #[] #[],Value.int .i64 81,Value.func (.func 82) #[] #[],Value.int .i64 90]) (.int .i64 0)).run Tryz.prog w=.ok (.agg #[Value.func (.func 79) #[] #[],Value.int .i64 100]) w:=fun _=>by kernel_rfl
   go_wp2_with first
    | (refine gQ rfq 66 (.tmp 4) (.tmp 8) rfq wr.heap.size #[Value.func (.func 79) #[] #[],Value.int .i64 100] rfq rfq 66 #[Value.nilFunc,Value.int .i64 0] (han _ _) krf rfl (by simp [Value.oneCell']) ?_;intro w3 hh3 hg3 hs3;have HB3:=hdq (ma (Below.refl wr.heap.size wr) hg3);have rW:=hdq hh3;have jC:=hdq ((HB3.out.block _ (hltq gM.out)).trans gM.out);have k3:w3.cell? ⟨wr.heap.size,0,none⟩=some (Value.func (.func 79) #[] #[]):=(by rw [cell_of_row w3 _ 0 _ _ _ hh3];rfl);clear hh3 hg3 hs3)
    | (refine eQ rfq 28 (.tmp 1) rfq w.heap.size rfq 28 #[Value.slice x.a x.n x.cap,Value.int .u64 x.c.m,Value.int .u64 x.c.l,Value.int .u64 x.c.o,Value.int .u64 x.c.t,Value.slice x.c.a x.c.n x.c.cap] (0,0) _ jC.out Tryz.underlying28 rfq (show _=some (#[Value.slice x.a x.n x.cap,Value.int .u64 x.c.m,Value.int .u64 x.c.l,Value.int .u64 x.c.o,Value.int .u64 x.c.t,Value.slice x.c.a x.c.n x.c.cap]:Array Value).size from kF) ?_)
   refine (aiU x d _ (FO.out.below HB3.out lrf) HD.out).mono ?_;rintro e w2 ⟨rfl,hb⟩;have aN:Hid (Below wr.heap.size wr w2):=HB3.out.trans (hb.mono HB3.out.size);have HB2:Hid (Below w.heap.size w w2):=ai.out.trans (aN.out.mono ai.out.size);have eO:=hdq ((aN.out.block _ (hltq gM.out)).trans gM.out);have k4:w2.cell? ⟨wr.heap.size,1,none⟩=some (.int .i64 100):=by rw [cell_of_row w2 _ 1 _ _ _ ((hb.block _ (hltq rW.out)).trans rW.out)];rfl
   clear hb k3
   cases d with
   | false =>
     obtain rfl:r=100:=by rw [<-HR.out];exact Xz HD.out
     go_wp2;go_ret;exact ⟨rfl,HB2.out⟩
   | true =>
     go_wp2;go_roundw
     case rel=>exact ⟨.inr (.inl ⟨by first|rfl|go_num,Passed.one HD.out⟩),HB2.out,eO.out⟩
     case measure=>simp [intOf]
  ·obtain ⟨d,hd⟩:∃d,File.check x.c.c=d:=⟨_,rfl⟩;have HD:=hdq hd;clear hd;have QW:∀w,(Instr.index 67 (.agg #[Value.func (.func 79) #[] #[],Value.int .i64 100,Value.func (.func 80) #[] #[],Value.int .i64 60,Value.func (.func 81) #[] #[],Value.int .i64 81,Value.func (.func 82) #[] #[],Value.int .i64 90]) (.int .i64 1)).run Tryz.prog w=.ok (.agg #[Value.func (.func 80) #[] #[],Value.int .i64 60]) w:=fun _=>by kernel_rfl
   go_wp2_with first
    | (refine gQ rfq 66 (.tmp 4) (.tmp 8) rfq wr.heap.size #[Value.func (.func 80) #[] #[],Value.int .i64 60] rfq rfq 66 #[Value.nilFunc,Value.int .i64 0] (han _ _) krf rfl (by simp [Value.oneCell']) ?_;intro w3 hh3 hg3 hs3;have HB3:=hdq (ma (Below.refl wr.heap.size wr) hg3);have rW:=hdq hh3;have jC:=hdq ((HB3.out.block _ (hltq gM.out)).trans gM.out);have k3:w3.cell? ⟨wr.heap.size,0,none⟩=some (Value.func (.func 80) #[] #[]):=(by rw [cell_of_row w3 _ 0 _ _ _ hh3];rfl);clear hh3 hg3 hs3)
    | (refine eQ rfq 28 (.tmp 1) rfq w.heap.size rfq 28 #[Value.slice x.a x.n x.cap,Value.int .u64 x.c.m,Value.int .u64 x.c.l,Value.int .u64 x.c.o,Value.int .u64 x.c.t,Value.slice x.c.a x.c.n x.c.cap] (0,0) _ jC.out Tryz.underlying28 rfq (show _=some (#[Value.slice x.a x.n x.cap,Value.int .u64 x.c.m,Value.int .u64 x.c.l,Value.int .u64 x.c.o,Value.int .u64 x.c.t,Value.slice x.c.a x.c.n x.c.cap]:Array Value).size from kF) ?_)
   refine (aiV x d _ (FO.out.below HB3.out lrf) HD.out).mono ?_;rintro e w2 ⟨rfl,hb⟩;have aN:Hid (Below wr.heap.size wr w2):=HB3.out.trans (hb.mono HB3.out.size);have HB2:Hid (Below w.heap.size w w2):=ai.out.trans (aN.out.mono ai.out.size);have eO:=hdq ((aN.out.block _ (hltq gM.out)).trans gM.out);have k4:w2.cell? ⟨wr.heap.size,1,none⟩=some (.int .i64 60):=by rw [cell_of_row w2 _ 1 _ _ _ ((hb.block _ (hltq rW.out)).trans rW.out)];rfl
   clear hb k3
   cases d with
   | false =>
     obtain rfl:r=60:=by rw [<-HR.out];exact XA eB.out HD.out
     go_wp2;go_ret;exact ⟨rfl,HB2.out⟩
   | true =>
     go_wp2;go_roundw
     case rel=>exact ⟨.inr (.inr (.inl ⟨by first|rfl|go_num,eB.out.two HD.out⟩)),HB2.out,eO.out⟩
     case measure=>simp [intOf]
  ·obtain ⟨d,hd⟩:∃d,decide (300<dK (sts x.xs))=d:=⟨_,rfl⟩;have HD:=hdq hd;clear hd;have QW:∀w,(Instr.index 67 (.agg #[Value.func (.func 79) #[] #[],Value.int .i64 100,Value.func (.func 80) #[] #[],Value.int .i64 60,Value.func (.func 81) #[] #[],Value.int .i64 81,Value.func (.func 82) #[] #[],Value.int .i64 90]) (.int .i64 2)).run Tryz.prog w=.ok (.agg #[Value.func (.func 81) #[] #[],Value.int .i64 81]) w:=fun _=>by kernel_rfl
   go_wp2_with first
    | (refine gQ rfq 66 (.tmp 4) (.tmp 8) rfq wr.heap.size #[Value.func (.func 81) #[] #[],Value.int .i64 81] rfq rfq 66 #[Value.nilFunc,Value.int .i64 0] (han _ _) krf rfl (by simp [Value.oneCell']) ?_;intro w3 hh3 hg3 hs3;have HB3:=hdq (ma (Below.refl wr.heap.size wr) hg3);have rW:=hdq hh3;have jC:=hdq ((HB3.out.block _ (hltq gM.out)).trans gM.out);have k3:w3.cell? ⟨wr.heap.size,0,none⟩=some (Value.func (.func 81) #[] #[]):=(by rw [cell_of_row w3 _ 0 _ _ _ hh3];rfl);clear hh3 hg3 hs3)
    | (refine eQ rfq 28 (.tmp 1) rfq w.heap.size rfq 28 #[Value.slice x.a x.n x.cap,Value.int .u64 x.c.m,Value.int .u64 x.c.l,Value.int .u64 x.c.o,Value.int .u64 x.c.t,Value.slice x.c.a x.c.n x.c.cap] (0,0) _ jC.out Tryz.underlying28 rfq (show _=some (#[Value.slice x.a x.n x.cap,Value.int .u64 x.c.m,Value.int .u64 x.c.l,Value.int .u64 x.c.o,Value.int .u64 x.c.t,Value.slice x.c.a x.c.n x.c.cap]:Array Value).size from kF) ?_)
   refine (aiW x d _ (FO.out.below HB3.out lrf) HD.out).mono ?_;rintro e w2 ⟨rfl,hb⟩;have aN:Hid (Below wr.heap.size wr w2):=HB3.out.trans (hb.mono HB3.out.size);have HB2:Hid (Below w.heap.size w w2):=ai.out.trans (aN.out.mono ai.out.size);have eO:=hdq ((aN.out.block _ (hltq gM.out)).trans gM.out);have k4:w2.cell? ⟨wr.heap.size,1,none⟩=some (.int .i64 81):=by rw [cell_of_row w2 _ 1 _ _ _ ((hb.block _ (hltq rW.out)).trans rW.out)];rfl
   clear hb k3
   cases d with
   | true =>
     obtain rfl:r=81:=by rw [<-HR.out];exact XB eB.out HD.out
     go_wp2;go_ret;exact ⟨rfl,HB2.out⟩
   | false =>
     go_wp2;go_roundw
     case rel=>exact ⟨.inr (.inr (.inr (.inl ⟨by first|rfl|go_num,eB.out.three HD.out⟩))),HB2.out,eO.out⟩
     case measure=>simp [intOf]
  ·obtain ⟨d1,hd1⟩:∃d,decide (20<gT (sts x.xs))=d:=⟨_,rfl⟩;obtain ⟨d2,hd2⟩:∃d,((sts x.xs).getD 0 Tri.St.no).final=d:=⟨_,rfl⟩;obtain ⟨d,hd⟩:∃d,(d1||d2)=d:=⟨_,rfl⟩;have HD1:=hdq hd1;have HD2:=hdq hd2;have HD:=hdq hd;clear hd hd1 hd2;have QW:∀w,(Instr.index 67 (.agg #[Value.func (.func 79) #[] #[],Value.int .i64 100,Value.func (.func 80) #[] #[],Value.int .i64 60,Value.func (.func 81) #[] #[],Value.int .i64 81,Value.func (.func 82) #[] #[],Value.int .i64 90]) (.int .i64 3)).run Tryz.prog w=.ok (.agg #[Value.func (.func 82) #[] #[],Value.int .i64 90]) w:=fun _=>by kernel_rfl
   go_wp2_with first
    | (refine gQ rfq 66 (.tmp 4) (.tmp 8) rfq wr.heap.size #[Value.func (.func 82) #[] #[],Value.int .i64 90] rfq rfq 66 #[Value.nilFunc,Value.int .i64 0] (han _ _) krf rfl (by simp [Value.oneCell']) ?_;intro w3 hh3 hg3 hs3;have HB3:=hdq (ma (Below.refl wr.heap.size wr) hg3);have rW:=hdq hh3;have jC:=hdq ((HB3.out.block _ (hltq gM.out)).trans gM.out);have k3:w3.cell? ⟨wr.heap.size,0,none⟩=some (Value.func (.func 82) #[] #[]):=(by rw [cell_of_row w3 _ 0 _ _ _ hh3];rfl);clear hh3 hg3 hs3)
    | (refine eQ rfq 28 (.tmp 1) rfq w.heap.size rfq 28 #[Value.slice x.a x.n x.cap,Value.int .u64 x.c.m,Value.int .u64 x.c.l,Value.int .u64 x.c.o,Value.int .u64 x.c.t,Value.slice x.c.a x.c.n x.c.cap] (0,0) _ jC.out Tryz.underlying28 rfq (show _=some (#[Value.slice x.a x.n x.cap,Value.int .u64 x.c.m,Value.int .u64 x.c.l,Value.int .u64 x.c.o,Value.int .u64 x.c.t,Value.slice x.c.a x.c.n x.c.cap]:Array Value).size from kF) ?_)
   refine (aiX x d1 d2 _ (FO.out.below HB3.out lrf) (XD FO.out (eB.out.1 omg)) HD1.out HD2.out).mono ?_;rw [HD.out];rintro e w2 ⟨rfl,hb⟩;have aN:Hid (Below wr.heap.size wr w2):=HB3.out.trans (hb.mono HB3.out.size);have HB2:Hid (Below w.heap.size w w2):=ai.out.trans (aN.out.mono ai.out.size);have eO:=hdq ((aN.out.block _ (hltq gM.out)).trans gM.out);have k4:w2.cell? ⟨wr.heap.size,1,none⟩=some (.int .i64 90):=by rw [cell_of_row w2 _ 1 _ _ _ ((hb.block _ (hltq rW.out)).trans rW.out)];rfl
   clear hb k3
   cases d with
   | true =>
     obtain rfl:r=90:=by rw [<-HR.out];exact OH eB.out (by show (decide (20<gT (sts x.xs))||((sts x.xs).getD 0 Tri.St.no).final)=true;rw [HD1.out,HD2.out,HD.out])
     go_wp2;go_ret;exact ⟨rfl,HB2.out⟩
   | false =>
     go_wp2;go_roundw
     case rel=>exact ⟨.inr (.inr (.inr (.inr (⟨by first|rfl|go_num,eB.out.four (HD1.out.trans (XE HD.out).1) (HD2.out.trans (XE HD.out).2)⟩)))),HB2.out,eO.out⟩
     case measure=>simp [intOf]
  ·obtain rfl:r=0:=by rw [<-HR.out];exact XC eB.out
   go_wp2;go_ret;exact ⟨rfl,ai.out⟩
theorem OI (x:Iw) (L:LLI) (er:Int) (w:World) (hx:x.Good w) (hr:Shp.wrd x.im=(L,er)) :
 Calls Tryz.prog 10 #[x.v] w fun e w'=>JC w L er e w':=by
 have HX:=hdq hx;obtain ⟨r,hc⟩:∃r,Shp.chk x.im=r:=⟨_,rfl⟩;have HC:=hdq hc;have HR:=hdq hr;have je:Hid (∀o,(w.alloc o).heap[w.heap.size]?=some o):=fun o=>han w o;have uY:Hid (∀o:Obj,w.heap.size<(w.alloc o).heap.size):=fun o=>by show _<_;simp
 clear hx hr hc;simp only [Iw.v];go_enter Tryz.func10,Tryz.ntmps10;go_wp2_with (refine eQ rfq 28 (.tmp 1) rfq w.heap.size rfq 28 #[Value.slice x.a x.n x.cap,Value.int .u64 x.c.m,Value.int .u64 x.c.l,Value.int .u64 x.c.o,Value.int .u64 x.c.t,Value.slice x.c.a x.c.n x.c.cap] (0,0) _ (je.out _) Tryz.underlying28 rfq (show _=some (#[Value.slice x.a x.n x.cap,Value.int .u64 x.c.m,Value.int .u64 x.c.l,Value.int .u64 x.c.o,Value.int .u64 x.c.t,Value.slice x.c.a x.c.n x.c.cap]:Array Value).size from kF) ?_);refine (JD x r _ (HX.out.alloc _) HC.out).mono ?_;rintro e w1 ⟨rfl,hb⟩;have HB:Hid (Below w.heap.size w w1):=yO rfl hb;have HP:Hid (w1.heap[w.heap.size]?=some (.cells #[Value.slice x.a x.n x.cap,Value.int .u64 x.c.m,Value.int .u64 x.c.l,Value.int .u64 x.c.o,Value.int .u64 x.c.t,Value.slice x.c.a x.c.n x.c.cap] 28 (0,0))):=(hb.block _ (uY.out _)).trans (je.out _);clear hb;by_cases h0:r=0
 ·subst h0;have hz:((0:Int)==0)=true:=rfl;have k0:w1.cell? ⟨w.heap.size,0,none⟩=some (.slice x.a x.n x.cap):=by simp [World.cell?,HP.out]
  have hw:kE (sts x.xs)=(L,er):=by
   obtain ⟨h1,-,h3,-,-⟩:=Shp.Xo HC.out;have hr:=HR.out;unfold Shp.wrd at hr;rw [if_pos HC.out] at hr;rw [<-hr];unfold kE;have h1':Tri.check (sts x.xs)=true:=h1;have h3':(wds (sts x.xs) 0).length<=300:=h3;exact (if_neg (by rw [h1'];exact Bool.noConfusion)).trans (if_neg omg)
  have HW:=hdq hw;clear hw;go_wp2_with fail;refine (ajy x.a x.n x.cap x.xs _ L er (HX.out.below HB.out lrf).1 HW.out).mono ?_;rintro e w2 ⟨a',k,c',outs,rfl,hm,hn,hb⟩;have HM:=hdq (hm.lower HB.out.size);have HN:=hdq hn;have HB2:Hid (Below w.heap.size w w2):=HB.out.trans (hb.mono HB.out.size);clear hm hn hb;go_wp2;go_ret2;exact ⟨a',k,c',outs,rfl,HM.out,HN.out,HB2.out⟩
 ·have hz:(r==0)=false:=by simp [h0]
  have hw:=HR.out;unfold Shp.wrd at hw;rw [HC.out,if_neg h0] at hw;obtain ⟨rfl,rfl⟩:=Prod.mk.inj hw;clear hw;go_wp2;go_ret2;exact ⟨none,0,0,[],rfl,Ml.start _ _,rfl,HB.out⟩

end
end Go.Proofs.YtkiamgcpcneggaaGreat
