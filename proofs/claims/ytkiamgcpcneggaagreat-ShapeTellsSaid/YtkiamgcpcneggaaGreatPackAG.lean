import Derived.Test.YtkiamgcpcneggaaGreatPackL
import Derived.Test.YtkiamgcpcneggaaGreatPackT
import Derived.Test.YtkiamgcpcneggaaGreatPackAC
import Derived.Deep.RegionHeld3
set_option linter.all false
set_option maxRecDepth 100000
set_option maxHeartbeats 12800000
namespace Go.Proofs.YtkiamgcpcneggaaGreat
section
theorem z39 {P:Prop} (h:P:=by
 simp only [List.getD_cons_zero] at hx;subst hx
 rw [List.set_cons_zero,uJ,uJ];rfl):P:=h
open Go.RowKit Tri

theorem Sl.kept {k:IntKind} {w w':World} {a:OAd} {n cap:Nat} {zs:LIn} {row:Option Nat} (h:Sl k w a n cap zs) (hg:w.grownBy w' row) (hne:∀b off,a=some ⟨b,off,none⟩->some b≠row):Sl k w' a n cap zs:=by
 obtain ⟨h1,h2,h3,h4,h5⟩:=h;refine ⟨h1,h2,h3,h4,?_⟩;rcases h5 with h5|⟨b,off,ha,hc⟩
 ·exact .inl h5
 ·exact .inr ⟨b,off,ha,fun i hi=>hg.cell (hc i hi) (hne b off ha)⟩

structure Cz where
 num:Nat
 long:Nat
 fa:OAd
 fn:Nat
 fc:Nat
 first:LIn
 st:Sw
def Cz.no:Cz:=⟨0,0,none,0,0,[],Sw.no⟩
instance:Inhabited Cz:=⟨Cz.no⟩
def Cz.cells (x:Cz):List Value:=[.int .i64 (x.num:Int),.int .i64 (x.long:Int),.slice x.fa x.fn x.fc,.bool x.st.fin,.slice x.st.a x.st.n x.st.cap]
def eG (l:List Cz):List Value:=l.flatMap Cz.cells
theorem ajz (a b:List Cz):eG (a++b)=eG a++eG b:=by simp [eG]
theorem uJ (x:Cz) (l:List Cz):eG (x::l)=x.cells++eG l:=by simp [eG]
theorem Cz.cells_length (x:Cz):x.cells.length=5:=rfl
theorem OJ:∀l:List Cz,(eG l).length=l.length*5
 | []=>rfl
 | x::l=>by rw [uJ,List.length_append,OJ l,Cz.cells_length,List.length_cons];omega
theorem OL:∀(l:List Cz) (i j:Nat),i<l.length->j<5->(eG l)[i*5+j]?=(l.getD i Cz.no).cells[j]?
 | [],_,_,h,_=>by simp at h
 | x::l,0,j,_,hj=>by
   rw [uJ,Nat.zero_mul,Nat.zero_add,List.getElem?_append_left (by rw [Cz.cells_length];exact hj)];rfl
 | x::l,i+1,j,h,hj=>by
   rw [uJ,List.getElem?_append_right (by rw [Cz.cells_length];omega),Cz.cells_length,show (i+1)*5+j-5=i*5+j by omega,OL l i j (by simpa using h) hj];simp
theorem ajA {l:List Cz} {i:Nat} {x:Cz} (hi:i<l.length) (hx:l.getD i Cz.no=x) (L:Nat):eG (l.set i { x with long:=L })=(eG l).set (i*5+1) (.int .i64 (L:Int)):=by
 induction l generalizing i with
 | nil=>simp at hi
 | cons y l ih =>
   cases i with
   | zero =>
     exact z39
   | succ i =>
     rw [List.set_cons_succ,uJ,uJ,ih (by simpa using hi) (by simpa using hx)];rw [show (i+1)*5+1=i*5+1+5 by omega];rfl
theorem ajB {l:List Cz} {i:Nat} {x:Cz} (hi:i<l.length) (hx:l.getD i Cz.no=x) (a:OAd) (n c:Nat) (z:LIn):eG (l.set i { x with fa:=a,fn:=n,fc:=c,first:=z })=(eG l).set (i*5+2) (.slice a n c):=by
 induction l generalizing i with
 | nil=>simp at hi
 | cons y l ih =>
   cases i with
   | zero =>
     exact z39
   | succ i =>
     rw [List.set_cons_succ,uJ,uJ,ih (by simpa using hi) (by simpa using hx)];rw [show (i+1)*5+2=i*5+2+5 by omega];rfl
def clt (x y:Cz):Bool:=decide (x.long<y.long)||decide (x.long=y.long)&&lessL x.first y.first
def Cz.Reads (w:World) (x:Cz):Prop:=Sl .i64 w x.fa x.fn x.fc x.first/\x.long<=1000

theorem ajC (x y:Cz) (w:World) (hx:x.Reads w) (hy:y.Reads w) {r:Bool} (hr:clt x y=r) :
 Calls Tryz.prog 118 #[.agg #[.int .i64 (x.num:Int),.int .i64 (x.long:Int),.slice x.fa x.fn x.fc,.bool x.st.fin,.slice x.st.a x.st.n x.st.cap],.agg #[.int .i64 (y.num:Int),.int .i64 (y.long:Int),.slice y.fa y.fn y.fc,.bool y.st.fin,.slice y.st.a y.st.n y.st.cap]] w fun e w'=>e=.returned (.bool r)/\∃q os,w'=Sort.grow (Sort.ahead w q) os:=by
 obtain ⟨cZ,xl,xa,xn,xc,xf,⟨nL,xb,xm,xd,dM⟩⟩:=x;obtain ⟨Cf,yl,ya,yn,yc,yf,⟨Cg,yb,ym,yd,QX⟩⟩:=y;simp only [Cz.Reads,clt] at *;have HX:=hdq hx;have HY:=hdq hy;have hxl:=hx.2;have hyl:=hy.2;have HR:=hdq hr;have HG:Hid (∀(o o':Obj) (q:Nat),∃q' os,((w.alloc o).alloc o').drewN q=Sort.grow (Sort.ahead w q') os):=hdq fun o o' q=>⟨q,#[o,o'],by rw [Sort.alloc_eq_grow,Sort.alloc_eq_grow,Sort.grow_grow];rfl⟩;clear hx hy hr;by_cases he:xl=yl
 ·subst he;have hez:((xl:Int) != (xl:Int))=false:=smp;obtain rfl:lessL xf yf=r:=by rw [<-HR.out];simp
  go_enter Tryz.func118,Tryz.ntmps118;go_wp2_with (go_at_call 85;refine (yt xa ya xn yn xc yc xf yf _ _ ((HX.out.1.alloc _).alloc _) ((HY.out.1.alloc _).alloc _) rfl).mono ?_;rintro e w2 ⟨rfl,q,rfl⟩);go_ret;exact ⟨rfl,HG.out _ _ q⟩
 ·have hez:((xl:Int) != (yl:Int))=true:=by simp;omega
  have hr:decide (xl<yl)=r:=by rw [<-HR.out,decide_eq_false he];simp
  go_enter Tryz.func118,Tryz.ntmps118;go_wp2;go_ret;exact ⟨by rw [<-hr];simp,HG.out _ _ 0⟩

theorem OM (b o:Nat) (long:Nat) (ba fa:OAd) (bn bc fn fc:Nat) (bz fz:LIn) (w:World) (h1:w.cell? ⟨b,o+1,none⟩=some (.int .i64 (long:Int))) (h2:w.cell? ⟨b,o+2,none⟩=some (.slice fa fn fc)) (hf:∀j,w.frozen? ⟨b,j,none⟩=false)
 (hb:Sl .i64 w ba bn bc bz) (hfi:Sl .i64 w fa fn fc fz) (Ch:∀g off,ba=some ⟨g,off,none⟩->g≠b) (hfa:∀g off,fa=some ⟨g,off,none⟩->g≠b) (_hl:long<=1000) (_hbn:bn<=1000) :
 Calls Tryz.prog 115 #[.pointer (some ⟨b,o,none⟩),.slice ba bn bc] w fun e w'=>e=.returned (.tuple #[])/\∃q,w'=if lessL bz fz=true then ((w.setCell ⟨b,o+1,none⟩ (.int .i64 ((max long bn:Nat):Int))).drewN q).setCell ⟨b,o+2,none⟩ (.slice ba bn bc) else (w.setCell ⟨b,o+1,none⟩ (.int .i64 ((max long bn:Nat):Int))).drewN q:=by
 have hg:=dC w ⟨b,o+1,none⟩ (.int .i64 ((max long bn:Nat):Int));have HB:=hdq (hb.kept hg (fun g off e e'=>Ch g off e (by simpa using e')));have HF:=hdq (hfi.kept hg (fun g off e e'=>hfa g off e (by simpa using e')));have hmx:max (long:Int) (bn:Int)=((max long bn:Nat):Int):=omg
 have h2':(w.setCell ⟨b,o+1,none⟩ (.int .i64 ((max long bn:Nat):Int))).cell? ⟨b,o+2,none⟩=some (.slice fa fn fc):=by
  exact (World.cell?_setCell_other (w:=w) (a:=⟨b,o+1,none⟩) (b:=⟨b,o+2,none⟩) (v:=.int .i64 ((max long bn:Nat):Int)) smp).trans h2
 have hbl:b<w.heap.size:=bQ h1;clear hb hfi Ch hfa hg
 cases hlv:lessL bz fz with
 | true =>
   have dY:=hdq hlv;clear hlv;go_enter Tryz.func115,Tryz.ntmps115;go_wp2_with (go_at_call 85;refine (yt ba fa bn fn bc fc bz fz true _ HB.out HF.out dY.out).mono ?_;rintro e w2 ⟨rfl,q,rfl⟩);go_end0;exact ⟨rfl,q,rfl⟩
 | false =>
   have dY:=hdq hlv;clear hlv;go_enter Tryz.func115,Tryz.ntmps115;go_wp2_with (go_at_call 85;refine (yt ba fa bn fn bc fc bz fz false _ HB.out HF.out dY.out).mono ?_;rintro e w2 ⟨rfl,q,rfl⟩);go_end0;exact ⟨rfl,q,rfl⟩
end
section
open Go.RowKit Tri

theorem ajO (N:Nat):(madeCells (Value.agg #[.int .i64 0,.int .i64 0]).cells (N*2)).toList=aL (List.replicate N (0,0)):=by
 apply List.ext_getElem?;intro j;have hsz:(madeCells (Value.agg #[.int .i64 0,.int .i64 0]).cells (N*2)).toList.length=N*2:=by simp [madeCells]
 by_cases hj:j<N*2
 ·have hd:j/2<N:=omg;have hr:j%2<2:=Nat.mod_lt _ omg
  have e:(aL (List.replicate N (0,0)))[j]?=([.int .i64 0,.int .i64 0]:List Value)[j%2]?:=by
   have:=Du (List.replicate N (0,0)) (j/2) (j%2) (by simpa using hd) hr;rw [show j/2*2+j%2=j by omega] at this;rw [this];simp [hd]
  rw [e];have hc:(Value.agg #[Value.int .i64 0,Value.int .i64 0]).cells=#[Value.int .i64 0,Value.int .i64 0]:=rfl;rcases (by omega:j%2=0\/j%2=1) with h0|h0
  ·simp [madeCells,hj,hc,h0]
  ·simp [madeCells,hj,hc,h0]
 ·rw [List.getElem?_eq_none (by rw [hsz];omega),List.getElem?_eq_none (by rw [uC];simp;omega)]
def lC (P:Int->Int) (arcs:List (Int × Int)) (k:Nat):List (Int × Int):=(arcs.take k).map (fun a=>(a.1,P a.2))++List.replicate (arcs.length-k) (0,0)
theorem ajP (P:Int->Int) {arcs:List (Int × Int)} {k:Nat} (hk:k<=arcs.length):(lC P arcs k).length=arcs.length:=by simp [lC];omega
theorem ajQ (P:Int->Int) (arcs:List (Int × Int)):lC P arcs 0=List.replicate arcs.length (0,0):=by simp [lC]
theorem ajR (P:Int->Int) (arcs:List (Int × Int)):lC P arcs arcs.length=arcs.map (fun a=>(a.1,P a.2)):=by simp [lC]
theorem ajS (P:Int->Int) {arcs:List (Int × Int)} {k:Nat} (hk:k<arcs.length) {s t:Int} (h:arcs.getD k (0,0)=(s,t)):lC P arcs (k+1)=(lC P arcs k).set k (s,P t):=by
 have e:arcs[k]=(s,t):=by rw [<-h];simp [hk]
 unfold lC;rw [tsa hk,e,List.map_append,List.append_assoc];have hl:((arcs.take k).map (fun a=>(a.1,P a.2))).length=k:=by simp;omega
 rw [List.set_append_right _ _ omg,hl,Nat.sub_self,show arcs.length-k=(arcs.length-(k+1))+1 by omega,List.replicate_succ,List.set_cons_zero];rfl
theorem ajT {l:List (Int × Int)} {k:Nat} {s t:Int} (hk:k<l.length):aL (l.set k (s,t))=((aL l).set (k*2) (.int .i64 s)).set (k*2+1) (.int .i64 t):=by
 induction l generalizing k with
 | nil=>simp at hk
 | cons x l ih =>
   cases k with
   | zero=>rw [List.set_cons_zero,yw,yw];rfl
   | succ k =>
     rw [List.set_cons_succ,yw,yw,ih (by simpa using hk)];rw [show (k+1)*2=k*2+1+1 by omega];rfl
theorem ajU {w:World} {B g n c k:Nat} {l:List (Int × Int)} {s t:Int} (h:w.ownsRow B 95 2 (.slice (some ⟨g,0,none⟩) n c) n (aL l)) (hk:k<l.length) :
 ((w.setCell ⟨g,k*2,none⟩ (.int .i64 s)).setCell ⟨g,k*2+1,none⟩ (.int .i64 t)).ownsRow B 95 2 (.slice (some ⟨g,0,none⟩) n c) n (aL (l.set k (s,t))):=by
 rw [ajT hk];exact ((h.stored (k*2) (.int .i64 s)).1.stored (k*2+1) (.int .i64 t)).1

theorem XI {w:World} {b g i j:Nat} {s t:Value} {o o':Obj} (h:w.heap[b]?=some o) (hne:b≠g):((((w.setCell ⟨g,i,none⟩ s).setCell ⟨g,j,none⟩ t).alloc o').drew).heap[b]?=some o:=by
 have hb:=(hltq h);show (((w.setCell ⟨g,i,none⟩ s).setCell ⟨g,j,none⟩ t).alloc o').heap[b]?=some o;rw [Below.heap_alloc _ _ _ (by simpa [World.setCell] using hb),heap_setCell_other _ _ _ _ hne,heap_setCell_other _ _ _ _ hne];exact h
theorem OU (x:Sw) (pa:OAd) (pn pc:Nat) (ps:LIn) (P:Int->Int) (w:World) (hx:x.Good w) (hp:Sl .i64 w pa pn pc ps) (hto:∀a∈x.arcs,0<=a.2/\a.2<(pn:Int)/\ps.getD a.2.toNat 0=P a.2) (hbig:x.n<=2000000) :
 Calls Tryz.prog 113 #[.agg #[.bool x.fin,.slice x.a x.n x.cap],.slice pa pn pc] w fun e w'=>∃g,e=.returned (.agg #[.bool x.fin,.slice (some ⟨g,0,none⟩) x.n x.n])/\w.heap.size<=g /\
  w'.ownsRow w.heap.size 95 2 (.slice (some ⟨g,0,none⟩) x.n x.n) x.n (aL (x.arcs.map fun a=>(a.1,P a.2)))/\Below w.heap.size w w':=by
 obtain ⟨fin,a,n,cap,arcs⟩:=x;simp only [Sw.Good] at *;have hnc:=hx.2.1;have hcm:=hx.2.2.1;have hpc:=hp.2.1;have hpm:=hp.2.2.1;unfold maxLen at hcm hpm;have HX:=hdq hx;have eB:=hdq hp;have HL:Hid (arcs.length=n):=hdq hx.1;have qD:=hdq hto;have HB2:∀o o',Hid (Below w.heap.size w ((w.alloc o).alloc o')):=fun o o'=>hdq (((Below.refl _ w).alloc lrf o).alloc smp o');clear hx hto hp;obtain ⟨ia,hia,ha0,ha1,ha2⟩:=info_parts IQ;go_enter Tryz.func113,Tryz.ntmps113
 have aN:Hid (∀(w4:World) (o o':Obj),((w.alloc o).alloc o').grownBy w4 none->w4.heap[w.heap.size]?=some o/\w4.heap[w.heap.size+1]?=some o'/\Below w.heap.size w w4):=hdq fun w4 o o' hg=>by
  have h1:((w.alloc o).alloc o').heap[w.heap.size]?=some o:=by rw [Below.heap_alloc _ _ _ smp];exact han w o
  have h2:((w.alloc o).alloc o').heap[w.heap.size+1]?=some o':=by have:=han (w.alloc o) o';rwa [World.size_alloc] at this
  refine ⟨(hg.block _ (by simp;omega) smp).trans h1,(hg.block _ smp smp).trans h2,(HB2 o o').out.trans ⟨hg.os,hg.tape,hg.output,hg.size,fun k hk=>hg.block k (by simp;omega) smp⟩⟩
 go_wp2_with (at_make;refine wpList_make_full _ rfq _ _ 56 rfq w.heap.size 95 ia _ 2 Tryz.underlying56 hia ha0 ha1 .i64 .i64 (n:Int) (n:Int) n rfq rfq rfl rfl (by rw [ha2];omega) (by unfold maxLen;omega) (by simp;omega) ?_;intro w4 fK hg4;simp only [World.size_alloc] at fK;simp only [World.size_alloc];rw [ajO] at fK;have fA:Hid (w4.ownsRow w.heap.size 95 2 (.slice (some ⟨w.heap.size+1+1,0,none⟩) n n) n (aL (lC P arcs 0))):=hdq (by rw [ajQ,HL.out];exact fK);have FY:=hdq (aN.out _ _ _ hg4);have c0:w4.cell? ⟨w.heap.size,0,none⟩=some (.bool fin):=(by rw [af FY.out.1];rfl);have c1:w4.cell? ⟨w.heap.size,1,none⟩=some (.slice a n cap):=(by rw [af FY.out.1];rfl);clear fK hg4);clear c0 c1;go_loopw [15] (fun ix wr=>∃k:Nat,k<=n/\ix=.int .i64 (k:Int)/\Hid (wr.ownsRow w.heap.size 95 2 (.slice (some ⟨w.heap.size+1+1,0,none⟩) n n) n (aL (lC P arcs k)))/\Hid (wr.heap[w.heap.size]?=some (.cells #[.bool fin,.slice a n cap] 58 (0,0))/\wr.heap[w.heap.size+1]?=some (.cells #[.bool false,.slice none 0 0] 58 (0,0))/\Below w.heap.size w wr)) (fun ix _=>n-(intOf ix).toNat)
 case atStart=>exact ⟨0,Nat.zero_le _,rfl,fA,FY⟩
 case round =>
  obtain ⟨k,hk,rfl,HO,lS⟩:=hrel;by_cases hlt:k<n
  ·obtain ⟨b1,o1,s,t,rfl,hb1,hc0,hc1,hws,hwt,hz⟩:=HX.out.one k hlt;have hc0':wr.cell? ⟨b1,o1+k*2,none⟩=some (.int .i64 s):=by rw [lS.out.2.2.cell (p:=⟨b1,o1+k*2,none⟩) hb1];exact hc0
   have hc1':wr.cell? ⟨b1,o1+k*2+1,none⟩=some (.int .i64 t):=by rw [lS.out.2.2.cell (p:=⟨b1,o1+k*2+1,none⟩) hb1];exact hc1
   have hmem:(s,t)∈arcs:=by rw [<-hz,gdq,geg (by rw [HL.out];exact hlt),Option.getD_some];exact List.getElem_mem _
   obtain ⟨ht0,ht1,htp⟩:=qD.out _ hmem;simp only at ht0 ht1 htp;obtain ⟨u,rfl⟩:∃u:Nat,t=(u:Int):=⟨t.toNat,by omega⟩;rw [Int.toNat_natCast] at htp;obtain ⟨pb,po,rfl,hpb,vo⟩:=eB.out.at omg;have atb:wr.cell? ⟨pb,po+u,none⟩=some (.int .i64 (P (u:Int))):=by rw [lS.out.2.2.cell (p:=⟨pb,po+u,none⟩) hpb,vo u omg,htp]
   have lT:=hdq (ajS P (arcs:=arcs) (by rw [HL.out];exact hlt) hz);have hltz:(k:Int)<(n:Int):=omg;have hll:k<(lC P arcs k).length:=by rw [ajP P (by rw [HL.out];exact hk),HL.out];exact hlt
   have hg0:wr.cell? ⟨w.heap.size+1+1,k*2,none⟩=some (.int .i64 ((lC P arcs k).getD k (0,0)).1):=by
    have:=Du (lC P arcs k) k 0 hll omg;rw [Nat.add_zero] at this;rw [HO.out.cellAt (k*2) omg,this];rfl
   have hg1:wr.cell? ⟨w.heap.size+1+1,k*2+1,none⟩=some (.int .i64 ((lC P arcs k).getD k (0,0)).2):=by
    have:=Du (lC P arcs k) k 1 hll omg;rw [HO.out.cellAt (k*2+1) omg,this];rfl
   have vK:=hdq hll;have hgs:w.heap.size+1+1<wr.heap.size:=(HO.out.lt _ rfl).2;have atc:pb<wr.heap.size:=Nat.lt_of_lt_of_le hpb lS.out.2.2.size;have hf0:=fun j=>HO.out.frozenAt j;clear hc0 hc1 hz hmem htp vo hws hwt hll;go_wp2;go_region;go_wp2;go_roundw
   case rel =>
    refine ⟨k+1,by omega,by go_num,hdq ?_,hdq ⟨XI lS.out.1 omg,XI lS.out.2.1 omg,?_⟩⟩
    ·rw [lT.out];exact (ajU HO.out vK.out).alloc _
    ·exact aG (((lS.out.2.2.setCell (p:=⟨w.heap.size+1+1,k*2,none⟩) (by show w.heap.size<=w.heap.size+1+1;omega) _).setCell (p:=⟨w.heap.size+1+1,k*2+1,none⟩) (by show w.heap.size<=w.heap.size+1+1;omega) _).alloc (by have:=lS.out.2.2.size;simpa [World.setCell] using this) _) ⟨1,rfl⟩
   case measure=>simp [intOf];omega
  ·obtain rfl:k=n:=omg;have c0:wr.cell? ⟨w.heap.size,0,none⟩=some (.bool fin):=by rw [af lS.out.1];rfl
   have c1:wr.cell? ⟨w.heap.size+1,0,none⟩=some (.bool false):=by rw [af lS.out.2.1];rfl
   have c2:wr.cell? ⟨w.heap.size+1,1,none⟩=some (.slice none 0 0):=by rw [af lS.out.2.1];rfl
   have f1:∀j,wr.frozen? ⟨w.heap.size+1,j,none⟩=false:=fun j=>frozen_of_row wr _ j _ _ lS.out.2.1;have HOW:=HO.out;rw [<-HL.out,ajR,HL.out] at HOW;have HOE:=hdq HOW
   have HR:Hid (((wr.setCell ⟨w.heap.size+1,0,none⟩ (.bool fin)).setCell ⟨w.heap.size+1,1,none⟩ (.slice (some ⟨w.heap.size+1+1,0,none⟩) k k)).heap[w.heap.size+1]?=some (.cells #[.bool fin,.slice (some ⟨w.heap.size+1+1,0,none⟩) k k] 58 (0,0))):=hdq (by
    rw [heap_setCell_same _ _ _ _ _ _ (heap_setCell_same _ _ _ _ _ _ lS.out.2.1)];rfl)
   clear HOW;go_wp2;refine bodyPost_ret (results_cell_row rfq _ _ (w.heap.size+1) 58 _ (0,0) _ rfq HR.out Tryz.underlying58 rfq krf) rfl ?_;refine ⟨w.heap.size+1+1,rfl,by omega,?_,?_⟩
   ·exact ownsRow_setCell_other (ownsRow_setCell_other HOE.out (by simp [Value.ownBlock]) _) (by simp [Value.ownBlock]) _
   ·exact (lS.out.2.2.setCell (p:=⟨w.heap.size+1,0,none⟩) (by show w.heap.size<=w.heap.size+1;omega) _).setCell (p:=⟨w.heap.size+1,1,none⟩) (by show w.heap.size<=w.heap.size+1;omega) _
end
end Go.Proofs.YtkiamgcpcneggaaGreat
