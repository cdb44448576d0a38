import Derived.Test.YtkiamgcpcneggaaGreatPackY
set_option linter.all false
set_option maxRecDepth 100000
set_option maxHeartbeats 12800000
namespace Go.Proofs.YtkiamgcpcneggaaGreat
section
theorem z45 {P:Prop} (h:P:=by
 obtain ⟨k,jJ,hk,rfl,HI3,HR3,HW3⟩:=hrel
 have hc2:wr.cell? ⟨b1,o1+i*2+1,none⟩=some (.slice sa sn sc):=by
  rw [HW3.out.cell (p:=⟨b1,o1+i*2+1,none⟩) kM.out];exact Ip.out
 by_cases hkl:k<sn
 ·obtain ⟨b2,o2,s,t,rfl,hb2,hcs2,hct,hws,hwt,hst⟩:=kQ.out.one k hkl
  have aqO:wr.cell? ⟨b2,o2+k*2+1,none⟩=some (.int .i64 t):=by
   rw [HW3.out.cell (p:=⟨b2,o2+k*2+1,none⟩) hb2];exact hct
  obtain ⟨htl,htn⟩:=sH.out k hkl hst;obtain ⟨tn,rfl⟩:∃m:Nat,t=(m:Int):=⟨t.toNat,by omega⟩;have uA:tn<n:=omg;obtain ⟨c,hcv⟩:∃c,upD l i k=c:=⟨_,rfl⟩;obtain ⟨d,hdv⟩:∃d,kH l tn=d:=⟨_,rfl⟩;have Di:=alV hc (i:=tn) (by rw [dX.out];exact uA);rw [hdv] at Di;have hci:wr.cell? ⟨w1.heap.size,i,none⟩=some (.int .i64 c):=HR3.out.cell HI3.out.1 hin (by rw [HI3.out.2.2.2];exact hcv);have hcn:wr.cell? ⟨w1.heap.size,tn,none⟩=some (.int .i64 d):=HR3.out.cell HI3.out.1 uA (by rw [HI3.out.2.1 tn omg uA];exact hdv);have aqP:wr.frozen? ⟨w1.heap.size,i,none⟩=false:=HR3.out.frozenAt i;have hdd:IntKind.i64.wrap (d+1)=d+1:=by rw [IntKind.wrap_i64];omega
  have fD:Hid (upD l i (k+1)=if 0<=d then max c (d+1) else c):=by
   show _=_;rw [alT l i (by rw [HST.out];show k<arcs.length;rw [kQ.out.1];exact hkl) (by rw [HST.out];exact hst),hcv,hdv]
  have HCV:=hdq hcv;have TP:(k:Int)<(sn:Int):=omg;have hi0:(0:Int)<=(i:Int):=omg;have hk0:(0:Int)<=(k:Int):=omg;have ht0:(0:Int)<=(tn:Int):=omg;have ht3:(tn:Int)<(n:Int):=omg;clear hb2 hcs2 hct hws hwt hst hcv hdv;by_cases hdp:0<=d
  ·obtain ⟨e,hev⟩:∃e,(if c<d+1 then d+1 else c)=e:=⟨_,rfl⟩;have hem:max c (d+1)=e:=by rw [<-hev];omega
   have TQ:=hdq hev;have TR:=hdq hem;have TS:Hid (max (d+1) c=e):=hdq (by rw [<-hev];omega);have HI4:Hid (ja (kH l) n i (upD l i (k+1)) (jJ.set i e)):=by show ja _ _ _ _ _;rw [fD.out,if_pos hdp,hem];exact HI3.out.put hin e
   have HR4:=hdq (HR3.out.set i e);have TT:Hid (Below w1.heap.size w1 (wr.setCell ⟨w1.heap.size,i,none⟩ (.int .i64 e))):=HW3.out.setCell (p:=⟨w1.heap.size,i,none⟩) lrf _;clear Di hev hem;go_wp2;all_goals (try omega);go_roundw
   case rel =>
    first|rw [TQ.out]|rw [TR.out]|rw [TS.out]
    exact ⟨k+1,_,by omega,by go_num,HI4.out,HR4.out,TT.out⟩
   case measure=>simp [intOf];omega
  ·have HI4:Hid (ja (kH l) n i (upD l i (k+1)) jJ):=by show ja _ _ _ _ _;rw [fD.out,if_neg hdp,<-HCV.out];exact HI3.out
   clear Di;go_wp2;all_goals (try omega);go_roundw
   case rel=>exact ⟨k+1,_,by omega,by go_num,HI4.out,HR3.out,HW3.out⟩
   case measure=>simp [intOf];omega
 ·obtain rfl:sn=k:=omg
  have HD:Hid (ny (kH l) n i jJ):=HI3.out.done (by
   have h:=alU hc (i:=i) (by rw [dX.out];exact hin);rw [HST.out] at h;rw [<-h];show _=upD l i arcs.length
   rw [kQ.out.1])
  have hw2:IntKind.i64.wrap ((i:Int)-1)=(i:Int)-1:=by rw [IntKind.wrap_i64];omega
  go_wp2;go_roundw
  case rel=>exact ⟨i,(i:Int)-1,jJ,by go_num,rfl,by omega,HD.out,HR3.out,HW3.out⟩
  case measure=>first|(simp [intOf];done)|(simp [intOf];omega)):P:=h
theorem z46 {P:Prop} (h:P:=by
 obtain ⟨k,jJ,hk,rfl,HI3,HR3,HW3⟩:=hrel
 have hc2:wr.cell? ⟨b1,o1+i*2+1,none⟩=some (.slice sa sn sc):=by
  rw [HW3.out.cell (p:=⟨b1,o1+i*2+1,none⟩) kM.out];exact Ip.out
 by_cases hkl:k<sn
 ·obtain ⟨b2,o2,s,t,rfl,hb2,hcs2,hct,hws,hwt,hst⟩:=kQ.out.one k hkl
  have aqO:wr.cell? ⟨b2,o2+k*2+1,none⟩=some (.int .i64 t):=by
   rw [HW3.out.cell (p:=⟨b2,o2+k*2+1,none⟩) hb2];exact hct
  obtain ⟨htl,htn⟩:=sH.out k hkl hst;obtain ⟨tn,rfl⟩:∃m:Nat,t=(m:Int):=⟨t.toNat,by omega⟩;have uA:tn<n:=omg;obtain ⟨c,hcv⟩:∃c,upM l i k=c:=⟨_,rfl⟩;obtain ⟨d,hdv⟩:∃d,iQ l tn=d:=⟨_,rfl⟩;obtain ⟨e,hev⟩:∃e,(if c+d<301 then c+d else 301)=e:=⟨_,rfl⟩;have hem:min 301 (c+d)=e:=by rw [<-hev];omega
  have hcs1:=alR l i k;have Di:=alS l tn;rw [hcv] at hcs1;rw [hdv] at Di;have hci:wr.cell? ⟨w.heap.size,i,none⟩=some (.int .i64 c):=HR3.out.cell HI3.out.1 hin (by rw [HI3.out.2.2.2];exact hcv);have hcn:wr.cell? ⟨w.heap.size,tn,none⟩=some (.int .i64 d):=HR3.out.cell HI3.out.1 uA (by rw [HI3.out.2.1 tn omg uA];exact hdv);have aqP:wr.frozen? ⟨w.heap.size,i,none⟩=false:=HR3.out.frozenAt i;have hcd:IntKind.i64.wrap (c+d)=c+d:=by rw [IntKind.wrap_i64];omega
  have fD:Hid (upM l i (k+1)=e):=by
   show _=_;rw [alP l i (by rw [HST.out];show k<arcs.length;rw [kQ.out.1];exact hkl) (by rw [HST.out];exact hst),hcv,hdv];exact hem
  have HI4:Hid (ja (iQ l) n i (upM l i (k+1)) (jJ.set i e)):=by show ja _ _ _ _ _;rw [fD.out];exact HI3.out.put hin e
  have HR4:=hdq (HR3.out.set i e);have TT:Hid (Below w.heap.size w (wr.setCell ⟨w.heap.size,i,none⟩ (.int .i64 e))):=HW3.out.setCell (p:=⟨w.heap.size,i,none⟩) lrf _;have TP:(k:Int)<(sn:Int):=omg;have hi0:(0:Int)<=(i:Int):=omg;have hk0:(0:Int)<=(k:Int):=omg;have ht0:(0:Int)<=(tn:Int):=omg;have ht3:(tn:Int)<(n:Int):=omg;have TQ:=hdq hev;have TR:=hdq hem;have TS:Hid (min (c+d) 301=e):=hdq (by rw [<-hev];omega);clear hb2 hcs2 hct hws hwt hst hcv hdv hcs1 Di fD hev hem;go_wp2;go_region
  first|rw [TQ.out]|rw [TR.out]|rw [TS.out]
  go_wp2;all_goals (try omega);go_roundw
  case rel=>exact ⟨k+1,_,by omega,by go_num,HI4.out,HR4.out,aG TT.out ⟨1,rfl⟩⟩
  case measure=>simp [intOf];omega
 ·obtain rfl:sn=k:=omg
  have HD:Hid (ny (iQ l) n i jJ):=HI3.out.done (by
   have h:=alQ hc (i:=i) (by rw [dX.out];exact hin);rw [HST.out] at h;rw [<-h];show _=upM l i arcs.length
   rw [kQ.out.1])
  have hw2:IntKind.i64.wrap ((i:Int)-1)=(i:Int)-1:=by rw [IntKind.wrap_i64];omega
  go_wp2;go_roundw
  case rel=>exact ⟨i,(i:Int)-1,jJ,by go_num,rfl,by omega,HD.out,HR3.out,HW3.out⟩
  case measure=>first|(simp [intOf];done)|(simp [intOf];omega)):P:=h
theorem z47 {P:Prop} (h:P:=by
 intro k hk s t h;have hkl:k<arcs.length:=by rw [kQ.out.1];exact hk
 have hm:(s,t)∈(l.getD i St.no).arcs:=by
  rw [HST.out,<-h];show arcs.getD k (0,0)∈arcs;rw [gdq,geg hkl,Option.getD_some];exact List.getElem_mem _
 have h2:=((ik hc (by rw [dX.out];exact hin)).1 _ hm).2
 rw [dX.out] at h2;exact h2):P:=h
open Go.RowKit Tri Wlk

theorem Yy:Tryz.prog.underlying 51=some (.slice 3):=krf
abbrev IoR (w:World) (g n:Nat) (ms:LIn):Prop:=w.ownsRow g 3 1 (.slice (some ⟨g,0,none⟩) n n) n (ay ms)
theorem IoR.set {w:World} {g n:Nat} {ms:LIn} (h:IoR w g n ms) (j:Nat) (v:Int):IoR (w.setCell ⟨g,j,none⟩ (.int .i64 v)) g n (ms.set j v):=by
 show World.ownsRow _ _ _ _ _ _ _;unfold ay;rw [List.map_set];exact (h.stored j (.int .i64 v)).1
theorem IoR.cell {w:World} {g n i:Nat} {ms:LIn} {v:Int} (h:IoR w g n ms) (hl:ms.length=n) (hi:i<n) (hv:ms.getD i 0=v):w.cell? ⟨g,i,none⟩=some (.int .i64 v):=by
 have h2:i<ms.length:=omg;rw [h.cellAt i omg];subst hv;unfold ay;simp [h2]
theorem IoR.made (w:World) (n:Nat) (hn:n<=100000):IoR (w.alloc (.cells (madeCells #[.int .i64 0] n) 3)) w.heap.size n (List.replicate n 0):=by
 have h:=World.ownsRow_lit (base:=w.heap.size) (e:=3) (size:=1) w (madeCells #[.int .i64 0] n) n lrf (by unfold maxLen;omega) (by simp [madeCells])
 have e:(madeCells #[Value.int .i64 0] n).toList=ay (List.replicate n 0):=by
  unfold ay;apply List.ext_getElem
  ·simp [madeCells]
  ·intro i h1 h2;simp [madeCells,Nat.mod_one]
 show World.ownsRow _ _ _ _ _ _ _;rw [<-e];exact h
theorem Yz (n j:Nat):(List.replicate n (0:Int)).getD j 0=0:=by
 rw [gdq,List.getElem?_replicate];split<;>rfl
theorem Pv {ms:LIn} {t:Nat} {v:Int} (h:t<ms.length):(ms.set t v).getD t 0=v:=by
 simp [gdq,h]
theorem JQ {ms:LIn} {j t:Nat} {v:Int} (h:t≠j):(ms.set t v).getD j 0=ms.getD j 0:=by
 simp [gdq,h]
def ny (val:Nat->Int) (n i:Nat) (ms:LIn):Prop:=ms.length=n/\(∀m,i<=m->m<n->ms.getD m 0=val m)/\∀m,m<i->ms.getD m 0=0
def ja (val:Nat->Int) (n i:Nat) (v:Int) (ms:LIn):Prop:=ms.length=n/\(∀m,i<m->m<n->ms.getD m 0=val m)/\(∀m,m<i->ms.getD m 0=0)/\ms.getD i 0=v
theorem ny.first {val:Nat->Int} {n i:Nat} {ms:LIn} (h:ny val n (i+1) ms):ja val n i 0 ms:=⟨h.1,fun m h1 h2=>h.2.1 m h1 h2,fun m h1=>h.2.2 m omg,h.2.2 i omg⟩
theorem ny.put {val:Nat->Int} {n i:Nat} {ms:LIn} (h:ny val n (i+1) ms) (hi:i<n) (v:Int):ja val n i v (ms.set i v) :=
 ⟨by rw [List.length_set];exact h.1,fun m h1 h2=>by rw [JQ omg];exact h.2.1 m h1 h2,fun m h1=>by rw [JQ omg];exact h.2.2 m omg,Pv (by rw [h.1];exact hi)⟩
theorem ja.put {val:Nat->Int} {n i:Nat} {u:Int} {ms:LIn} (h:ja val n i u ms) (hi:i<n) (v:Int):ja val n i v (ms.set i v) :=
 ⟨by rw [List.length_set];exact h.1,fun m h1 h2=>by rw [JQ omg];exact h.2.1 m h1 h2,fun m h1=>by rw [JQ omg];exact h.2.2.1 m h1,Pv (by rw [h.1];exact hi)⟩
theorem ja.done {val:Nat->Int} {n i:Nat} {v:Int} {ms:LIn} (h:ja val n i v ms) (hv:v=val i):ny val n i ms :=
 ⟨h.1,fun m h1 h2=>by rcases Nat.eq_or_lt_of_le h1 with e|e;· subst e;rw [h.2.2.2,hv]
                      ·exact h.2.1 m e h2,h.2.2.1⟩
def iQ (l:List St) (j:Nat):Int:=(mny l j:Int)
def upM (l:List St) (i k:Nat):Int:=((min (upA l i k).length 301:Nat):Int)
theorem YA (l:List St) (i:Nat) (f:Bool) (h:(l.getD i St.no).final=f):upM l i 0=if f=true then 1 else 0:=by
 unfold upM;rw [DT,h];cases f<;>rfl
theorem alP (l:List St) (i:Nat) {k:Nat} {s:Int} {t:Nat} (hk:k<(l.getD i St.no).arcs.length) (ha:(l.getD i St.no).arcs.getD k (0,0)=(s,(t:Int))):upM l i (k+1)=min 301 (upM l i k+iQ l t):=by
 unfold upM iQ;have h:=Wv l i hk ha;rw [h];simp only [Int.toNat_natCast];omega
theorem alQ {l:List St} (hc:check l=true) {i:Nat} (hi:i<l.length):upM l i (l.getD i St.no).arcs.length=iQ l i:=by
 unfold upM iQ mny;rw [DU hc hi]
theorem alR (l:List St) (i k:Nat):0<=upM l i k/\upM l i k<=301:=by unfold upM;omega
theorem alS (l:List St) (i:Nat):0<=iQ l i/\iQ l i<=301:=by unfold iQ mny;omega

theorem YB {l:List St} (hc:check l=true) (a:OAd) (n cap:Nat) (xs:List Sw) (w:World) (hx:Ss w a n cap xs) (hl:sts xs=l) :
 Calls Tryz.prog 84 #[.slice a n cap] w fun e w'=>∃ms:LIn,e=.returned (.slice (some ⟨w.heap.size,0,none⟩) n n)/\IoR w' w.heap.size n ms/\ny (iQ l) n 0 ms/\Below w.heap.size w w':=by
 have HX:=hdq hx;have HL:=hdq hl;have dX:Hid (l.length=n):=by show _=_;rw [<-hl,fq];exact hx.1
 have hsz:=jo hc;have hn1:n<=6001:=by rw [<-dX.out];exact hsz.2
 have hn2:1<=n:=by rw [<-dX.out];exact hsz.1
 have hmk:=run_make_row' (P:=Tryz.prog) 51 3 (.int .i64 0) 8 Yy nW rfl .i64 .i64 n omg omg;have BA0:=IoR.made w n omg;have TU:Hid (Below w.heap.size w (w.alloc (.cells (madeCells #[.int .i64 0] n) 3))):=(Below.refl _ w).alloc lrf _;have BA:=hdq BA0;have Ak:Hid (ny (iQ l) n n (List.replicate n 0)):=⟨by simp,fun m h1 h2=>absurd h2 omg,fun m _=>Yz n m⟩;have hw1:IntKind.i64.wrap ((n:Int)-1)=(n:Int)-1:=by rw [IntKind.wrap_i64];omega
 clear BA0 hx hl hsz;go_enter Tryz.func84,Tryz.ntmps84;go_wp2;go_loopw [4] (fun ix w6=>∃(j:Nat) (jx:Int) (ms:LIn),ix=.int .i64 jx/\jx=(j:Int)-1/\j<=n/\Hid (ny (iQ l) n j ms)/\Hid (IoR w6 w.heap.size n ms)/\Hid (Below w.heap.size w w6)) (fun ix _=>(intOf ix+1).toNat)
 case atStart=>exact ⟨n,(n:Int)-1,_,by go_num,rfl,Nat.le_refl _,Ak.out,BA.out,TU.out⟩
 case round =>
  obtain ⟨w7,hw7⟩:∃x,x=wr:=⟨_,rfl⟩;subst hw7;obtain ⟨j,jx,ms,rfl,tL,hjn,pQ,nS,mH⟩:=hrel;by_cases hj:j=0
  ·have hneg:¬0<=jx:=omg;have HNZ:Hid (ny (iQ l) n 0 ms):=by rw [<-hj];exact pQ
   clear tL hjn hj;go_wp2;go_ret;exact ⟨rfl,ms,nS.out,HNZ.out,mH.out⟩
  ·obtain ⟨i,rfl⟩:∃i,j=i+1:=⟨j-1,by omega⟩;obtain rfl:jx=(i:Int):=omg;have hin:i<n:=omg;obtain ⟨b1,o1,f,sa,sn,sc,arcs,JZ,hbl,hcf,hcs,har,hyi⟩:=HX.out.one i hin;subst JZ
   have aqS:w7.cell? ⟨b1,o1+i*2,none⟩=some (.bool f):=by
    rw [mH.out.cell (p:=⟨b1,o1+i*2,none⟩) hbl];exact hcf
   have kM:=hdq hbl;have Ip:=hdq hcs;have kQ:=hdq har
   have hsn:sn<=9223372036854775807:=by
    have h1:=har.2.1;have h2:=har.2.2.1;unfold maxLen at h2;omega
   have HST:Hid (l.getD i St.no=⟨f,arcs⟩):=by
    show _=_;rw [<-HL.out,ic,hyi];rfl
   have sH:Hid (∀k,k<sn->∀{s t:Int},arcs.getD k (0,0)=(s,t)->(i:Int)<t/\t<(n:Int)):=by
    exact z47
   have Eg:(i:Int)<(n:Int):=omg;clear hbl hcf hcs har hyi;cases f
   ·have HI0:=hdq pQ.out.first
    have Am:=nS;have tY:=mH;have Ao:Hid (upM l i 0=0):=YA l i false (by rw [HST.out]);clear tL hj;go_wp2;go_loopw [5] (fun kx w8=>∃(k:Nat) (jJ:LIn),k<=sn/\kx=.int .i64 (k:Int)/\Hid (ja (iQ l) n i (upM l i k) jJ)/\Hid (IoR w8 w.heap.size n jJ)/\Hid (Below w.heap.size w w8)) (fun kx _=>sn-(intOf kx).toNat)
    case atStart=>exact ⟨0,_,Nat.zero_le _,rfl,by show ja _ _ _ _ _;rw [Ao.out];exact HI0.out,Am.out,tY.out⟩
    case round =>
     exact z46
   ·have HI0:=hdq (pQ.out.put hin 1);have Am:=hdq (nS.out.set i 1);have tY:Hid (Below w.heap.size w (w7.setCell ⟨w.heap.size,i,none⟩ (.int .i64 1))):=mH.out.setCell (p:=⟨w.heap.size,i,none⟩) lrf _;have hfr:w7.frozen? ⟨w.heap.size,i,none⟩=false:=nS.out.frozenAt i;obtain ⟨v0,hv0⟩:∃v,ms.getD i 0=v:=⟨_,rfl⟩;have hc0:w7.cell? ⟨w.heap.size,i,none⟩=some (.int .i64 v0):=nS.out.cell pQ.out.1 hin hv0;have Ao:Hid (upM l i 0=1):=YA l i true (by rw [HST.out]);clear hv0;clear tL hj;go_wp2;go_loopw [5] (fun kx w8=>∃(k:Nat) (jJ:LIn),k<=sn/\kx=.int .i64 (k:Int)/\Hid (ja (iQ l) n i (upM l i k) jJ)/\Hid (IoR w8 w.heap.size n jJ)/\Hid (Below w.heap.size w w8)) (fun kx _=>sn-(intOf kx).toNat)
    case atStart=>exact ⟨0,_,Nat.zero_le _,rfl,by show ja _ _ _ _ _;rw [Ao.out];exact HI0.out,Am.out,tY.out⟩
    case round =>
     exact z46

theorem Pw (a:OAd) (n cap:Nat) (xs:List Sw) (w:World) (r:Nat) (hx:Ss w a n cap xs) (hr:dK (sts xs)=r) :
 Calls Tryz.prog 36 #[.slice a n cap] w fun e w'=>e=.returned (.int .i64 (r:Int))/\Below w.heap.size w w':=by
 have HX:=hdq hx;cases hcc:check (sts xs)
 ·have hr0:r=0:=by unfold dK at hr;rw [hcc] at hr;exact hr.symm
  subst hr0;clear hx hr;go_enter Tryz.func36,Tryz.ntmps36;go_wp2_with (go_at_call 35;refine (pW a n cap xs false _ HX.out hcc).mono ?_;rintro e w' ⟨rfl,hb'⟩);go_ret;exact ⟨rfl,hb'⟩
 ·have hn:(sts xs).length=n:=by rw [fq];exact hx.1
  have hsz:=jo hcc;have HR:Hid (iQ (sts xs) 0=(r:Int)):=by show _=_;unfold dK at hr;rw [if_pos hcc] at hr;unfold iQ;rw [hr]
  have hn1:0<n:=omg;clear hx hr hsz hn;go_enter Tryz.func36,Tryz.ntmps36
  go_wp2_with (first
   | (go_at_call 35;refine (pW a n cap xs true _ HX.out hcc).mono ?_;rintro e w1 ⟨rfl,hb1⟩)
   | (go_at_call 84;refine (YB hcc a n cap xs w1 (HX.out.below hb1 lrf) rfl).mono ?_;rintro e w2 ⟨ms,rfl,hown,aB,hb2⟩;have hnl:(0:Int)<(n:Int):=omg;have hd0:w2.cell? ⟨w1.heap.size,0,none⟩=some (.int .i64 (r:Int)):=hown.cell aB.1 hn1 (by rw [aB.2.1 0 lrf hn1];exact HR.out);have HB2:=hdq hb2;clear hown aB hb2))
  go_ret;exact ⟨rfl,hb1.trans (HB2.out.mono hb1.size)⟩
def kH (l:List St) (j:Nat):Int:=dp (wds l j)
def upD (l:List St) (i k:Nat):Int:=dp (upA l i k)
theorem YC (l:List St) (i:Nat) (f:Bool) (h:(l.getD i St.no).final=f):upD l i 0=if f=true then 0 else -1:=by
 unfold upD;rw [DT,h];cases f<;>rfl
theorem alT (l:List St) (i:Nat) {k:Nat} {s:Int} {t:Nat} (hk:k<(l.getD i St.no).arcs.length) (ha:(l.getD i St.no).arcs.getD k (0,0)=(s,(t:Int))):upD l i (k+1)=if 0<=kH l t then max (upD l i k) (kH l t+1) else upD l i k:=by
 unfold upD kH;have h:=Ww l i hk ha;simp only [Int.toNat_natCast] at h;rw [h];have:=DR (wds l t);by_cases h0:dp (wds l t)=-1
 ·rw [if_pos h0,if_neg omg]
 ·rw [if_neg h0,if_pos omg]
theorem alU {l:List St} (hc:check l=true) {i:Nat} (hi:i<l.length):upD l i (l.getD i St.no).arcs.length=kH l i:=by
 unfold upD kH;rw [DU hc hi]
theorem alV {l:List St} (hc:check l=true) {i:Nat} (hi:i<l.length):-1<=kH l i/\kH l i<=6001:=by
 unfold kH;refine ⟨DR _,?_⟩
 have h:=NY (ws:=wds l i) (n:=6001) fun w hw=>by
  have h1:=(NV hc w hi hw).2;have h2:=(jo hc).2;omega
 exact h

theorem alW (a:OAd) (n cap:Nat) (xs:List Sw) (w:World) (r:Int) (hx:Ss w a n cap xs) (hr:gT (sts xs)=r) :
 Calls Tryz.prog 37 #[.slice a n cap] w fun e w'=>e=.returned (.int .i64 r)/\Below w.heap.size w w':=by
 have HX:=hdq hx;cases hcc:check (sts xs)
 ·have hr0:r=-1:=by unfold gT at hr;rw [hcc] at hr;exact hr.symm
  subst hr0;clear hx hr;go_enter Tryz.func37,Tryz.ntmps37;go_wp2_with (go_at_call 35;refine (pW a n cap xs false _ HX.out hcc).mono ?_;rintro e w' ⟨rfl,hb'⟩);go_ret;exact ⟨rfl,hb'⟩
 ·obtain ⟨l,hl⟩:∃l,sts xs=l:=⟨_,rfl⟩;rw [hl] at hcc hr;have hc:=hcc;have HL:=hdq hl;have dX:Hid (l.length=n):=by show _=_;rw [<-hl,fq];exact hx.1
  have hsz:=jo hc;have hn1:n<=6001:=by rw [<-dX.out];exact hsz.2
  have hn2:1<=n:=by rw [<-dX.out];exact hsz.1
  have hmk:=run_make_row' (P:=Tryz.prog) 51 3 (.int .i64 0) 8 Yy nW rfl .i64 .i64 n omg omg;have Ak:Hid (ny (kH l) n n (List.replicate n 0)):=⟨by simp,fun m h1 h2=>absurd h2 omg,fun m _=>Yz n m⟩;have HRR:Hid (kH l 0=r):=by show _=_;unfold gT at hr;rw [if_pos hc] at hr;exact hr
  have hw1:IntKind.i64.wrap ((n:Int)-1)=(n:Int)-1:=by rw [IntKind.wrap_i64];omega
  clear hx hl hsz hr;go_enter Tryz.func37,Tryz.ntmps37;go_wp2_with (go_at_call 35;refine (pW a n cap xs true _ HX.out (by rw [HL.out];exact hc)).mono ?_;rintro e w1 ⟨rfl,hb1⟩;have HB1:=hdq hb1;have tJ:=hdq (HX.out.below hb1 lrf);have BA:=hdq (IoR.made w1 n omg);have TU:Hid (Below w1.heap.size w1 (w1.alloc (.cells (madeCells #[.int .i64 0] n) 3))):=(Below.refl _ w1).alloc lrf _;clear hb1);go_loopw [5] (fun ix w6=>∃(j:Nat) (jx:Int) (ms:LIn),ix=.int .i64 jx/\jx=(j:Int)-1/\j<=n/\Hid (ny (kH l) n j ms)/\Hid (IoR w6 w1.heap.size n ms)/\Hid (Below w1.heap.size w1 w6)) (fun ix _=>(intOf ix+1).toNat)
  case atStart=>exact ⟨n,(n:Int)-1,_,by go_num,rfl,Nat.le_refl _,Ak.out,BA.out,TU.out⟩
  case round =>
   obtain ⟨w7,hw7⟩:∃x,x=wr:=⟨_,rfl⟩;subst hw7;obtain ⟨j,jx,ms,rfl,tL,hjn,pQ,nS,mH⟩:=hrel;by_cases hj:j=0
   ·have hneg:¬0<=jx:=omg;have hnl:(0:Int)<(n:Int):=omg;have hd0:w7.cell? ⟨w1.heap.size,0,none⟩=some (.int .i64 r):=nS.out.cell pQ.out.1 omg (by rw [pQ.out.2.1 0 omg omg];exact HRR.out);have lS:Hid (Below w.heap.size w w7):=HB1.out.trans (mH.out.mono HB1.out.size);clear tL hjn hj;go_wp2;go_ret;exact ⟨rfl,lS.out⟩
   ·obtain ⟨i,rfl⟩:∃i,j=i+1:=⟨j-1,by omega⟩;obtain rfl:jx=(i:Int):=omg;have hin:i<n:=omg;obtain ⟨b1,o1,f,sa,sn,sc,arcs,JZ,hbl,hcf,hcs,har,hyi⟩:=tJ.out.one i hin;subst JZ
    have aqS:w7.cell? ⟨b1,o1+i*2,none⟩=some (.bool f):=by
     rw [mH.out.cell (p:=⟨b1,o1+i*2,none⟩) hbl];exact hcf
    have HCF:=hdq hcf;have kM:=hdq hbl;have Ip:=hdq hcs;have kQ:=hdq har
    have hsn:sn<=9223372036854775807:=by
     have h1:=har.2.1;have h2:=har.2.2.1;unfold maxLen at h2;omega
    have HST:Hid (l.getD i St.no=⟨f,arcs⟩):=by
     show _=_;rw [<-HL.out,ic,hyi];rfl
    have sH:Hid (∀k,k<sn->∀{s t:Int},arcs.getD k (0,0)=(s,t)->(i:Int)<t/\t<(n:Int)):=by
     exact z47
    have Eg:(i:Int)<(n:Int):=omg;clear hbl hcf hcs har hyi;cases f
    ·have Ao:Hid (upD l i 0=-1):=YC l i false (by rw [HST.out]);have HI0:=hdq (pQ.out.put hin (-1));have Am:=hdq (nS.out.set i (-1));have tY:Hid (Below w1.heap.size w1 (w7.setCell ⟨w1.heap.size,i,none⟩ (.int .i64 (-1)))):=mH.out.setCell (p:=⟨w1.heap.size,i,none⟩) lrf _;have aqT:∀v,(w7.setCell ⟨w1.heap.size,i,none⟩ v).cell? ⟨b1,o1+i*2,none⟩=some (.bool false):=fun v=>by rw [(mH.out.setCell (p:=⟨w1.heap.size,i,none⟩) lrf v).cell (p:=⟨b1,o1+i*2,none⟩) kM.out];exact HCF.out
     have hfr:w7.frozen? ⟨w1.heap.size,i,none⟩=false:=nS.out.frozenAt i;obtain ⟨v0,hv0⟩:∃v,ms.getD i 0=v:=⟨_,rfl⟩;have hc0:w7.cell? ⟨w1.heap.size,i,none⟩=some (.int .i64 v0):=nS.out.cell pQ.out.1 hin hv0;clear hv0 tL hj;go_wp2;go_loopw [6] (fun kx w8=>∃(k:Nat) (jJ:LIn),k<=sn/\kx=.int .i64 (k:Int)/\Hid (ja (kH l) n i (upD l i k) jJ)/\Hid (IoR w8 w1.heap.size n jJ)/\Hid (Below w1.heap.size w1 w8)) (fun kx _=>sn-(intOf kx).toNat)
     case atStart=>exact ⟨0,_,Nat.zero_le _,rfl,by show ja _ _ _ _ _;rw [Ao.out];exact HI0.out,Am.out,tY.out⟩
     case round =>
      exact z45
    ·have Ao:Hid (upD l i 0=0):=YC l i true (by rw [HST.out]);have HI0:=hdq ((pQ.out.put hin (-1)).put hin 0);have Am:=hdq ((nS.out.set i (-1)).set i 0);have tY:Hid (Below w1.heap.size w1 ((w7.setCell ⟨w1.heap.size,i,none⟩ (.int .i64 (-1))).setCell ⟨w1.heap.size,i,none⟩ (.int .i64 0))):=(mH.out.setCell (p:=⟨w1.heap.size,i,none⟩) lrf _).setCell (p:=⟨w1.heap.size,i,none⟩) lrf _;have BQ:=hdq (nS.out.set i (-1));have hfr2:(w7.setCell ⟨w1.heap.size,i,none⟩ (.int .i64 (-1))).frozen? ⟨w1.heap.size,i,none⟩=false:=BQ.out.frozenAt i;have auS:(w7.setCell ⟨w1.heap.size,i,none⟩ (.int .i64 (-1))).cell? ⟨w1.heap.size,i,none⟩=some (.int .i64 (-1)):=BQ.out.cell (by rw [List.length_set];exact pQ.out.1) hin (Pv (by rw [pQ.out.1];exact hin));have aqT:∀v,(w7.setCell ⟨w1.heap.size,i,none⟩ v).cell? ⟨b1,o1+i*2,none⟩=some (.bool true):=fun v=>by rw [(mH.out.setCell (p:=⟨w1.heap.size,i,none⟩) lrf v).cell (p:=⟨b1,o1+i*2,none⟩) kM.out];exact HCF.out
     have hfr:w7.frozen? ⟨w1.heap.size,i,none⟩=false:=nS.out.frozenAt i;obtain ⟨v0,hv0⟩:∃v,ms.getD i 0=v:=⟨_,rfl⟩;have hc0:w7.cell? ⟨w1.heap.size,i,none⟩=some (.int .i64 v0):=nS.out.cell pQ.out.1 hin hv0;clear hv0 tL hj;go_wp2;go_loopw [6] (fun kx w8=>∃(k:Nat) (jJ:LIn),k<=sn/\kx=.int .i64 (k:Int)/\Hid (ja (kH l) n i (upD l i k) jJ)/\Hid (IoR w8 w1.heap.size n jJ)/\Hid (Below w1.heap.size w1 w8)) (fun kx _=>sn-(intOf kx).toNat)
     case atStart=>exact ⟨0,_,Nat.zero_le _,rfl,by show ja _ _ _ _ _;rw [Ao.out];exact HI0.out,Am.out,tY.out⟩
     case round =>
      exact z45
end
section
open Go.RowKit

theorem PE {w:World} {ops:Array Oper} {rest:List Oper} {o:Oper} {act:Act} {Q:Exit->Act->World->Prop} (hw:Region.wanted o (yielded ops act.tmps)=true) (s x:Operand)
 (ho:o.op=.call { callee:=.builtin .append,args:=#[s,x],argTypes:=#[29,29] }) (base:Nat) (v:Value) (n:Nat) (xs:List Wd) (hs:act.eval s=v)
 (hown:w.ownsRow base 51 1 v n (vals xs)) (a:OAd) (m c:Nat) (zs:List Wd) (hx:act.eval x=.slice a m c) (hz:Ws w a m c zs) (ha:a=none->c=0)
 (N:Nat) (hN:n+m=N) (h63:N*24<=140737488355328) (hbase:base<=w.heap.size)
 (h:∀a' c' w',w'.ownsRow base 51 1 (.slice a' N c') N (vals (xs++zs))->Below base w w'->w.grownBy w' v.ownBlock->(a'=none->c'=0)->wpList Tryz.prog ops Q rest (act.put o.dst (.slice a' N c')) w') :
 wpList Tryz.prog ops Q (o::rest) act w:=by
 subst hN;obtain ⟨i0,hi,hz0,hz1,hz2⟩:=info_parts Dn
 have form:∀{w':World} {v':Value} {k:Nat} {l:List Value},w'.ownsRow base 51 1 v' k l->∃a' c',v'=.slice a' k c'/\(a'=none->c'=0):=by
  intro w' v' k l ho;rcases ho.2 with ⟨h1,h2⟩|⟨g,cap,cur,h1,_⟩
  ·subst h2;exact ⟨none,0,h1,fun _=>rfl⟩
  ·exact ⟨_,cap,h1,fun h=>by cases h⟩
 refine wpList_step fun K hK=>?_;rw [if_pos hw]
 cases a with
 | none =>
   obtain rfl:=ha rfl;obtain rfl:m=0:=by have:=hz.2.1;omega
   obtain rfl:zs=[]:=List.eq_nil_of_length_eq_zero hz.1;obtain ⟨a',c',rfl,hnil⟩:=form hown;have hrun:=run_append_owned_none (P:=Tryz.prog) (w:=w) base 29 o.type 51 i0 1 Tryz.underlying29 hi _ n (vals xs) hown;unfold Oper.wp;simp [execOp,ho,resolve,invoke,builtin,hs,hx,hrun,Result.andThen];exact hK _ _ (h a' c' w (by simpa using hown) (Below.refl _ _) (World.grownBy.refl w _) hnil)
 | some y =>
   have hnews:∀j u,(vals zs)[j]?=some u->w.cell? (y.add j)=some u:=by
    intro j u hj
    have hjl:j<zs.length:=by
     rcases Nat.lt_or_ge j zs.length with hlt|hge
     ·exact hlt
     ·simp [vals,List.getElem?_eq_none hge] at hj
    obtain ⟨b,off,hy,_,hc⟩:=hz.at (by have:=hz.1;omega);simp only [sij] at hy;subst hy;have:=hc j (by have:=hz.1;omega);rw [show (⟨b,off,none⟩:Addr).add j=⟨b,off+j,none⟩ from by simp [Addr.add],this];simp [vals,hjl] at hj;rw [<-hj];simp [hjl,Wd.v]
   refine wp_append_own w s x 29 ho base 51 i0 (.slice none 0 0) 1 24 Tryz.underlying29 hi hz0 hz1 hz2 rfl (by decide) v n (vals xs) hs hown y m c (vals zs) hx (by simp [vals,hz.1]) hnews (Dp zs) (by unfold maxLen;omega) h63 hbase ?_;intro v' w' hown' hgrow _;obtain ⟨a',c',rfl,hnil⟩:=form hown';exact hK _ _ (h a' c' w' (by rw [II];exact hown') ((Below.refl _ _).grown hgrow hbase (fun k hk=>(hown.lt k hk).1)) hgrow hnil)
theorem size_alloc (w:World) (o:Obj):(w.alloc o).heap.size=w.heap.size+1:=by unfold World.alloc;simp
end
section
theorem z48 {P:Prop} (h:P:=by
 obtain ⟨k,L,c,oa,outs,hk,rfl,rfl,HM,HS,HB⟩:=hrel
 have hc2:wr.cell? ⟨b1,o1+at_*2+1,none⟩=some (.slice sa sn sc):=by
  rw [HB.out.cell (p:=⟨b1,o1+at_*2+1,none⟩) kM.out];exact Ip.out
 by_cases hkl:k<sn
 ·obtain ⟨b2,o2,s,t,rfl,hb2,hy0,hy1,hws,hwt,hst⟩:=kQ.out.one k hkl
  have hy0':wr.cell? ⟨b2,o2+k*2,none⟩=some (.int .i64 s):=by
   rw [HB.out.cell (p:=⟨b2,o2+k*2,none⟩) hb2];exact hy0
  have YY:wr.cell? ⟨b2,o2+k*2+1,none⟩=some (.int .i64 t):=by
   rw [HB.out.cell (p:=⟨b2,o2+k*2+1,none⟩) hb2];exact hy1
  obtain ⟨htl,htn⟩:=sH.out k hkl hst;obtain ⟨tn,rfl⟩:∃m:Nat,t=(m:Int):=⟨t.toNat,by omega⟩;have uA:tn<n:=omg;have jd:=hdq hws;have zB:=hdq hst;have TP:(k:Int)<(sn:Int):=omg;have hk0:(0:Int)<=(k:Int):=omg;obtain ⟨wy,nM⟩:∃W,W=wr.alloc (.cells #[.int .i64 s,.int .i64 (tn:Int)] 95):=⟨_,rfl⟩;have TV:Below wr.heap.size wr wy:=by rw [nM];exact (Below.refl _ wr).alloc lrf _
  have hBW:Below w.heap.size w wy:=HB.out.trans (TV.mono HB.out.size)
  have hcy:wy.cell? ⟨wr.heap.size,0,none⟩=some (.int .i64 s)/\wy.cell? ⟨wr.heap.size,1,none⟩=some (.int .i64 (tn:Int)):=by
   rw [nM];exact ⟨by rw [af (han wr _)];rfl,by rw [af (han wr _)];rfl⟩
  have hsy:wr.heap.size<wy.heap.size:=by rw [nM,size_alloc];omega
  have bV:Hid (∀W,Below wy.heap.size wy W->W.cell? ⟨wr.heap.size,0,none⟩=some (.int .i64 s)/\W.cell? ⟨wr.heap.size,1,none⟩=some (.int .i64 (tn:Int))):=hdq fun W hW=>⟨by rw [hW.cell (p:=⟨wr.heap.size,0,none⟩) hsy];exact hcy.1,by rw [hW.cell (p:=⟨wr.heap.size,1,none⟩) hsy];exact hcy.2⟩;have bG:Hid (Below wy.heap.size wy wy.drew):=aG (Below.refl _ _) ⟨1,rfl⟩;have ji:Hid (Sl .i64 wy ba bn bc bz):=Cn.out.below hBW lrf;have vU:Hid (Sl .i64 wy fa fn fc fz):=TW.out.below hBW lrf;have TY:Hid (Ss wy _ n cap xs):=HX.out.below hBW lrf;have TZ:Hid (qZ wy cg n l):=qj.out.below hBW;have Ua:Hid (Ml w.heap.size wy oa L c outs):=HM.out.below TV;have ai:=hdq hBW;have HWY:=hdq nM;clear hb2 hy0 hy1 hws hwt hst hcy hBW TV nM;go_wp2;rw [<-HWY.out];clear HWY;refine wp_region_held_drew (S:=(fun W=>W.cell? ⟨wr.heap.size,0,none⟩=some (.int .i64 s)/\W.cell? ⟨wr.heap.size,1,none⟩=some (.int .i64 (tn:Int)))) krf (by first|(first|exact bV.out _ bG.out|exact hS0|exact hS2|exact hS5|exact aK)|((try dsimp only);first|exact bV.out _ bG.out|exact hS0|exact hS2|exact hS5|exact aK)) (fun hHeld=>?_);refine t_h 1 ?_;refine t_h 3 ?_;refine t_h 4 ?_;refine fT 0 5 (fun K hK=>?_) (fun K hK=>?_)
  ·refine YE rfq rfq ?_;intro w0 hown0' hz0 hbx0;have hown0:=oh hown0' bG.out.size;have iL:Below wy.heap.size wy w0:=bG.out.trans (hbx0.mono bG.out.size);have hS0:=bV.out _ iL;refine k_h hK (by first|(first|exact bV.out _ bG.out|exact hS0|exact hS2|exact hS5|exact aK)|(dsimp only;first|exact bV.out _ bG.out|exact hS0|exact hS2|exact hS5|exact aK)) (fun hHeld=>?_);clear hK K;refine fT 2 5 (fun K hK=>?_) (fun K hK=>?_)
   ·refine Bj rfq (.tmp 62) (.tmp 63) rfq wy.heap.size _ 0 [] rfq hown0 ba bn bc bz rfq (ji.out.below iL lrf) fP.out bn omg omg iL.size ?_;intro a2 c2 w2 hown2 Iq fZ _;have sS:Below wy.heap.size wy w2:=iL.trans Iq;have hS2:=bV.out _ sS;refine k_h hK (by first|(first|exact bV.out _ bG.out|exact hS0|exact hS2|exact hS5|exact aK)|(dsimp only;first|exact bV.out _ bG.out|exact hS0|exact hS2|exact hS5|exact aK)) (fun hHeld=>?_);clear hK K;refine r_h 5 (fun K hK=>?_);refine PG rfq (.tmp 66) s rfq rfq jd.out ?_;intro w5 sU hz5 xV;have pR:Below wy.heap.size wy w5:=sS.trans (xV.mono sS.size);replace hown2:=ownsRow_below hown2 xV lrf;have hS5:=bV.out _ pR;refine k_h hK (by first|(first|exact bV.out _ bG.out|exact hS0|exact hS2|exact hS5|exact aK)|(dsimp only;first|exact bV.out _ bG.out|exact hS0|exact hS2|exact hS5|exact aK)) (fun hHeld=>?_);clear hK K;refine r_h 6 (fun K hK=>?_);refine Bj rfq (.tmp 64) (.tmp 67) rfq wy.heap.size _ bn ([]++bz) rfq hown2 _ 1 1 [s] rfq sU (fun h=>by cases h) (bn+1) rfl omg pR.size ?_;intro a6 c6 w6 hown6 zC _ xX;have sV:Below wy.heap.size wy w6:=pR.trans zC;have aK:=bV.out _ sV;refine k_h hK (by first|(first|exact bV.out _ bG.out|exact hS0|exact hS2|exact hS5|exact aK)|(dsimp only;first|exact bV.out _ bG.out|exact hS0|exact hS2|exact hS5|exact aK)) (fun hHeld=>?_);clear hK K;refine t_h 7 ?_;refine wpAnyH_done krf ?_ _
    have gW:Hid (Sl .i64 w6 a6 (bn+1) c6 ([]++bz++[s])):=Sl.of_owns hown6 (by
     intro x hx;rcases map1 hx with hx|hx
     ·exact ji.out.2.2.2.1 x (by simpa using hx)
     ·rw [msg hx];exact jd.out) (by simp [ji.out.1])
    have Ir:=hdq xX;have bZ:=hdq sV;have hc6:=gW.out.2.1;have Iu:=gW.out.2.2.1;unfold maxLen at Iu;clear hown6 xX;obtain ⟨m,hm⟩:∃m,min (bn+1) fn=m:=⟨_,rfl⟩;have hmI:min (((bn+1:Nat)):Int) (fn:Int)=(m:Int):=omg;have ads:min ((bn:Int)+1) (fn:Int)=(m:Int):=omg;have hm1:m<=bn+1:=omg;have hm2:m<=fn:=omg;have hm0:(0:Int)<=(m:Int):=omg;have rX:(m:Int)<=(c6:Int):=omg;have Iy:(m:Int)<=(fc:Int):=omg;have hmc:m<=c6:=omg;have hmf:m<=fc:=omg;obtain ⟨g2,hg2⟩:∃g2,lessL (([]++bz++[s]).take m) (fz.take m)=g2:=⟨_,rfl⟩;have HG2:=hdq hg2;have uy:Hid (m=min (bz++[s]).length fz.length):=by show _=_;rw [List.length_append,List.length_singleton,ji.out.1,vU.out.1];exact hm.symm
    have bR:Hid (Sl .i64 w6 a6 m c6 (([]++bz++[s]).take m)):=gW.out.cutR hm1;have HS2:Hid (Sl .i64 w6 fa m fc (fz.take m)):=(vU.out.below bZ.out lrf).cutR hm2;have fD:Hid (eH l at_ (k+1) bz fz=eH l at_ k bz fz++bhd l tn (bz++[s]) fz):=Py l at_ bz fz (by rw [HST.out];show k<arcs.length;rw [kQ.out.1];exact hkl) (by rw [HST.out];exact zB.out);have bC:Hid (Ml w.heap.size w6 oa L c outs):=Ua.out.below bZ.out;have nT:Hid (Below w.heap.size w w6):=ai.out.trans (bZ.out.mono ai.out.size);have Ub:L<=N:=by rw [<-HM.out.len,<-nums_length,HS.out,List.length_take];exact Nat.min_le_left _ _
    have adu:w6.cell? ⟨wr.heap.size,0,none⟩=some (.int .i64 s):=aK.1;have adv:w6.cell? ⟨wr.heap.size,1,none⟩=some (.int .i64 (tn:Int)):=aK.2;have adw:∀q,(w6.drewN q).cell? ⟨wr.heap.size,1,none⟩=some (.int .i64 (tn:Int)):=fun _=>aK.2;clear hg2 hm sV hHeld hS0 hS2 hS5 aK;cases g2
    ·obtain ⟨M,hM⟩:∃M,N-L=M:=⟨_,rfl⟩;have Uc:min (N:Int) (L:Int)=(L:Int):=omg;have hsub:IntKind.i64.wrap ((N:Int)-(L:Int))=(M:Int):=by rw [IntKind.wrap_i64];omega
     have Iz:Hid (M=N-min N L):=by show _=_;omega
     have IA:M<=300:=omg;have vK:Hid (((eH l at_ k bz fz).take N).length=L):=by show _=_;rw [<-HS.out,nums_length];exact HM.out.len
     have htd:n-tn<=d:=omg;have hbt:bn+1<=tn:=omg;clear hM;go_wp2;go_quiet ((go_at_call 121;exact Calls.quiet_of (jL a6 fa m m c6 fc _ _ false _ (bR.out.drewN _) (HS2.out.drewN _) HG2.out)));go_wp2_with fail;refine (Ck.out tn uA htd _ a6 (bn+1) c6 ([]++bz++[s]) M ((TY.out.below bZ.out lrf).drawn ⟨_,rfl⟩) ((TZ.out.below bZ.out).drewN _) hcc (gW.out.drewN _) Ir.out hbt ((vU.out.below bZ.out lrf).drewN _) IA).mono ?_;rintro e w7 ⟨a7,k7,c7,o7,rfl,m7,n7,b7⟩;have lL:Hid (Below w6.heap.size w6 w7):=(below_drewN (Below.refl _ _) _).trans b7;have qx:Hid (Ml w.heap.size w7 oa L c outs):=bC.out.below lL.out;have aU:Hid (Ml w.heap.size w7 a7 k7 c7 o7):=m7.lowerR nT.out.size;have ky:k7<=M:=by rw [<-m7.len,<-nums_length,n7,List.length_take];exact Nat.min_le_left _ _
     have qG:=hdq n7;have xY:Hid (Below w.heap.size w w7):=nT.out.trans (lL.out.mono nT.out.size);clear m7 n7 b7;go_wp2_with (at_builtin;refine PE rfq (.tmp 82) (.tmp 95) rfq w.heap.size _ L outs rfq qx.out.row a7 k7 c7 o7 rfq aU.out.words aU.out.nil (L+k7) rfl omg xY.out.size ?_;intro a8 c8 w8 xZ yg gH oW;have iC:=hdq (qx.out.app o7 aU.out.own aU.out.wfs aU.out.lens aU.out.len xZ gH oW);have rC:Hid (Below w.heap.size w w8):=xY.out.trans yg;clear xZ yg gH oW)
     have sW:Hid (nums (outs++o7)=(eH l at_ (k+1) bz fz).take N):=by
      show _=_;rw [fD.out,PD,vK.out,<-Iz.out,nums_app,HS.out,qG.out,List.nil_append]
     go_roundw
     case rel=>exact ⟨k+1,L+k7,c8,a8,outs++o7,by omega,rfl,by go_num,iC.out,sW.out,rC.out⟩
     case measure=>simp [intOf];omega
    ·have sW:Hid (nums outs=(eH l at_ (k+1) bz fz).take N):=by
      show _=_;rw [fD.out,Pz l tn (b:=bz++[s]) (fr:=fz) (by rw [<-uy.out];have h:=HG2.out;rw [List.nil_append] at h;exact h),List.append_nil];exact HS.out
     go_wp2;go_quiet ((go_at_call 121;exact Calls.quiet_of (jL a6 fa m m c6 fc _ _ true _ (bR.out.drewN _) (HS2.out.drewN _) HG2.out)));go_wp2;go_roundw
     case rel=>exact ⟨k+1,L,c,oa,outs,by omega,rfl,by go_num,bC.out.below (below_drewN (Below.refl _ _) _),sW.out,below_drewN nT.out _⟩
     case measure=>simp [intOf];omega

   ·refine PG rfq (.tmp 66) s rfq rfq jd.out ?_;intro w5 sU hz5 xV;have pR:Below wy.heap.size wy w5:=iL.trans (xV.mono iL.size);replace hown0:=ownsRow_below hown0 xV lrf;have hS5:=bV.out _ pR;refine k_h hK (by first|(first|exact bV.out _ bG.out|exact hS0|exact hS2|exact hS5|exact aK)|(dsimp only;first|exact bV.out _ bG.out|exact hS0|exact hS2|exact hS5|exact aK)) (fun hHeld=>?_);clear hK K;refine r_h 2 (fun K hK=>?_);refine Bj rfq (.tmp 62) (.tmp 63) rfq wy.heap.size _ 0 [] rfq hown0 ba bn bc bz rfq (ji.out.below pR lrf) fP.out bn omg omg pR.size ?_;intro a2 c2 w2 hown2 Iq fZ _;have sS:Below wy.heap.size wy w2:=pR.trans Iq;replace sU:=sU.grownR fZ (by dsimp only;omega);have hS2:=bV.out _ sS;refine k_h hK (by first|(first|exact bV.out _ bG.out|exact hS0|exact hS2|exact hS5|exact aK)|(dsimp only;first|exact bV.out _ bG.out|exact hS0|exact hS2|exact hS5|exact aK)) (fun hHeld=>?_);clear hK K;refine r_h 6 (fun K hK=>?_);refine Bj rfq (.tmp 64) (.tmp 67) rfq wy.heap.size _ bn ([]++bz) rfq hown2 _ 1 1 [s] rfq sU (fun h=>by cases h) (bn+1) rfl omg sS.size ?_;intro a6 c6 w6 hown6 zC _ xX;have sV:Below wy.heap.size wy w6:=sS.trans zC;have aK:=bV.out _ sV;refine k_h hK (by first|(first|exact bV.out _ bG.out|exact hS0|exact hS2|exact hS5|exact aK)|(dsimp only;first|exact bV.out _ bG.out|exact hS0|exact hS2|exact hS5|exact aK)) (fun hHeld=>?_);clear hK K;refine t_h 7 ?_;refine wpAnyH_done krf ?_ _
    have gW:Hid (Sl .i64 w6 a6 (bn+1) c6 ([]++bz++[s])):=Sl.of_owns hown6 (by
     intro x hx;rcases map1 hx with hx|hx
     ·exact ji.out.2.2.2.1 x (by simpa using hx)
     ·rw [msg hx];exact jd.out) (by simp [ji.out.1])
    have Ir:=hdq xX;have bZ:=hdq sV;have hc6:=gW.out.2.1;have Iu:=gW.out.2.2.1;unfold maxLen at Iu;clear hown6 xX;obtain ⟨m,hm⟩:∃m,min (bn+1) fn=m:=⟨_,rfl⟩;have hmI:min (((bn+1:Nat)):Int) (fn:Int)=(m:Int):=omg;have ads:min ((bn:Int)+1) (fn:Int)=(m:Int):=omg;have hm1:m<=bn+1:=omg;have hm2:m<=fn:=omg;have hm0:(0:Int)<=(m:Int):=omg;have rX:(m:Int)<=(c6:Int):=omg;have Iy:(m:Int)<=(fc:Int):=omg;have hmc:m<=c6:=omg;have hmf:m<=fc:=omg;obtain ⟨g2,hg2⟩:∃g2,lessL (([]++bz++[s]).take m) (fz.take m)=g2:=⟨_,rfl⟩;have HG2:=hdq hg2;have uy:Hid (m=min (bz++[s]).length fz.length):=by show _=_;rw [List.length_append,List.length_singleton,ji.out.1,vU.out.1];exact hm.symm
    have bR:Hid (Sl .i64 w6 a6 m c6 (([]++bz++[s]).take m)):=gW.out.cutR hm1;have HS2:Hid (Sl .i64 w6 fa m fc (fz.take m)):=(vU.out.below bZ.out lrf).cutR hm2;have fD:Hid (eH l at_ (k+1) bz fz=eH l at_ k bz fz++bhd l tn (bz++[s]) fz):=Py l at_ bz fz (by rw [HST.out];show k<arcs.length;rw [kQ.out.1];exact hkl) (by rw [HST.out];exact zB.out);have bC:Hid (Ml w.heap.size w6 oa L c outs):=Ua.out.below bZ.out;have nT:Hid (Below w.heap.size w w6):=ai.out.trans (bZ.out.mono ai.out.size);have Ub:L<=N:=by rw [<-HM.out.len,<-nums_length,HS.out,List.length_take];exact Nat.min_le_left _ _
    have adu:w6.cell? ⟨wr.heap.size,0,none⟩=some (.int .i64 s):=aK.1;have adv:w6.cell? ⟨wr.heap.size,1,none⟩=some (.int .i64 (tn:Int)):=aK.2;have adw:∀q,(w6.drewN q).cell? ⟨wr.heap.size,1,none⟩=some (.int .i64 (tn:Int)):=fun _=>aK.2;clear hg2 hm sV hHeld hS0 hS2 hS5 aK;cases g2
    ·obtain ⟨M,hM⟩:∃M,N-L=M:=⟨_,rfl⟩;have Uc:min (N:Int) (L:Int)=(L:Int):=omg;have hsub:IntKind.i64.wrap ((N:Int)-(L:Int))=(M:Int):=by rw [IntKind.wrap_i64];omega
     have Iz:Hid (M=N-min N L):=by show _=_;omega
     have IA:M<=300:=omg;have vK:Hid (((eH l at_ k bz fz).take N).length=L):=by show _=_;rw [<-HS.out,nums_length];exact HM.out.len
     have htd:n-tn<=d:=omg;have hbt:bn+1<=tn:=omg;clear hM;go_wp2;go_quiet ((go_at_call 121;exact Calls.quiet_of (jL a6 fa m m c6 fc _ _ false _ (bR.out.drewN _) (HS2.out.drewN _) HG2.out)));go_wp2_with fail;refine (Ck.out tn uA htd _ a6 (bn+1) c6 ([]++bz++[s]) M ((TY.out.below bZ.out lrf).drawn ⟨_,rfl⟩) ((TZ.out.below bZ.out).drewN _) hcc (gW.out.drewN _) Ir.out hbt ((vU.out.below bZ.out lrf).drewN _) IA).mono ?_;rintro e w7 ⟨a7,k7,c7,o7,rfl,m7,n7,b7⟩;have lL:Hid (Below w6.heap.size w6 w7):=(below_drewN (Below.refl _ _) _).trans b7;have qx:Hid (Ml w.heap.size w7 oa L c outs):=bC.out.below lL.out;have aU:Hid (Ml w.heap.size w7 a7 k7 c7 o7):=m7.lowerR nT.out.size;have ky:k7<=M:=by rw [<-m7.len,<-nums_length,n7,List.length_take];exact Nat.min_le_left _ _
     have qG:=hdq n7;have xY:Hid (Below w.heap.size w w7):=nT.out.trans (lL.out.mono nT.out.size);clear m7 n7 b7;go_wp2_with (at_builtin;refine PE rfq (.tmp 82) (.tmp 95) rfq w.heap.size _ L outs rfq qx.out.row a7 k7 c7 o7 rfq aU.out.words aU.out.nil (L+k7) rfl omg xY.out.size ?_;intro a8 c8 w8 xZ yg gH oW;have iC:=hdq (qx.out.app o7 aU.out.own aU.out.wfs aU.out.lens aU.out.len xZ gH oW);have rC:Hid (Below w.heap.size w w8):=xY.out.trans yg;clear xZ yg gH oW)
     have sW:Hid (nums (outs++o7)=(eH l at_ (k+1) bz fz).take N):=by
      show _=_;rw [fD.out,PD,vK.out,<-Iz.out,nums_app,HS.out,qG.out,List.nil_append]
     go_roundw
     case rel=>exact ⟨k+1,L+k7,c8,a8,outs++o7,by omega,rfl,by go_num,iC.out,sW.out,rC.out⟩
     case measure=>simp [intOf];omega
    ·have sW:Hid (nums outs=(eH l at_ (k+1) bz fz).take N):=by
      show _=_;rw [fD.out,Pz l tn (b:=bz++[s]) (fr:=fz) (by rw [<-uy.out];have h:=HG2.out;rw [List.nil_append] at h;exact h),List.append_nil];exact HS.out
     go_wp2;go_quiet ((go_at_call 121;exact Calls.quiet_of (jL a6 fa m m c6 fc _ _ true _ (bR.out.drewN _) (HS2.out.drewN _) HG2.out)));go_wp2;go_roundw
     case rel=>exact ⟨k+1,L,c,oa,outs,by omega,rfl,by go_num,bC.out.below (below_drewN (Below.refl _ _) _),sW.out,below_drewN nT.out _⟩
     case measure=>simp [intOf];omega

  ·refine PG rfq (.tmp 66) s rfq rfq jd.out ?_;intro w5 sU hz5 xV;have pR:Below wy.heap.size wy w5:=bG.out.trans (xV.mono bG.out.size);have hS5:=bV.out _ pR;refine k_h hK (by first|(first|exact bV.out _ bG.out|exact hS0|exact hS2|exact hS5|exact aK)|(dsimp only;first|exact bV.out _ bG.out|exact hS0|exact hS2|exact hS5|exact aK)) (fun hHeld=>?_);clear hK K;refine r_h 0 (fun K hK=>?_);refine YE rfq rfq ?_;intro w0 hown0' hz0 hbx0;have hown0:=oh hown0' pR.size;have iL:Below wy.heap.size wy w0:=pR.trans (hbx0.mono pR.size);replace sU:=sU.below hbx0 lrf;have hS0:=bV.out _ iL;refine k_h hK (by first|(first|exact bV.out _ bG.out|exact hS0|exact hS2|exact hS5|exact aK)|(dsimp only;first|exact bV.out _ bG.out|exact hS0|exact hS2|exact hS5|exact aK)) (fun hHeld=>?_);clear hK K;refine r_h 2 (fun K hK=>?_);refine Bj rfq (.tmp 62) (.tmp 63) rfq wy.heap.size _ 0 [] rfq hown0 ba bn bc bz rfq (ji.out.below iL lrf) fP.out bn omg omg iL.size ?_;intro a2 c2 w2 hown2 Iq fZ _;have sS:Below wy.heap.size wy w2:=iL.trans Iq;replace sU:=sU.grownR fZ (by dsimp only;omega);have hS2:=bV.out _ sS;refine k_h hK (by first|(first|exact bV.out _ bG.out|exact hS0|exact hS2|exact hS5|exact aK)|(dsimp only;first|exact bV.out _ bG.out|exact hS0|exact hS2|exact hS5|exact aK)) (fun hHeld=>?_);clear hK K;refine r_h 6 (fun K hK=>?_);refine Bj rfq (.tmp 64) (.tmp 67) rfq wy.heap.size _ bn ([]++bz) rfq hown2 _ 1 1 [s] rfq sU (fun h=>by cases h) (bn+1) rfl omg sS.size ?_;intro a6 c6 w6 hown6 zC _ xX;have sV:Below wy.heap.size wy w6:=sS.trans zC;have aK:=bV.out _ sV;refine k_h hK (by first|(first|exact bV.out _ bG.out|exact hS0|exact hS2|exact hS5|exact aK)|(dsimp only;first|exact bV.out _ bG.out|exact hS0|exact hS2|exact hS5|exact aK)) (fun hHeld=>?_);clear hK K;refine t_h 7 ?_;refine wpAnyH_done krf ?_ _
   have gW:Hid (Sl .i64 w6 a6 (bn+1) c6 ([]++bz++[s])):=Sl.of_owns hown6 (by
    intro x hx;rcases map1 hx with hx|hx
    ·exact ji.out.2.2.2.1 x (by simpa using hx)
    ·rw [msg hx];exact jd.out) (by simp [ji.out.1])
   have Ir:=hdq xX;have bZ:=hdq sV;have hc6:=gW.out.2.1;have Iu:=gW.out.2.2.1;unfold maxLen at Iu;clear hown6 xX;obtain ⟨m,hm⟩:∃m,min (bn+1) fn=m:=⟨_,rfl⟩;have hmI:min (((bn+1:Nat)):Int) (fn:Int)=(m:Int):=omg;have ads:min ((bn:Int)+1) (fn:Int)=(m:Int):=omg;have hm1:m<=bn+1:=omg;have hm2:m<=fn:=omg;have hm0:(0:Int)<=(m:Int):=omg;have rX:(m:Int)<=(c6:Int):=omg;have Iy:(m:Int)<=(fc:Int):=omg;have hmc:m<=c6:=omg;have hmf:m<=fc:=omg;obtain ⟨g2,hg2⟩:∃g2,lessL (([]++bz++[s]).take m) (fz.take m)=g2:=⟨_,rfl⟩;have HG2:=hdq hg2;have uy:Hid (m=min (bz++[s]).length fz.length):=by show _=_;rw [List.length_append,List.length_singleton,ji.out.1,vU.out.1];exact hm.symm
   have bR:Hid (Sl .i64 w6 a6 m c6 (([]++bz++[s]).take m)):=gW.out.cutR hm1;have HS2:Hid (Sl .i64 w6 fa m fc (fz.take m)):=(vU.out.below bZ.out lrf).cutR hm2;have fD:Hid (eH l at_ (k+1) bz fz=eH l at_ k bz fz++bhd l tn (bz++[s]) fz):=Py l at_ bz fz (by rw [HST.out];show k<arcs.length;rw [kQ.out.1];exact hkl) (by rw [HST.out];exact zB.out);have bC:Hid (Ml w.heap.size w6 oa L c outs):=Ua.out.below bZ.out;have nT:Hid (Below w.heap.size w w6):=ai.out.trans (bZ.out.mono ai.out.size);have Ub:L<=N:=by rw [<-HM.out.len,<-nums_length,HS.out,List.length_take];exact Nat.min_le_left _ _
   have adu:w6.cell? ⟨wr.heap.size,0,none⟩=some (.int .i64 s):=aK.1;have adv:w6.cell? ⟨wr.heap.size,1,none⟩=some (.int .i64 (tn:Int)):=aK.2;have adw:∀q,(w6.drewN q).cell? ⟨wr.heap.size,1,none⟩=some (.int .i64 (tn:Int)):=fun _=>aK.2;clear hg2 hm sV hHeld hS0 hS2 hS5 aK;cases g2
   ·obtain ⟨M,hM⟩:∃M,N-L=M:=⟨_,rfl⟩;have Uc:min (N:Int) (L:Int)=(L:Int):=omg;have hsub:IntKind.i64.wrap ((N:Int)-(L:Int))=(M:Int):=by rw [IntKind.wrap_i64];omega
    have Iz:Hid (M=N-min N L):=by show _=_;omega
    have IA:M<=300:=omg;have vK:Hid (((eH l at_ k bz fz).take N).length=L):=by show _=_;rw [<-HS.out,nums_length];exact HM.out.len
    have htd:n-tn<=d:=omg;have hbt:bn+1<=tn:=omg;clear hM;go_wp2;go_quiet ((go_at_call 121;exact Calls.quiet_of (jL a6 fa m m c6 fc _ _ false _ (bR.out.drewN _) (HS2.out.drewN _) HG2.out)));go_wp2_with fail;refine (Ck.out tn uA htd _ a6 (bn+1) c6 ([]++bz++[s]) M ((TY.out.below bZ.out lrf).drawn ⟨_,rfl⟩) ((TZ.out.below bZ.out).drewN _) hcc (gW.out.drewN _) Ir.out hbt ((vU.out.below bZ.out lrf).drewN _) IA).mono ?_;rintro e w7 ⟨a7,k7,c7,o7,rfl,m7,n7,b7⟩;have lL:Hid (Below w6.heap.size w6 w7):=(below_drewN (Below.refl _ _) _).trans b7;have qx:Hid (Ml w.heap.size w7 oa L c outs):=bC.out.below lL.out;have aU:Hid (Ml w.heap.size w7 a7 k7 c7 o7):=m7.lowerR nT.out.size;have ky:k7<=M:=by rw [<-m7.len,<-nums_length,n7,List.length_take];exact Nat.min_le_left _ _
    have qG:=hdq n7;have xY:Hid (Below w.heap.size w w7):=nT.out.trans (lL.out.mono nT.out.size);clear m7 n7 b7;go_wp2_with (at_builtin;refine PE rfq (.tmp 82) (.tmp 95) rfq w.heap.size _ L outs rfq qx.out.row a7 k7 c7 o7 rfq aU.out.words aU.out.nil (L+k7) rfl omg xY.out.size ?_;intro a8 c8 w8 xZ yg gH oW;have iC:=hdq (qx.out.app o7 aU.out.own aU.out.wfs aU.out.lens aU.out.len xZ gH oW);have rC:Hid (Below w.heap.size w w8):=xY.out.trans yg;clear xZ yg gH oW)
    have sW:Hid (nums (outs++o7)=(eH l at_ (k+1) bz fz).take N):=by
     show _=_;rw [fD.out,PD,vK.out,<-Iz.out,nums_app,HS.out,qG.out,List.nil_append]
    go_roundw
    case rel=>exact ⟨k+1,L+k7,c8,a8,outs++o7,by omega,rfl,by go_num,iC.out,sW.out,rC.out⟩
    case measure=>simp [intOf];omega
   ·have sW:Hid (nums outs=(eH l at_ (k+1) bz fz).take N):=by
     show _=_;rw [fD.out,Pz l tn (b:=bz++[s]) (fr:=fz) (by rw [<-uy.out];have h:=HG2.out;rw [List.nil_append] at h;exact h),List.append_nil];exact HS.out
    go_wp2;go_quiet ((go_at_call 121;exact Calls.quiet_of (jL a6 fa m m c6 fc _ _ true _ (bR.out.drewN _) (HS2.out.drewN _) HG2.out)));go_wp2;go_roundw
    case rel=>exact ⟨k+1,L,c,oa,outs,by omega,rfl,by go_num,bC.out.below (below_drewN (Below.refl _ _) _),sW.out,below_drewN nT.out _⟩
    case measure=>simp [intOf];omega

 ·obtain rfl:sn=k:=omg
  have HE:Hid (nums outs=(bhd l at_ bz fz).take N):=by
   show _=_;rw [HS.out,<-alZ hc (by rw [dX.out];exact hat),HST.out];show _=List.take N (eH l at_ arcs.length bz fz);rw [kQ.out.1]
  have Ub:L<=N:=by rw [<-HM.out.len,<-nums_length,HS.out,List.length_take];exact Nat.min_le_left _ _
  have Uc:min (N:Int) (L:Int)=(L:Int):=omg;have EA:L<=c:=HM.out.words.2.1;have hcm:=HM.out.words.2.2.1;unfold maxLen at hcm;have hL1:(0:Int)<=(L:Int):=omg;have hL2:(L:Int)<=(c:Int):=omg;go_wp2;go_ret
  exact ⟨_,_,_,outs,rfl,HM.out,HE.out,HB.out⟩):P:=h
open Go.RowKit Tri Wlk

theorem YE {w:World} {ops:Array Oper} {o:Oper} {act:Act} {K:Act->World->Prop} {Q:Exit->Act->World->Prop} {E:Prop} (hw:Region.wanted o (yielded ops act.tmps)=true)
 (ho:o.op=.buildSlice 51 0 #[]) (h:∀w',w'.ownsRow w.heap.size 3 1 (.slice (some ⟨w.heap.size,0,none⟩) 0 0) 0 (ay [])->w'.heap.size=w.heap.size+1->Below w.heap.size w w'->K (act.put o.dst (.slice (some ⟨w.heap.size,0,none⟩) 0 0)) w') :
 if Region.wanted o (yielded ops act.tmps)=true then o.wp Tryz.prog act w K Q else E:=by
 rw [if_pos hw];unfold Oper.wp;simp only [execOp,ho,List.map_toArray,List.map_nil];go_simp;exact h _ (MN w) (size_alloc _ _) ((Below.refl _ w).alloc lrf _)
theorem Sl.layR {w:World} {t:TypeId} (s:Int) (hs:(Lit.int .i64 s).wf=true):Sl .i64 (w.alloc (.cells #[.int .i64 s] t)) (some ⟨w.heap.size,0,none⟩) 1 1 [s]:=by
 refine ⟨rfl,Nat.le_refl _,by simp [maxLen],by simpa using hs,.inr ⟨w.heap.size,0,rfl,fun i hi=>?_⟩⟩;obtain rfl:i=0:=omg;rw [World.cell?_alloc_at _ _ _ _ rfq];simp
theorem PG {w:World} {ops:Array Oper} {o:Oper} {act:Act} {K:Act->World->Prop} {Q:Exit->Act->World->Prop} {E:Prop} (hw:Region.wanted o (yielded ops act.tmps)=true) (x:Operand) (s:Int)
 (ho:o.op=.buildSlice 51 1 #[(0,x)]) (hx:act.eval x=.int .i64 s) (hs:(Lit.int .i64 s).wf=true) (h:∀w',Sl .i64 w' (some ⟨w.heap.size,0,none⟩) 1 1 [s]->w'.heap.size=w.heap.size+1->Below w.heap.size w w'->K (act.put o.dst (.slice (some ⟨w.heap.size,0,none⟩) 1 1)) w') :
 if Region.wanted o (yielded ops act.tmps)=true then o.wp Tryz.prog act w K Q else E:=by
 rw [if_pos hw];unfold Oper.wp;simp only [execOp,ho,List.map_toArray,List.map_cons,List.map_nil,hx];go_simp;exact h _ (Sl.layR s hs) (size_alloc _ _) ((Below.refl _ w).alloc lrf _)
theorem Bj {w:World} {ops:Array Oper} {o:Oper} {act:Act} {K:Act->World->Prop} {Q:Exit->Act->World->Prop} {E:Prop} (hw:Region.wanted o (yielded ops act.tmps)=true) (s x:Operand)
 (ho:o.op=.call { callee:=.builtin .append,args:=#[s,x],argTypes:=#[51,51] }) (base:Nat) (v:Value) (n:Nat) (xs:LIn) (hs:act.eval s=v)
 (hown:w.ownsRow base 3 1 v n (ay xs)) (a:OAd) (m c:Nat) (zs:LIn) (hx:act.eval x=.slice a m c) (hz:Sl .i64 w a m c zs) (ha:a=none->c=0)
 (N:Nat) (hN:n+m=N) (h63:N*8<=140737488355328) (hbase:base<=w.heap.size)
 (h:∀a' c' w',w'.ownsRow base 3 1 (.slice a' N c') N (ay (xs++zs))->Below base w w'->w.grownBy w' v.ownBlock->(a'=none->c'=0)->K (act.put o.dst (.slice a' N c')) w') :
 if Region.wanted o (yielded ops act.tmps)=true then o.wp Tryz.prog act w K Q else E:=by
 subst hN;rw [if_pos hw];obtain ⟨i0,hi,hz0,hz1,hz2⟩:=info_parts nW
 cases a with
 | none =>
   obtain rfl:=ha rfl;obtain rfl:m=0:=by have:=hz.2.1;omega
   obtain rfl:zs=[]:=List.eq_nil_of_length_eq_zero hz.1;obtain ⟨a',c',rfl,hnil⟩:=qI hown;have hrun:=run_append_owned_none (P:=Tryz.prog) (w:=w) base 51 o.type 3 i0 1 Tryz.underlying51 hi _ n (ay xs) hown;unfold Oper.wp;simp [execOp,ho,resolve,invoke,builtin,hs,hx,hrun,Result.andThen];exact h a' c' w (by simpa using hown) (Below.refl _ _) (World.grownBy.refl w _) hnil
 | some y =>
   have hnews:∀j u,(ay zs)[j]?=some u->w.cell? (y.add j)=some u:=by
    intro j u hj
    have hjl:j<zs.length:=by
     rcases Nat.lt_or_ge j zs.length with hlt|hge
     ·exact hlt
     ·simp [ay,List.getElem?_eq_none hge] at hj
    obtain ⟨b,off,hy,_,hc⟩:=hz.at (by have:=hz.1;omega);simp only [sij] at hy;subst hy;have:=hc j (by have:=hz.1;omega);rw [show (⟨b,off,none⟩:Addr).add j=⟨b,off+j,none⟩ from by simp [Addr.add],this];simp [ay,hjl] at hj;rw [<-hj];simp [hjl]
   refine wp_append_own w s x 51 ho base 3 i0 (.int .i64 0) 1 8 Tryz.underlying51 hi hz0 hz1 hz2 rfl (by decide) v n (ay xs) hs hown y m c (ay zs) hx (by simp [ay,hz.1]) hnews (ints_oneCell .i64 zs) (by unfold maxLen;omega) h63 hbase ?_;intro v' w' hown' hgrow _;obtain ⟨a',c',rfl,hnil⟩:=qI hown';exact h a' c' w' (by rw [show ay (xs++zs)=ay xs++ay zs from by simp [ay]];exact hown') ((Below.refl _ _).grown hgrow hbase (fun k hk=>(hown.lt k hk).1)) hgrow hnil
theorem Sl.grownR {w w':World} {g:Nat} {z:Int} {b:Nat} (h:Sl .i64 w (some ⟨g,0,none⟩) 1 1 [z]) (hg:w.grownBy w' (some b)) (hne:b≠g):Sl .i64 w' (some ⟨g,0,none⟩) 1 1 [z]:=by
 obtain ⟨h1,h2,h3,h4,h5⟩:=h;refine ⟨h1,h2,h3,h4,?_⟩;rcases h5 with h5|⟨b',off',ha,hc⟩
 ·exact .inl h5
 ·simp only [sij,Addr.mk.injEq,and_true] at ha;obtain ⟨rfl,rfl⟩:=ha;exact .inr ⟨_,_,rfl,fun i hi=>hg.cell (hc i hi) (fun e=>hne (by simpa using e.symm))⟩
theorem Sl.cutR {w:World} {b:OAd} {m cap:Nat} {zs:LIn} (h:Sl .i64 w b m cap zs) {k:Nat} (hk:k<=m):Sl .i64 w b k cap (zs.take k):=by
 obtain ⟨h1,h2,h3,h4,h5⟩:=h;refine ⟨by simp;omega,by omega,h3,fun z hz=>h4 z (List.mem_of_mem_take hz),?_⟩;rcases h5 with h5|⟨b',off',ha,hc⟩
 ·exact .inl omg
 ·refine .inr ⟨b',off',ha,fun i hi=>?_⟩;rw [hc i omg];simp [hi]
theorem Ml.lowerR {B B':Nat} {w:World} {a:OAd} {L c:Nat} {outs:List Wd} (h:Ml B w a L c outs) (hB:B'<=B):Ml B' w a L c outs :=
 ⟨oh h.row hB,fun x hx=>oh (h.own x hx) hB,h.wfs,h.lens,h.len,h.nil⟩
theorem Ml.app {B:Nat} {w w':World} {a a':OAd} {L c c' m:Nat} {outs:List Wd} (h:Ml B w a L c outs) (ys:List Wd) (hy:∀y∈ys,w.ownsRow B 3 1 y.v y.n (ay y.zs)) (hz:∀y∈ys,∀z∈y.zs,(Lit.int .i64 z).wf=true) (hl:∀y∈ys,y.zs.length=y.n) (hm:ys.length=m)
 (hrow:w'.ownsRow B 51 1 (.slice a' (L+m) c') (L+m) (vals (outs++ys))) (hg:w.grownBy w' (Value.slice a L c).ownBlock) (hn:a'=none->c'=0):Ml B w' a' (L+m) c' (outs++ys):=by
 have hk:=dG.row hg h.row Xr;refine ⟨hrow,fun y h'=>?_,fun y h'=>?_,fun y h'=>?_,by simp [h.len,hm],hn⟩
 ·rcases map1 h' with h' | h'
  ·exact hk.owns (h.own y h')
  ·exact hk.owns (hy y h')
 ·rcases map1 h' with h' | h'
  ·exact h.wfs y h'
  ·exact hz y h'
 ·rcases map1 h' with h' | h'
  ·exact h.lens y h'
  ·exact hl y h'
def qZ (w:World) (g n:Nat) (l:List St):Prop:=g<w.heap.size/\∀j,j<n->w.cell? ⟨g,j,none⟩=some (.int .i64 (iQ l j))
theorem qZ.below {w w':World} {g n:Nat} {l:List St} (h:qZ w g n l) (hb:Below w.heap.size w w'):qZ w' g n l :=
 ⟨Nat.lt_of_lt_of_le h.1 hb.size,fun j hj=>by rw [hb.cell (p:=⟨g,j,none⟩) h.1];exact h.2 j hj⟩
theorem qZ.drewN {w:World} {g n:Nat} {l:List St} (h:qZ w g n l) (m:Nat):qZ (w.drewN m) g n l:=h
def ama (w:World) (L:LLI) (e:Ending) (w':World):Prop:=∃a' k c' outs,e=.returned (.slice a' k c')/\Ml w.heap.size w' a' k c' outs/\nums outs=L/\Below w.heap.size w w'

theorem amb {l:List St} (hc:check l=true) (a:OAd) (n cap:Nat) (xs:List Sw) (hl:sts xs=l) (cg cc:Nat) (fa:OAd) (fn fc:Nat) (fz:LIn) (hfn:fa=none->fc=0) :
 ∀(d at_:Nat),at_<n->n-at_<=d->∀(w:World) (ba:OAd) (bn bc:Nat) (bz:LIn) (N:Nat),Ss w a n cap xs->qZ w cg n l->n<=cc->Sl .i64 w ba bn bc bz->(ba=none->bc=0)->bn<=at_->Sl .i64 w fa fn fc fz->N<=300 ->
  Calls Tryz.prog 110 #[.slice a n cap,.slice (some ⟨cg,0,none⟩) n cc,.int .i64 (at_:Int),.slice ba bn bc,.slice fa fn fc,.int .i64 (N:Int)] w fun e w'=>ama w ((bhd l at_ bz fz).take N) e w':=by
 intro d
 induction d with
 | zero=>intro at_ h1 h2;omega
 | succ d ih =>
   intro at_ hat hd w ba bn bc bz N hx hcn hcc hb hbn hbl hf hN;have HX:=hdq hx;have qj:=hdq hcn;have Cn:=hdq hb;have fP:=hdq hbn;have TW:=hdq hf;have HL:=hdq hl;have Ck:=hdq ih;have Tj:=hdq hfn;have dX:Hid (l.length=n):=by show _=_;rw [<-hl,fq];exact hx.1
   have hsz:=jo hc;have hn1:n<=6001:=by rw [<-dX.out];exact hsz.2
   have PW:(0:Int)<=(at_:Int):=omg;have auT:(at_:Int)<(n:Int):=omg;have hbc:=hb.2.1;have iI:=hb.2.2.1;unfold maxLen at iI;have hfc:=hf.2.1;have hfm:=hf.2.2.1;unfold maxLen at hfm;obtain ⟨c0,hc0⟩:∃c,iQ l at_=c:=⟨_,rfl⟩;have hcell0:w.cell? ⟨cg,at_,none⟩=some (.int .i64 c0):=by rw [<-hc0];exact hcn.2 at_ hat
   have Es:=hdq hc0;obtain ⟨b1,o1,f,sa,sn,sc,arcs,rfl,adx,hcf,hcs,har,hyi⟩:=hx.one at_ hat;have kM:=hdq adx;have Ip:=hdq hcs;have kQ:=hdq har
   have hsn:sn<=9223372036854775807:=by
    have h1:=har.2.1;have h2:=har.2.2.1;unfold maxLen at h2;omega
   have HST:Hid (l.getD at_ St.no=⟨f,arcs⟩):=by
    show _=_;rw [<-HL.out,ic,hyi];rfl
   have sH:Hid (∀k,k<sn->∀{s t:Int},arcs.getD k (0,0)=(s,t)->(at_:Int)<t/\t<(n:Int)):=by
    intro k hk s t h;have hkl:k<arcs.length:=by rw [kQ.out.1];exact hk
    have hm:(s,t)∈(l.getD at_ St.no).arcs:=by
     rw [HST.out,<-h];show arcs.getD k (0,0)∈arcs;rw [gdq,geg hkl,Option.getD_some];exact List.getElem_mem _
    have h2:=((ik hc (by rw [dX.out];exact hat)).1 _ hm).2;rw [dX.out] at h2;exact h2
   obtain ⟨g,hg⟩:∃g,lessL bz fz=g:=⟨_,rfl⟩;have HG:=hdq hg;clear hx hcn hb hbn hf hc0 hcs har hyi hg hsz ih adx hl;by_cases hz:c0=0
   ·subst hz
    have HW:Hid (wds l at_=[]):=by
     have h:=Es.out;unfold iQ mny at h;exact List.eq_nil_of_length_eq_zero omg
    go_enter Tryz.func110,Tryz.ntmps110;go_wp2;go_ret;exact ⟨none,0,0,[],rfl,Ml.start _ _,by rw [alY _ _ HW.out];simp [nums],Below.refl _ _⟩
   have auU:(c0==0)=false:=by simpa using hz
   by_cases hN0:N=0
   ·subst hN0;clear hz;go_enter Tryz.func110,Tryz.ntmps110;go_wp2;go_ret;exact ⟨none,0,0,[],rfl,Ml.start _ _,by simp [nums],Below.refl _ _⟩
   have auV:((N:Int)==0)=false:=by simp;omega
   have hNn:¬(N:Int)=0:=omg;clear hz;cases f
   ·have jI:=hdq (Ml.start w.heap.size w);have dA:Hid (nums []=(eH l at_ 0 bz fz).take N):=by show _=_;rw [Px l at_ bz fz (by rw [HST.out]) HG.out];simp [nums]
    have HB0:Hid (Below w.heap.size w w):=Below.refl _ _;go_enter Tryz.func110,Tryz.ntmps110;go_wp2;go_loopw [13,14] (fun ov ix wr=>∃(k L c:Nat) (oa:OAd) (outs:List Wd),k<=sn/\ov=.slice oa L c/\ix=.int .i64 (k:Int)/\Hid (Ml w.heap.size wr oa L c outs)/\Hid (nums outs=(eH l at_ k bz fz).take N)/\Hid (Below w.heap.size w wr)) (fun _ ix _=>sn-(intOf ix).toNat)
    case atStart=>exact ⟨0,_,_,_,_,Nat.zero_le _,rfl,rfl,jI.out,dA.out,HB0.out⟩
    case round =>
     exact z48
   ·cases g
    ·have tJ:Hid (eH l at_ 0 bz fz=[bz]):=by show _=_;rw [Px l at_ bz fz (by rw [HST.out]) HG.out];simp
     go_enter Tryz.func110,Tryz.ntmps110;go_wp2_with fail;refine (jL ba fa bn fn bc fc bz fz false _ Cn.out TW.out HG.out).mono ?_;rintro e w1 ⟨rfl,q1⟩;have HB1:Hid (Below w.heap.size w w1):=aG (Below.refl _ _) q1;have Ud:=hdq (Cn.out.below HB1.out lrf);have gp:∀o,Hid (Below w1.heap.size w1 (w1.alloc o)):=fun o=>hdq ((Below.refl _ w1).alloc lrf o);clear q1
     go_wp2_with first
      | (at_builtin;refine MM rfl (.tmp 39) (.tmp 40) rfq w1.heap.size _ 0 [] rfq (MN w1) ba bn bc bz rfq (Ud.out.alloc _) fP.out bn omg omg smp ?_
         intro a2 c2 w2 hown2 hb2 hn2;have HB2:Hid (Below w1.heap.size w1 w2):=(gp _).out.trans hb2;have HW2:Hid (Below w.heap.size w w2):=HB1.out.trans (HB2.out.mono HB1.out.size);have HG2:Hid (Wd.Good w2 (Wd.mk a2 bn c2 ([]++bz))):=Sl.of_owns hown2 (by intro x hx;exact Ud.out.2.2.2.1 x (by simpa using hx)) (by simp [Ud.out.1]);have bD:=hdq (oh hown2 HB1.out.size)
         clear hown2 hb2 hn2)
      | (at_builtin;refine aji rfl (.tmp 38) (.tmp 42) rfq w.heap.size _ 0 [] rfq (aeH _ _) (some ⟨w2.heap.size,0,none⟩) 1 1 [Wd.mk a2 bn c2 ([]++bz)] rfq (Ws.newc [Wd.mk a2 bn c2 ([]++bz)] (by intro x hx;rw [msg hx];exact HG2.out) (by simp [maxLen]) rfl rfl rfl) (fun h=>by cases h) 1 rfl omg (by rw [size_alloc];have:=HW2.out.size;omega) ?_
         intro a3 c3 w3 hrow3 hb3 hg3 kN;have jI:=hdq ((Ml.start w.heap.size _).add (Wd.mk a2 bn c2 ([]++bz)) (World.ownsRow.alloc bD.out _) HG2.out.2.2.2.1 HG2.out.1 hrow3 hg3 kN);have HB0:Hid (Below w.heap.size w w3):=(HW2.out.alloc HW2.out.size _).trans hb3
         clear hrow3 hb3 hg3 kN)
     have dA:Hid (nums ([]++[Wd.mk a2 bn c2 ([]++bz)])=(eH l at_ 0 bz fz).take N):=by
      show _=_;rw [tJ.out,tol (by simp;omega)];simp [nums]
     go_loopw [13,14] (fun ov ix wr=>∃(k L c:Nat) (oa:OAd) (outs:List Wd),k<=sn/\ov=.slice oa L c/\ix=.int .i64 (k:Int)/\Hid (Ml w.heap.size wr oa L c outs)/\Hid (nums outs=(eH l at_ k bz fz).take N)/\Hid (Below w.heap.size w wr)) (fun _ ix _=>sn-(intOf ix).toNat)
     case atStart=>exact ⟨0,_,_,_,_,Nat.zero_le _,rfl,rfl,jI.out,dA.out,HB0.out⟩
     case round =>
      exact z48
    ·have dA:Hid (nums []=(eH l at_ 0 bz fz).take N):=by show _=_;rw [Px l at_ bz fz (by rw [HST.out]) HG.out];simp [nums]
     go_enter Tryz.func110,Tryz.ntmps110;go_wp2_with fail;refine (jL ba fa bn fn bc fc bz fz true _ Cn.out TW.out HG.out).mono ?_;rintro e w1 ⟨rfl,q1⟩;have jI:=hdq (Ml.start w.heap.size w1);have HB0:Hid (Below w.heap.size w w1):=aG (Below.refl _ _) q1;clear q1;go_wp2;go_loopw [13,14] (fun ov ix wr=>∃(k L c:Nat) (oa:OAd) (outs:List Wd),k<=sn/\ov=.slice oa L c/\ix=.int .i64 (k:Int)/\Hid (Ml w.heap.size wr oa L c outs)/\Hid (nums outs=(eH l at_ k bz fz).take N)/\Hid (Below w.heap.size w wr)) (fun _ ix _=>sn-(intOf ix).toNat)
     case atStart=>exact ⟨0,_,_,_,_,Nat.zero_le _,rfl,rfl,jI.out,dA.out,HB0.out⟩
     case round =>
      exact z48
end
section
open Go.RowKit Tri Wlk

def YF (w:World) (L:LLI) (er:Int) (e:Ending) (w':World):Prop:=∃a' k c' outs,e=.returned (.tuple #[.slice a' k c',.int .i64 er])/\Ml w.heap.size w' a' k c' outs/\nums outs=L/\Below w.heap.size w w'
theorem qZ.of {w:World} {g n:Nat} {l:List St} {ms:LIn} (h:IoR w g n ms) (hn:ny (iQ l) n 0 ms) (h0:0<n):qZ w g n l :=
 ⟨(h.lt g rfl).2,fun j hj=>h.cell hn.1 hj (hn.2.1 j (Nat.zero_le _) hj)⟩
theorem amc (a b:OAd) (len cap m cap2:Nat) (xs:List Sw) (zs:LIn) (n:Int) (w:World) (L:LLI) (er:Int) (hx:Ss w a len cap xs) (hz:Sl .i64 w b m cap2 zs) (hnil:b=none->cap2=0) (hr:lh (sts xs) zs n=(L,er)) :
 Calls Tryz.prog 64 #[.slice a len cap,.slice b m cap2,.int .i64 n] w fun e w'=>YF w L er e w':=by
 have HX:=hdq hx;have HZ:=hdq hz;cases hcc:check (sts xs)
 ·have hr0:L=[]/\er=100:=by unfold lh at hr;rw [if_pos hcc] at hr;cases hr;exact ⟨rfl,rfl⟩
  obtain ⟨rfl,rfl⟩:=hr0;clear hx hr hz hnil;go_enter Tryz.func64,Tryz.ntmps64;go_wp2_with (go_at_call 35;refine (pW a len cap xs false _ HX.out hcc).mono ?_;rintro e w1 ⟨rfl,hb1⟩);go_ret2;exact ⟨none,0,0,[],rfl,Ml.start _ _,rfl,hb1⟩
 ·by_cases hn0:n<0
  ·have hr0:L=[]/\er=1:=by unfold lh at hr;rw [if_neg (by rw [hcc];exact Bool.noConfusion),if_pos (.inl hn0)] at hr;cases hr;exact ⟨rfl,rfl⟩
   obtain ⟨rfl,rfl⟩:=hr0;have hd:decide (n<0)=true:=decide_eq_true hn0;clear hx hr hz hnil;go_enter Tryz.func64,Tryz.ntmps64;go_wp2_with (go_at_call 35;refine (pW a len cap xs true _ HX.out hcc).mono ?_;rintro e w1 ⟨rfl,hb1⟩);go_ret2;exact ⟨none,0,0,[],rfl,Ml.start _ _,rfl,hb1⟩
  ·by_cases kN:300<n
   ·have hr0:L=[]/\er=1:=by unfold lh at hr;rw [if_neg (by rw [hcc];exact Bool.noConfusion),if_pos (.inr kN)] at hr;cases hr;exact ⟨rfl,rfl⟩
    obtain ⟨rfl,rfl⟩:=hr0;have hd:decide (n<0)=false:=decide_eq_false hn0;have hd3:decide (n>300)=true:=decide_eq_true kN;clear hx hr hz hnil;go_enter Tryz.func64,Tryz.ntmps64;go_wp2_with (go_at_call 35;refine (pW a len cap xs true _ HX.out hcc).mono ?_;rintro e w1 ⟨rfl,hb1⟩);go_ret2;exact ⟨none,0,0,[],rfl,Ml.start _ _,rfl,hb1⟩
   ·obtain ⟨N,rfl⟩:∃N:Nat,n=(N:Int):=⟨n.toNat,by omega⟩;have hr0:L=(ge (sts xs) 0 zs).take N/\er=0:=by unfold lh at hr;rw [if_neg (by rw [hcc];exact Bool.noConfusion),if_neg omg,Int.toNat_natCast] at hr;cases hr;exact ⟨rfl,rfl⟩
    obtain ⟨rfl,rfl⟩:=hr0;have hln:(sts xs).length=len:=by rw [fq];exact hx.1
    have h1:=(jo hcc).1;have h0:0<len:=omg;have hd:decide ((N:Int)<0)=false:=decide_eq_false hn0;have hd3:decide ((N:Int)>300)=false:=decide_eq_false kN;have hN3:N<=300:=omg;clear hx hr hz hln h1;go_enter Tryz.func64,Tryz.ntmps64
    go_wp2_with (first
     | (go_at_call 35;refine (pW a len cap xs true _ HX.out hcc).mono ?_;rintro e w1 ⟨rfl,hb1⟩;have HB1:=hdq hb1;clear hb1)
     | (go_at_call 84;refine (YB hcc a len cap xs w1 (HX.out.below HB1.out lrf) rfl).mono ?_;rintro e w2 ⟨ms,rfl,hown,aB,hb2⟩;have Bt:=hdq (qZ.of hown aB h0);have HB2:Hid (Below w.heap.size w w2):=HB1.out.trans (hb2.mono HB1.out.size);clear hown aB hb2)
     | (go_at_call 110;refine (amb hcc a len cap xs rfl w1.heap.size len b m cap2 zs hnil len 0 h0 omg w2 none 0 0 [] N (HX.out.below HB2.out lrf) Bt.out lrf Sl.nil (fun _=>rfl) lrf (HZ.out.below HB2.out lrf) hN3).mono ?_;rintro e w3 ⟨a3,k3,c3,o3,rfl,m3,n3,b3⟩))
    go_ret2;exact ⟨a3,k3,c3,o3,rfl,⟨oh m3.row HB2.out.size,fun x hx=>oh (m3.own x hx) HB2.out.size,m3.wfs,m3.lens,m3.len,m3.nil⟩,by rw [n3,alX],HB2.out.trans (b3.mono HB2.out.size)⟩
theorem amd {l:List St} (h:(wds l 0).length<=300\/check l=false):lh l [] 300=kE l:=by
 unfold lh kE;cases hc:check l
 ·rfl
 ·rcases h with h|h
  ·rw [if_neg smp,if_neg omg,if_neg smp,if_neg omg,Oa,show (300:Int).toNat=300 from rfl,tol omg]
  ·rw [hc] at h;cases h
theorem ame (a:OAd) (len cap:Nat) (xs:List Sw) (w:World) (L:LLI) (er:Int) (hx:Ss w a len cap xs) (hr:kE (sts xs)=(L,er)) :
 Calls Tryz.prog 29 #[.slice a len cap] w fun e w'=>YF w L er e w':=by
 have HX:=hdq hx;cases hcc:check (sts xs)
 ·have hr0:L=[]/\er=100:=by unfold kE at hr;rw [if_pos hcc] at hr;cases hr;exact ⟨rfl,rfl⟩
  obtain ⟨rfl,rfl⟩:=hr0;clear hx hr;go_enter Tryz.func29,Tryz.ntmps29;go_wp2_with (go_at_call 35;refine (pW a len cap xs false _ HX.out hcc).mono ?_;rintro e w1 ⟨rfl,hb1⟩);go_ret2;exact ⟨none,0,0,[],rfl,Ml.start _ _,rfl,hb1⟩
 ·by_cases hm:300<(wds (sts xs) 0).length
  ·have hr0:L=[]/\er=81:=by unfold kE at hr;rw [if_neg (by rw [hcc];exact Bool.noConfusion),if_pos hm] at hr;cases hr;exact ⟨rfl,rfl⟩
   obtain ⟨rfl,rfl⟩:=hr0;have hmc:dK (sts xs)=301:=by unfold dK;rw [if_pos hcc];unfold mny;omega
   clear hx hr hm;go_enter Tryz.func29,Tryz.ntmps29
   go_wp2_with (first
    | (go_at_call 35;refine (pW a len cap xs true _ HX.out hcc).mono ?_;rintro e w1 ⟨rfl,hb1⟩)
    | (go_at_call 36;refine (Pw a len cap xs w1 301 (HX.out.below hb1 lrf) hmc).mono ?_;rintro e w2 ⟨rfl,hb2⟩))
   go_ret2;exact ⟨none,0,0,[],rfl,Ml.start _ _,rfl,hb1.trans (hb2.mono hb1.size)⟩
  ·have hmc:dK (sts xs)<=300:=by unfold dK;rw [if_pos hcc];unfold mny;omega
   have hfr:lh (sts xs) [] 300=(L,er):=by rw [amd (.inl omg),hr]
   obtain ⟨r,hr1⟩:∃r,dK (sts xs)=r:=⟨_,rfl⟩;rw [hr1] at hmc;have hng:¬(300:Int)<(r:Int):=omg;have hdg:decide ((r:Int)>300)=false:=decide_eq_false omg;clear hx hr hm hmc;go_enter Tryz.func29,Tryz.ntmps29
   go_wp2_with (first
    | (go_at_call 35;refine (pW a len cap xs true _ HX.out hcc).mono ?_;rintro e w1 ⟨rfl,hb1⟩;have HB1:=hdq hb1;clear hb1)
    | (go_at_call 36;refine (Pw a len cap xs w1 r (HX.out.below HB1.out lrf) hr1).mono ?_;rintro e w2 ⟨rfl,hb2⟩;have HB2:Hid (Below w.heap.size w w2):=HB1.out.trans (hb2.mono HB1.out.size);clear hb2)
    | (go_at_call 64;refine (amc a none len cap 0 0 xs [] 300 w2 L er (HX.out.below HB2.out lrf) Sl.nil (fun _=>rfl) hfr).mono ?_;rintro e w3 ⟨a',k,c',outs,rfl,h1,h2,h3⟩))
   go_ret2;exact ⟨a',k,c',outs,rfl,⟨oh h1.row HB2.out.size,fun x hx=>oh (h1.own x hx) HB2.out.size,h1.wfs,h1.lens,h1.len,h1.nil⟩,h2,HB2.out.trans (h3.mono HB2.out.size)⟩
end
end Go.Proofs.YtkiamgcpcneggaaGreat
