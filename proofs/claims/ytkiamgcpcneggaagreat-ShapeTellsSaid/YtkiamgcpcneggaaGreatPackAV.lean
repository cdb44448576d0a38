import Derived.Test.YtkiamgcpcneggaaGreatPackAU
import Derived.Deep.CutBlock
import Derived.Test.YtkiamgcpcneggaaGreatPackU
set_option linter.all false
set_option maxRecDepth 100000
set_option maxHeartbeats 12800000
namespace Go.Proofs.YtkiamgcpcneggaaGreat
section
open Go.RowKit Daw

structure Kw where
 ea:OAd
 en:Nat
 ec:Nat
 es:List Wd
 L:Nat
 f:Wd
def Kw.e (x:Kw):Value:=.slice x.ea x.en x.ec
def Kw.l (x:Kw):Value:=.int .i64 (x.L:Int)
def Kw.cells (x:Kw):List Value:=[x.e,x.l,x.f.v]
def Kw.v (x:Kw):Value:=.agg #[x.e,x.l,x.f.v]
def Kw.k (x:Kw):Kd:=⟨nums x.es,x.L,x.f.zs⟩
def Kw.no:Kw:=⟨none,0,0,[],0,Wd.no⟩
def Kw.Good (w:World) (x:Kw):Prop:=Ws w x.ea x.en x.ec x.es/\x.f.Good w/\x.L<=1000
theorem Kw.no_good (w:World):Kw.no.Good w:=⟨Ws.nil,Wd.no_good w,by show 0<=1000;omega⟩
theorem Kw.Good.below {w w':World} {x:Kw} {B:Nat} (h:x.Good w) (hb:Below B w w') (hB:w.heap.size<=B):x.Good w':=⟨h.1.below hb hB,h.2.1.below hb hB,h.2.2⟩
def kds (xs:List Kw):List Kd:=xs.map Kw.k
def dz (xs:List Kw):List Value:=xs.flatMap Kw.cells
theorem Be (xs:List Kw):(kds xs).length=xs.length:=by simp [kds]
theorem Pn (xs ys:List Kw):kds (xs++ys)=kds xs++kds ys:=by simp [kds]
theorem alq (xs ys:List Kw):dz (xs++ys)=dz xs++dz ys:=by simp [dz]
theorem Ed (x:Kw) (xs:List Kw):dz (x::xs)=x.cells++dz xs:=by simp [dz]
theorem Bf:∀xs:List Kw,(dz xs).length=xs.length*3
 | []=>rfl
 | x::xs=>by rw [Ed,List.length_append,Bf xs];simp [Kw.cells];omega
theorem Ee (xs:List Kw) (i:Nat):(kds xs).getD i Kd.no=(xs.getD i Kw.no).k:=by
 simp only [kds,gdq,List.getElem?_map];cases xs[i]?<;>rfl
theorem uN:∀(xs:List Kw) (i j:Nat),i<xs.length->j<3->(dz xs)[i*3+j]?=(xs.getD i Kw.no).cells[j]?
 | [],_,_,h,_=>by simp at h
 | x::xs,0,j,_,hj=>by
   rw [Ed,Nat.zero_mul,Nat.zero_add,List.getElem?_append_left (by simpa [Kw.cells] using hj)];rfl
 | x::xs,i+1,j,h,hj=>by
   rw [Ed,List.getElem?_append_right (by simp [Kw.cells];omega),show (i+1)*3+j-x.cells.length=i*3+j from by simp [Kw.cells];omega,uN xs i j (by simpa using h) hj];simp
theorem alr (xs:List Kw):∀u∈dz xs,u.oneCell'=true:=by
 intro u hu;obtain ⟨x,_,hx⟩:=List.mem_flatMap.1 hu;simp only [Kw.cells,List.mem_cons,List.not_mem_nil,or_false] at hx;rcases hx with rfl|rfl|rfl<;>rfl
def JN (w:World) (b o:Nat) (x:Kw):Prop:=w.cell? ⟨b,o,none⟩=some x.e/\w.cell? ⟨b,o+1,none⟩=some x.l/\w.cell? ⟨b,o+2,none⟩=some x.f.v
theorem JN.below {w w':World} {b o B:Nat} {x:Kw} (h:JN w b o x) (hb:Below B w w') (hB:w.heap.size<=B):JN w' b o x:=by
 have hlt:=bQ h.1;refine ⟨?_,?_,?_⟩
 ·rw [hb.cell (p:=⟨b,o,none⟩) (by show b<B;omega)];exact h.1
 ·rw [hb.cell (p:=⟨b,o+1,none⟩) (by show b<B;omega)];exact h.2.1
 ·rw [hb.cell (p:=⟨b,o+2,none⟩) (by show b<B;omega)];exact h.2.2
def Ks (w:World) (a:OAd) (n cap:Nat) (xs:List Kw):Prop :=
 xs.length=n/\n<=cap/\cap<=maxLen/\(∀x∈xs,x.Good w)/\(n=0\/∃b off,a=some ⟨b,off,none⟩/\∀i,i<n->JN w b (off+i*3) (xs.getD i Kw.no))
theorem Ks.below {w w':World} {a:OAd} {n cap B:Nat} {xs:List Kw} (h:Ks w a n cap xs) (hb:Below B w w') (hB:w.heap.size<=B):Ks w' a n cap xs:=by
 obtain ⟨h1,h2,h3,h4,h5⟩:=h;refine ⟨h1,h2,h3,fun x hx=>(h4 x hx).below hb hB,?_⟩;rcases h5 with h5|⟨b,off,ha,hc⟩
 ·exact .inl h5
 ·exact .inr ⟨b,off,ha,fun i hi=>(hc i hi).below hb hB⟩
theorem Ks.drawn {w w':World} {a:OAd} {n cap:Nat} {xs:List Kw} (h:Ks w a n cap xs) (hq:∃q,w'=w.drewN q):Ks w' a n cap xs:=by
 obtain ⟨q,rfl⟩:=hq;exact h
theorem Ks.good {w:World} {a:OAd} {n cap:Nat} {xs:List Kw} (h:Ks w a n cap xs) (i:Nat):(xs.getD i Kw.no).Good w:=by
 rw [gdq];rcases Nat.lt_or_ge i xs.length with hi|hi
 ·rw [geg hi];exact h.2.2.2.1 _ (List.getElem_mem hi)
 ·rw [List.getElem?_eq_none hi];exact Kw.no_good w
theorem Ks.one {w:World} {a:OAd} {n cap:Nat} {xs:List Kw} (h:Ks w a n cap xs) (i:Nat) (hi:i<n) :
 ∃b off ea en ec es L fa fn fc fz,a=some ⟨b,off,none⟩/\b<w.heap.size/\w.cell? ⟨b,off+i*3,none⟩=some (.slice ea en ec)/\w.cell? ⟨b,off+i*3+1,none⟩=some (.int .i64 ((L:Nat):Int))/\w.cell? ⟨b,off+i*3+2,none⟩=some (.slice fa fn fc) /\
  Ws w ea en ec es/\Sl .i64 w fa fn fc fz/\L<=1000/\xs.getD i Kw.no=⟨ea,en,ec,es,L,⟨fa,fn,fc,fz⟩⟩:=by
 have hg:=h.good i;obtain ⟨h1,h2,h3,h4,h5⟩:=h;rcases h5 with h5|⟨b,off,ha,hc⟩
 ·omega
 ·have hx:=hc i hi;generalize xs.getD i Kw.no=x at hg hx;obtain ⟨ea,en,ec,es,L,⟨fa,fn,fc,fz⟩⟩:=x;exact ⟨b,off,ea,en,ec,es,L,fa,fn,fc,fz,ha,bQ hx.1,hx.1,hx.2.1,hx.2.2,hg.1,hg.2.1,hg.2.2,rfl⟩
theorem Ks.of_owns {w:World} {B:Nat} {T:TypeId} {a:OAd} {n cap:Nat} {xs:List Kw}
 (h:w.ownsRow B T 3 (.slice a n cap) n (dz xs)) (hg:∀x∈xs,x.Good w):Ks w a n cap xs:=by
 have hl:xs.length=n:=by have h1:=h.1;rw [Bf] at h1;omega
 have h':=h;obtain ⟨_,h2⟩:=h;rcases h2 with ⟨hv,h0⟩|⟨g,c,cur,hv,hgB,hh,hnc,hcm,hcs,ht⟩
 ·simp only [Value.slice.injEq] at hv;obtain ⟨rfl,rfl,rfl⟩:=hv;exact ⟨hl,Nat.le_refl _,by unfold maxLen;omega,hg,.inl rfl⟩
 ·simp only [Value.slice.injEq] at hv;obtain ⟨rfl,_,rfl⟩:=hv;refine ⟨hl,hnc,hcm,hg,.inr ⟨g,0,rfl,fun i hi=>?_⟩⟩
  have e:∀j,j<3->w.cell? ⟨g,0+i*3+j,none⟩=(xs.getD i Kw.no).cells[j]?:=fun j hj=>by
   rw [Nat.zero_add,h'.cellAt (i*3+j) omg,uN xs i j omg hj]
  exact ⟨e 0 omg,e 1 omg,e 2 omg⟩
theorem Ks.nil {w:World}:Ks w none 0 0 []:=⟨rfl,Nat.le_refl _,by unfold maxLen;omega,by simp,.inl rfl⟩
theorem Yr (xs:List Kw) (i:Nat) (z:Kw):dz (xs.set i z)=(((dz xs).set (i*3) z.e).set (i*3+1) z.l).set (i*3+2) z.f.v:=by
 induction xs generalizing i with
 | nil=>simp [dz]
 | cons x xs ih =>
   cases i with
   | zero=>simp [dz,Kw.cells]
   | succ i =>
     rw [List.set_cons_succ,Ed,ih i,Ed,show (i+1)*3=i*3+3 by omega,show i*3+3+1=i*3+1+3 by omega,show i*3+3+2=i*3+2+3 by omega];simp [Kw.cells]
theorem Po (xs:List Kw) (i:Nat) (z:Kw):kds (xs.set i z)=(kds xs).set i z.k:=by simp [kds,List.map_set]

end
section
open Go.RowKit Tri Daw

def qY (l:List Kd) (e:LLI):Int:=match dL l e with|some k=>(k:Int)|none=>-1

theorem Pp (a ea:OAd) (n cap en ec:Nat) (xs:List Kw) (es:List Wd) (w:World) (ha:Ks w a n cap xs) (he:Ws w ea en ec es) :
 Calls Tryz.prog 75 #[.slice a n cap,.slice ea en ec] w fun e w'=>e=.returned (.int .i64 (qY (kds xs) (nums es)))/\∃q,w'=w.drewN q:=by
 have hnc:=ha.2.1;have hcm:=ha.2.2.1;unfold maxLen at hcm;have HA:=hdq ha;have HE:=hdq he;have HL:Hid ((kds xs).length=n):=by show _=_;rw [Be,ha.1]
 clear ha he;go_enter Tryz.func75,Tryz.ntmps75;go_wp2;go_loopw [5] (fun ix wr=>∃j:Nat,j<=n/\ix=.int .i64 (j:Int)/\Hid (∀p,p<j->((kds xs).getD p Kd.no).E≠nums es)/\Hid (∃q,wr=w.drewN q)) (fun ix _=>n-(intOf ix).toNat)
 case atStart=>exact ⟨0,Nat.zero_le _,rfl,(fun p hp=>by omega),⟨0,rfl⟩⟩
 case round =>
  obtain ⟨j,hj,rfl,HT,HQ⟩:=hrel;by_cases hlt:j<n
  ·obtain ⟨b1,o1,ka,kn,kc,Tx,L,fa,fn,fc,fz,rfl,_,hx1,_,_,hws,_,_,hz⟩:=(HA.out.drawn HQ.out).one j hlt;have jd:=hdq hws;have HZ:Hid (((kds xs).getD j Kd.no).E=nums Tx):=by show _=_;rw [Ee,hz];rfl
   have HEW:Hid (Ws wr ea en ec es):=HE.out.drawn HQ.out;have bB:(j:Int)<(n:Int):=omg;obtain ⟨g,hg⟩:∃g,decide (nums Tx=nums es)=g:=⟨_,rfl⟩;have HG:=hdq hg;clear hws hz hg;go_wp2_with fail;refine (ML _ _ _ _ _ _ Tx es g _ jd.out HEW.out HG.out).mono ?_;rintro e w1 ⟨rfl,hq1⟩;have HQ1:Hid (∃q,w1=w.drewN q):=by obtain ⟨q,rfl⟩:=hq1;exact IM (q:=q) HQ.out
   clear hq1;cases g
   ·go_wp2;go_roundw
    case rel =>
     refine ⟨j+1,by omega,by go_num,fun p hp=>?_,HQ1.out⟩;rcases Nat.lt_or_ge p j with h|h
     ·exact HT.out p h
     ·rw [show p=j by omega,HZ.out];exact of_decide_eq_false HG.out
    case measure=>simp [intOf];omega
   ·have hfin:qY (kds xs) (nums es)=(j:Int):=by
     unfold qY;rw [WZ (by rw [HL.out];exact hlt) (by rw [HZ.out];exact of_decide_eq_true HG.out) HT.out]
    have HF:=hdq hfin;clear hfin;go_wp2;go_ret;exact ⟨by rw [HF.out];rfl,HQ1.out⟩
  ·have hfin:qY (kds xs) (nums es)=-1:=by
    unfold qY
    cases hf:dL (kds xs) (nums es) with
    | none=>rfl
    | some k =>
      exfalso;obtain ⟨h1,h2⟩:=wG hf;rw [HL.out] at h1;exact HT.out k omg h2
   have HF:=hdq hfin;clear hfin;go_wp2;go_ret;exact ⟨by rw [HF.out];rfl,HQ.out⟩

theorem Yt (x y:Kw) (r:Bool) (w:World) (hx:x.Good w) (hy:y.Good w) (hr:dw x.k y.k=r) :
 Calls Tryz.prog 122 #[x.v,y.v] w fun e w'=>e=.returned (.bool r)/\Below w.heap.size w w':=by
 obtain ⟨ea,en,ec,es,L,⟨fa,fn,fc,fz⟩⟩:=x;obtain ⟨ea',en',ec',es',L',⟨fa',fn',fc',Hw⟩⟩:=y;have HX:Hid (Sl .i64 w fa fn fc fz):=hx.2.1;have HY:Hid (Sl .i64 w fa' fn' fc' Hw):=hy.2.1;have hr':(decide (L<L')||decide (L=L')&&lessL fz Hw)=r:=hr;have HR:=hdq hr';have HB:∀o o',Hid (Below w.heap.size w ((w.alloc o).alloc o')):=fun o o'=>((Below.refl _ w).alloc lrf o).alloc smp o';clear hx hy hr hr';simp only [Kw.v,Kw.e,Kw.l,Wd.v];by_cases h1:L<L'
 ·obtain rfl:r=true:=by rw [<-HR.out,decide_eq_true h1];rfl
  have uO:(L:Int)<(L':Int):=omg;have h1d:decide ((L:Int)<(L':Int))=true:=decide_eq_true uO;go_enter Tryz.func122,Tryz.ntmps122;go_wp2;go_ret;exact ⟨rfl,(HB _ _).out⟩
 ·have uO:¬(L:Int)<(L':Int):=omg;have h1d:decide ((L:Int)<(L':Int))=false:=decide_eq_false uO;by_cases h2:L=L'
  ·subst h2;obtain rfl:r=lessL fz Hw:=by rw [<-HR.out];simp
   have h2d:((L:Int)==(L:Int))=true:=smp;obtain ⟨g,hg⟩:∃g,lessL fz Hw=g:=⟨_,rfl⟩;rw [hg];have HG:=hdq hg;clear hg HR;go_enter Tryz.func122,Tryz.ntmps122;go_wp2_with fail;refine (jL fa fa' fn fn' fc fc' fz Hw g _ (HX.out.below (HB _ _).out lrf) (HY.out.below (HB _ _).out lrf) HG.out).mono ?_;rintro e w1 ⟨rfl,hq1⟩;have HB1:=hdq (aG (HB _ _).out hq1);clear hq1;go_wp2;go_ret;exact ⟨rfl,HB1.out⟩
  ·obtain rfl:r=false:=by rw [<-HR.out,decide_eq_false h1,decide_eq_false h2];rfl
   have h2d:((L:Int)==(L':Int))=false:=by simp;omega
   have JX:¬(L:Int)=(L':Int):=omg;go_enter Tryz.func122,Tryz.ntmps122;go_wp2;go_ret;exact ⟨rfl,(HB _ _).out⟩

end
section
theorem z44 {P:Prop} (h:P:=by
 intro x hx;rcases map1 hx with hx|hx
 ·exact jV.out x hx
 ·rw [msg hx];exact HW1.out):P:=h
open Go.RowKit Tri Daw

theorem Sl.behind {k:IntKind} {w:World} {b off n cap:Nat} {zs:LIn} (h:Sl k w (some ⟨b,off,none⟩) n cap zs) {j o' m c':Nat} (hj:j<=n) (ho:o'=off+j) (hm:m=n-j) (hc:c'=cap-j):Sl k w (some ⟨b,o',none⟩) m c' (zs.drop j):=by
 subst ho hm hc;obtain ⟨h1,h2,h3,h4,h5⟩:=h;refine ⟨by rw [List.length_drop,h1],by omega,by omega,fun z hz=>h4 z (List.mem_of_mem_drop hz),?_⟩;rcases Nat.eq_zero_or_pos (n-j) with h0|h0
 ·exact .inl h0
 ·rcases h5 with h5|⟨b',off',e,hc⟩
  ·omega
  ·simp only [sij,Addr.mk.injEq,and_true] at e;obtain ⟨rfl,rfl⟩:=e;refine .inr ⟨b,off+j,rfl,fun i hi=>?_⟩;have:=hc (j+i) omg;rw [<-Nat.add_assoc] at this;rw [this];simp
theorem Sl.behind_all {k:IntKind} {w w':World} {a:OAd} {n cap:Nat} {zs:LIn} (h:Sl k w a n cap zs) {j:Nat} {a':OAd} (hj:n<=j):Sl k w' a' 0 0 (zs.drop j):=by
 rw [List.drop_of_length_le (by rw [h.1];exact hj)];exact ⟨rfl,Nat.le_refl _,by unfold maxLen;omega,by simp,.inl rfl⟩
theorem als {ws:LLI} {p z:LIn} {i:Nat} (hi:i<ws.length) (hz:ws.getD i []=z) :
 ends (ws.take (i+1)) p=ends (ws.take i) p++(if p.length<=z.length/\z.take p.length=p then [z.drop p.length] else []):=by
 have e:ws.take (i+1)=ws.take i++[z]:=by rw [tsa hi,<-hz];simp [hi]
 unfold ends;rw [e,List.filter_append,List.map_append]
 congr 1
 by_cases h:p.length<=z.length/\z.take p.length=p
 ·rw [if_pos h,List.filter_cons_of_pos (by simp [h.1,h.2])];rfl
 ·rw [if_neg h,List.filter_cons_of_neg (by
   intro hc;rw [Bool.and_eq_true,decide_eq_true_eq,decide_eq_true_eq] at hc
   exact h hc)];rfl

def alu (w0 w w':World) (e:Ending) (l:LLI):Prop :=
 ∃a n c ys,e=.returned (.slice a n c)/\w'.ownsRow w.heap.size 51 1 (.slice a n c) n (vals ys)/\(∀y∈ys,y.Good w0)/\nums ys=l/\n<=10000/\(a=none->c=0)/\Below w.heap.size w w'

theorem Pq (a pa:OAd) (n cap pn pc:Nat) (xs:List Wd) (p:LIn) (w0 w:World) (hs:Ws w0 a n cap xs) (hb0:Below w0.heap.size w0 w) (hp:Sl .i64 w pa pn pc p) (hne:∀z∈nums xs,z≠[]) (hn:n<=10000) :
 Calls Tryz.prog 76 #[.slice a n cap,.slice pa pn pc] w fun e w'=>alu w0 w w' e (ends (nums xs) p):=by
 have hnc:=hs.2.1;have hcm:=hs.2.2.1;have hpc:=hp.2.1;have Tn:=hp.2.2.1;unfold maxLen at hcm Tn;have HS:=hdq hs;have HP:=hdq hp;have fH:=hdq hp.1;have qi:=hdq hne;have HL:Hid ((nums xs).length=n):=by show _=_;rw [nums_length,hs.1]
 have HB0:=hdq hb0;clear hs hp hne hb0;go_enter Tryz.func76,Tryz.ntmps76;go_wp2;go_loopw [5,7] (fun ov ix wr=>∃(i L:Nat) (a1:OAd) (c1:Nat) (outs:List Wd),i<=n/\L<=i/\ov=.slice a1 L c1/\ix=.int .i64 (i:Int)/\Hid (a1=none->c1=0)/\Hid (wr.ownsRow w.heap.size 51 1 (.slice a1 L c1) L (vals outs))/\Hid (∀x∈outs,x.Good w0)/\Hid (nums outs=ends ((nums xs).take i) p)/\Hid (Below w.heap.size w wr)) (fun _ ix _=>n-(intOf ix).toNat)
 case atStart=>exact ⟨0,0,none,0,[],Nat.zero_le _,Nat.le_refl _,rfl,rfl,(fun _=>rfl),⟨rfl,.inl ⟨rfl,rfl⟩⟩,(by show ∀x∈([]:List Wd),x.Good w0;simp),rfl,Below.refl _ _⟩
 case round =>
  obtain ⟨i,L,a1,c1,outs,hi,hL,rfl,rfl,fu,HOW,jV,qB,ai⟩:=hrel;by_cases hlt:i<n
  ·have hbz:Below w0.heap.size w0 wr:=HB0.out.trans (ai.out.mono HB0.out.size);obtain ⟨b1,o1,za,zn,zc,z,rfl,hb1,hgd,Hq,nQ,hz⟩:=HS.out.one i hlt;have hcl:wr.cell? ⟨b1,o1+i,none⟩=some (.slice za zn zc):=by rw [hbz.cell (p:=⟨b1,o1+i,none⟩) hb1];exact Hq
   have hzl:=nQ.1;have ZB:=nQ.2.1;have EM:=nQ.2.2.1;unfold maxLen at EM;have Fa:z∈nums xs:=by rw [<-hz,gdq,geg (by rw [HL.out];exact hlt),Option.getD_some];exact List.getElem_mem _
   have hz0:0<zn:=by rw [<-hzl];exact List.length_pos_iff.2 (qi.out z Fa)
   obtain ⟨zb,zo,rfl,_,_⟩:=nQ.at hz0;have LM:=hdq nQ;have dH:Hid (Sl .i64 wr (some ⟨zb,zo,none⟩) zn zc z):=nQ.below hbz lrf;have gM:Hid (Sl .i64 wr pa pn pc p):=HP.out.below ai.out lrf;have fw:=hdq hzl;have lT:=hdq (als (p:=p) (by rw [HL.out];exact hlt) hz);have bB:(i:Int)<(n:Int):=omg;clear hgd Hq nQ hz Fa hzl hbz hb1;by_cases hc1:pn<=zn
   ·have Et:decide ((zn:Int)>=(pn:Int))=true:=decide_eq_true omg;have hp0:(0:Int)<=(pn:Int):=omg;have hpz:(pn:Int)<=(zc:Int):=omg;have auj:(pn:Int)<=(zn:Int):=omg;have htn:(pn:Int).toNat=pn:=omg;have zy:Hid (Sl .i64 wr (some ⟨zb,zo,none⟩) pn zc (z.take pn)):=dH.out.first pn hc1
    obtain ⟨sm,hsm⟩:∃q,decide (z.take pn=p)=q:=⟨_,rfl⟩;have jQ:=hdq hsm;clear hsm;cases sm
    ·have HST:Hid (ends ((nums xs).take (i+1)) p=ends ((nums xs).take i) p):=by
      show _=_;rw [lT.out,if_neg (fun h=>of_decide_eq_false jQ.out (by have:=h.2;rw [fH.out] at this;exact this)),List.append_nil]
     go_wp2_with (go_at_call 38;refine (dR _ _ _ _ _ _ (z.take pn) p false _ zy.out gM.out jQ.out).mono ?_;rintro e w3 ⟨rfl,q3,rfl⟩);go_roundw
     case rel=>exact ⟨i+1,L,a1,c1,outs,by omega,by omega,rfl,by go_num,fu.out,HOW.out,jV.out,(by show _=_;rw [HST.out];exact qB.out),below_drewN ai.out _⟩
     case measure=>simp [intOf];omega
    ·have HST:Hid (ends ((nums xs).take (i+1)) p=ends ((nums xs).take i) p++[z.drop pn]):=by
      show _=_;rw [lT.out,if_pos ⟨by rw [fH.out,fw.out];exact hc1,by rw [fH.out];exact of_decide_eq_true jQ.out⟩,fH.out]
     by_cases hcp:zc=pn
     ·subst hcp;obtain rfl:zc=zn:=omg
      have HW0:∀W,Hid (Wd.Good W ⟨some ⟨zb,zo,none⟩,0,0,z.drop zc⟩):=fun W=>by
       show Sl .i64 W _ 0 0 _;exact Sl.behind_all (n:=zc) LM.out lrf
      have HW1:=HW0 w0;have qH:Hid (∀q,Below w.heap.size w (wr.drewN q)):=fun q=>below_drewN ai.out q
      go_wp2_with (first
       | (go_at_call 38
          refine (dR _ _ _ _ _ _ (z.take zc) p true _ zy.out gM.out jQ.out).mono ?_
          rintro e w3 ⟨rfl,q3,rfl⟩)
       | (at_builtin
          go_loud (
          refine Dq rfl (.tmp 33) (.tmp 40) rfq w.heap.size _ L outs rfq (World.ownsRow.alloc HOW.out _) (some ⟨wr.heap.size,0,none⟩) 1 1 [⟨some ⟨zb,zo,none⟩,0,0,z.drop zc⟩] rfq (Ws.newc [⟨some ⟨zb,zo,none⟩,0,0,z.drop zc⟩] (by intro x hx;rw [msg hx];exact (HW0 _).out) (by simp [maxLen]) rfl rfl rfl) (fun h=>by cases h) (L+1) rfl omg (by have:=ai.out.size;simp;omega) ?_;intro a3 c3 w3 hown3 hb3 hnil3;have dU:=hdq hown3;have mP:=hdq hnil3;have HB3:Hid (Below w.heap.size w w3):=((qH.out _).alloc (qH.out _).size _).trans hb3
          clear hown3 hb3 hnil3)))
      go_roundw
      case rel =>
       refine ⟨i+1,L+1,a3,c3,outs++[Wd.mk (some ⟨zb,zo,none⟩) (0) (0) (z.drop zc)],by omega,by omega,rfl,by go_num,mP.out,dU.out,?_,?_,HB3.out⟩
       ·exact z44
       ·show _=_;rw [nums_app,qB.out];exact HST.out.symm
      case measure=>simp [intOf];omega
     ·have HW0:Hid (Wd.Good wr ⟨some ⟨zb,zo+pn,none⟩,zn-pn,zc-pn,z.drop pn⟩):=dH.out.behind hc1 rfl rfl rfl;have HW1:Hid (Wd.Good w0 ⟨some ⟨zb,zo+pn,none⟩,zn-pn,zc-pn,z.drop pn⟩):=LM.out.behind hc1 rfl rfl rfl;have qH:Hid (∀q,Below w.heap.size w (wr.drewN q)):=fun q=>below_drewN ai.out q
      go_wp2_with (first
       | (go_at_call 38
          refine (dR _ _ _ _ _ _ (z.take pn) p true _ zy.out gM.out jQ.out).mono ?_
          rintro e w3 ⟨rfl,q3,rfl⟩)
       | (at_builtin
          go_loud (
          refine Dq rfl (.tmp 33) (.tmp 40) rfq w.heap.size _ L outs rfq (World.ownsRow.alloc HOW.out _) (some ⟨wr.heap.size,0,none⟩) 1 1 [⟨some ⟨zb,zo+pn,none⟩,zn-pn,zc-pn,z.drop pn⟩] rfq (Ws.newc [⟨some ⟨zb,zo+pn,none⟩,zn-pn,zc-pn,z.drop pn⟩] (by intro x hx;rw [msg hx];exact HW0.out) (by simp [maxLen]) rfl rfl rfl) (fun h=>by cases h) (L+1) rfl omg (by have:=ai.out.size;simp;omega) ?_;intro a3 c3 w3 hown3 hb3 hnil3;have dU:=hdq hown3;have mP:=hdq hnil3;have HB3:Hid (Below w.heap.size w w3):=((qH.out _).alloc (qH.out _).size _).trans hb3
          clear hown3 hb3 hnil3)))
      go_roundw
      case rel =>
       refine ⟨i+1,L+1,a3,c3,outs++[Wd.mk (some ⟨zb,zo+pn,none⟩) (zn-pn) (zc-pn) (z.drop pn)],by omega,by omega,rfl,by go_num,mP.out,dU.out,?_,?_,HB3.out⟩
       ·exact z44
       ·show _=_;rw [nums_app,qB.out];exact HST.out.symm
      case measure=>simp [intOf];omega
   ·have Et:decide ((zn:Int)>=(pn:Int))=false:=decide_eq_false omg
    have HST:Hid (ends ((nums xs).take (i+1)) p=ends ((nums xs).take i) p):=by
     show _=_;rw [lT.out,if_neg (fun h=>hc1 (by have:=h.1;rw [fH.out,fw.out] at this;exact this)),List.append_nil]
    go_wp2;go_roundw
    case rel=>exact ⟨i+1,L,a1,c1,outs,by omega,by omega,rfl,by go_num,fu.out,HOW.out,jV.out,(by show _=_;rw [HST.out];exact qB.out),ai.out⟩
    case measure=>simp [intOf];omega
  ·obtain rfl:i=n:=omg;go_wp2;go_ret;refine ⟨a1,L,c1,outs,rfl,HOW.out,jV.out,?_,by omega,fu.out,ai.out⟩;rw [qB.out,tol (by rw [HL.out];exact Nat.le_refl _)]

end
section
open Go.RowKit Tri Daw

theorem alv:(Tryz.prog.info? 115).map (fun i=>(i.zero,i.size,i.bytes))=some (some (.agg #[.slice none 0 0,.int .i64 0,.slice none 0 0]),3,56):=krf
theorem Ks.news {w:World} {a:OAd} {m c:Nat} {zs:List Kw} (h:Ks w a m c zs) (hm:0<m):∃y,a=some y/\∀j u,(dz zs)[j]?=some u->w.cell? (y.add j)=some u:=by
 obtain ⟨h1,h2,h3,h4,h5⟩:=h;rcases h5 with h5|⟨b,off,ha,hc⟩
 ·omega
 ·refine ⟨_,ha,fun j u hj=>?_⟩
  have hjl:j<(dz zs).length:=by
   rcases Nat.lt_or_ge j (dz zs).length with h' | h'
   ·exact h'
   ·rw [List.getElem?_eq_none h'] at hj;cases hj
  rw [Bf] at hjl;have hd:j/3<m:=omg;have hr:j%3<3:=Nat.mod_lt _ omg;have e:j=j/3*3+j%3:=omg;rw [e,uN zs (j/3) (j%3) omg hr] at hj;obtain ⟨c0,c1,c2⟩:=hc (j/3) hd;have hadd:(⟨b,off,none⟩:Addr).add j=⟨b,off+j,none⟩:=by simp [Addr.add]
  rw [hadd];rcases (by omega:j%3=0\/j%3=1\/j%3=2) with h0|h0|h0
  ·rw [h0] at hj;rw [show off+j=off+j/3*3 by omega,c0];exact hj
  ·rw [h0] at hj;rw [show off+j=off+j/3*3+1 by omega,c1];exact hj
  ·rw [h0] at hj;rw [show off+j=off+j/3*3+2 by omega,c2];exact hj
theorem Yu {w:World} {o:Oper} {act:Act} {K:Act->World->Prop} {Q:Exit->Act->World->Prop} (s x:Operand)
 (ho:o.op=.call { callee:=.builtin .append,args:=#[s,x],argTypes:=#[109,109] }) (base:Nat) (v:Value) (n:Nat) (xs:List Kw) (hs:act.eval s=v)
 (hown:w.ownsRow base 115 3 v n (dz xs)) (a:OAd) (m c:Nat) (zs:List Kw) (hx:act.eval x=.slice a m c) (hz:Ks w a m c zs)
 (N:Nat) (hN:n+m=N) (h63:N*56<=140737488355328) (hbase:base<=w.heap.size)
 (h:∀a' c' w',w'.ownsRow base 115 3 (.slice a' N c') N (dz (xs++zs))->Below base w w'->w.grownBy w' v.ownBlock->(a'=none->c'=0)->K (act.put o.dst (.slice a' N c')) w') :
 o.wp Tryz.prog act w K Q:=by
 subst hN;refine yj s x 109 115 ho _ 3 56 Tryz.underlying109 alv rfl omg base v n (dz xs) hs hown a m c (dz zs) hx (by rw [Bf,hz.1]) (fun hm=>hz.news hm) (alr zs) (by unfold maxLen;omega) omg hbase ?_;intro a' c' w' h1 h2 h3 h4;exact h a' c' w' (by rw [alq];exact h1) h2 h3 h4
theorem Ps {w:World} {ops:Array Oper} {rest:List Oper} {o:Oper} {act:Act} {Q:Exit->Act->World->Prop} (hw:Region.wanted o (yielded ops act.tmps)=true) (s x:Operand)
 (ho:o.op=.call { callee:=.builtin .append,args:=#[s,x],argTypes:=#[109,109] }) (base:Nat) (v:Value) (n:Nat) (xs:List Kw) (hs:act.eval s=v)
 (hown:w.ownsRow base 115 3 v n (dz xs)) (a:OAd) (m c:Nat) (zs:List Kw) (hx:act.eval x=.slice a m c) (hz:Ks w a m c zs)
 (N:Nat) (hN:n+m=N) (h63:N*56<=140737488355328) (hbase:base<=w.heap.size)
 (h:∀a' c' w',w'.ownsRow base 115 3 (.slice a' N c') N (dz (xs++zs))->Below base w w'->w.grownBy w' v.ownBlock->(a'=none->c'=0)->wpList Tryz.prog ops Q rest (act.put o.dst (.slice a' N c')) w') :
 wpList Tryz.prog ops Q (o::rest) act w:=by
 refine wpList_step fun K hK=>?_;rw [if_pos hw];exact Yu s x ho base v n xs hs hown a m c zs hx hz N hN h63 hbase (fun a' c' w' h1 h2 h3 h4=>hK _ _ (h a' c' w' h1 h2 h3 h4))
theorem jO {w:World} {ops:Array Oper} {o:Oper} {act:Act} {K:Act->World->Prop} {Q:Exit->Act->World->Prop} {E:Prop} (hw:Region.wanted o (yielded ops act.tmps)=true) (s x:Operand)
 (ho:o.op=.call { callee:=.builtin .append,args:=#[s,x],argTypes:=#[109,109] }) (base:Nat) (v:Value) (n:Nat) (xs:List Kw) (hs:act.eval s=v)
 (hown:w.ownsRow base 115 3 v n (dz xs)) (a:OAd) (m c:Nat) (zs:List Kw) (hx:act.eval x=.slice a m c) (hz:Ks w a m c zs)
 (N:Nat) (hN:n+m=N) (h63:N*56<=140737488355328) (hbase:base<=w.heap.size)
 (h:∀a' c' w',w'.ownsRow base 115 3 (.slice a' N c') N (dz (xs++zs))->Below base w w'->w.grownBy w' v.ownBlock->(a'=none->c'=0)->K (act.put o.dst (.slice a' N c')) w') :
 if Region.wanted o (yielded ops act.tmps)=true then o.wp Tryz.prog act w K Q else E:=by
 rw [if_pos hw];exact Yu s x ho base v n xs hs hown a m c zs hx hz N hN h63 hbase h
theorem Bg (w:World) (u v z:Value) (t:TypeId) (fr:Nat × Nat):(w.alloc (.cells #[u,v,z] t fr)).cell? ⟨w.heap.size,0,none⟩=some u/\(w.alloc (.cells #[u,v,z] t fr)).cell? ⟨w.heap.size,1,none⟩=some v/\(w.alloc (.cells #[u,v,z] t fr)).cell? ⟨w.heap.size,2,none⟩=some z:=by
 have h:=han w (.cells #[u,v,z] t fr);refine ⟨?_,?_,?_⟩<;>(simp only [World.cell?];rw [h];rfl)
theorem Ks.single {w w':World} {g:Nat} {x:Kw} (hx:x.Good w) (h0:w'.cell? ⟨g,0,none⟩=some x.e) (h1:w'.cell? ⟨g,1,none⟩=some x.l) (h2:w'.cell? ⟨g,2,none⟩=some x.f.v) (hb:Below w.heap.size w w'):Ks w' (some ⟨g,0,none⟩) 1 1 [x]:=by
 refine ⟨rfl,Nat.le_refl _,by unfold maxLen;omega,fun y hy=>by rw [msg hy];exact hx.below hb lrf,.inr ⟨g,0,rfl,fun i hi=>?_⟩⟩;obtain rfl:i=0:=omg;exact ⟨h0,h1,h2⟩
theorem alx {w:World} {ops:Array Oper} {o:Oper} {act:Act} {K:Act->World->Prop} {Q:Exit->Act->World->Prop} {E:Prop} (hw:Region.wanted o (yielded ops act.tmps)=true) (x:Operand) (y:Kw)
 (ho:o.op=.buildSlice 109 1 #[(0,x)]) (hx:act.eval x=.agg #[y.e,y.l,y.f.v]) (h:∀g w',w'.cell? ⟨g,0,none⟩=some y.e->w'.cell? ⟨g,1,none⟩=some y.l->w'.cell? ⟨g,2,none⟩=some y.f.v->Below w.heap.size w w'->K (act.put o.dst (.slice (some ⟨g,0,none⟩) 1 1)) w') :
 if Region.wanted o (yielded ops act.tmps)=true then o.wp Tryz.prog act w K Q else E:=by
 rw [if_pos hw];unfold Oper.wp;simp only [execOp,ho,List.map_toArray,List.map_cons,List.map_nil,hx];go_simp;exact h _ _ (Bg w _ _ _ _ _).1 (Bg w _ _ _ _ _).2.1 (Bg w _ _ _ _ _).2.2 ((Below.refl _ w).alloc lrf _)
theorem Bh {w:World} {ops:Array Oper} {o:Oper} {act:Act} {K:Act->World->Prop} {Q:Exit->Act->World->Prop} {E:Prop} (hw:Region.wanted o (yielded ops act.tmps)=true) (x:Operand) (y:Kw)
 (ho:o.op=.buildSlice 109 1 #[(0,x)]) (hx:act.eval x=.agg #[y.e,y.l,y.f.v]) (h:∀w',w'.cell? ⟨w.heap.size,0,none⟩=some y.e->w'.cell? ⟨w.heap.size,1,none⟩=some y.l->w'.cell? ⟨w.heap.size,2,none⟩=some y.f.v->Below w.heap.size w w'->K (act.put o.dst (.slice (some ⟨w.heap.size,0,none⟩) 1 1)) w') :
 if Region.wanted o (yielded ops act.tmps)=true then o.wp Tryz.prog act w K Q else E:=by
 rw [if_pos hw];unfold Oper.wp;simp only [execOp,ho,List.map_toArray,List.map_cons,List.map_nil,hx];go_simp;exact h _ (Bg w _ _ _ _ _).1 (Bg w _ _ _ _ _).2.1 (Bg w _ _ _ _ _).2.2 ((Below.refl _ w).alloc lrf _)
theorem JO {w:World} {ops:Array Oper} {o:Oper} {act:Act} {K:Act->World->Prop} {Q:Exit->Act->World->Prop} {E:Prop} (hw:Region.wanted o (yielded ops act.tmps)=true)
 (ho:o.op=.buildSlice 109 0 #[]) (h:∀w',w'.ownsRow w.heap.size 115 3 (.slice (some ⟨w.heap.size,0,none⟩) 0 0) 0 (dz [])->Below w.heap.size w w'->K (act.put o.dst (.slice (some ⟨w.heap.size,0,none⟩) 0 0)) w') :
 if Region.wanted o (yielded ops act.tmps)=true then o.wp Tryz.prog act w K Q else E:=by
 rw [if_pos hw];unfold Oper.wp;simp only [execOp,ho,List.map_toArray,List.map_nil];go_simp;exact h _ (World.ownsRow_lit (base:=w.heap.size) (e:=115) (size:=3) w #[] 0 lrf (by unfold maxLen;omega) smp) ((Below.refl _ w).alloc lrf _)

structure fo (w0 W:World) (x:Kw):Prop where
 row:W.ownsRow w0.heap.size 51 1 (.slice x.ea x.en x.ec) x.en (vals x.es)
 words:∀y∈x.es,y.Good w0
 first:x.f.Good w0
 long:x.L<=1000
theorem fo.good {w0 W:World} {x:Kw} (h:fo w0 W x) (hb:Below w0.heap.size w0 W):x.Good W:=by
 refine ⟨Ws.of_owns h.row (fun y hy=>(h.words y hy).below hb lrf) ?_,h.first.below hb lrf,h.long⟩;have:=h.row.1;unfold vals at this;rw [List.length_map] at this;omega
theorem fo.kept {w0 W W':World} {x:Kw} {row:Option Nat} (h:fo w0 W x) (hg:W.grownBy W' row) (hr:(Value.slice x.ea x.en x.ec).ownBlock=none\/(Value.slice x.ea x.en x.ec).ownBlock≠row):fo w0 W' x:=⟨h.row.kept hg hr,h.words,h.first,h.long⟩
theorem fo.grow {w0 W W':World} {x:Kw} (h:fo w0 W x) (hg:W.grownBy W' none):fo w0 W' x:=h.kept hg (or_none _)
theorem fo.below {w0 W W':World} {x:Kw} (h:fo w0 W x) (hb:Below W.heap.size W W'):fo w0 W' x:=h.grow ⟨hb.os,hb.tape,hb.output,hb.size,fun k hk _=>hb.block k hk⟩
theorem aly:(51:TypeId)≠115:=by decide
theorem fo.row_kept {w0 W W':World} {x:Kw} {B n:Nat} {v:Value} {l:List Value} (h:fo w0 W x) (ho:W.ownsRow B 115 3 v n l) (hg:W.grownBy W' v.ownBlock):fo w0 W' x:=h.kept hg (qd h.row ho aly)
theorem alz {kx:List Kw} {k M:Nat} {x:Kw} (hk:k<kx.length) (hx:kx.getD k Kw.no=x):dz (kx.set k ⟨x.ea,x.en,x.ec,x.es,M,x.f⟩)=(dz kx).set (k*3+1) (.int .i64 (M:Int)):=by
 have h0:=uN kx k 0 hk omg;have h2:=uN kx k 2 hk omg;rw [hx] at h0 h2;rw [Yr];show (((dz kx).set (k*3) x.e).set (k*3+1) (.int .i64 (M:Int))).set (k*3+2) x.f.v=_;rw [wD (l:=dz kx) (i:=k*3) (v:=x.e) h0,wD (i:=k*3+2) (v:=x.f.v)];rw [List.getElem?_set_ne omg];exact h2
theorem alA {kx:List Kw} {k:Nat} {x:Kw} {f:Wd} (hk:k<kx.length) (hx:kx.getD k Kw.no=x):dz (kx.set k ⟨x.ea,x.en,x.ec,x.es,x.L,f⟩)=(dz kx).set (k*3+2) f.v:=by
 have h0:=uN kx k 0 hk omg;have h1:=uN kx k 1 hk omg;rw [hx] at h0 h1;rw [Yr];show (((dz kx).set (k*3) x.e).set (k*3+1) x.l).set (k*3+2) f.v=_;rw [wD (l:=dz kx) (i:=k*3) (v:=x.e) h0,wD (i:=k*3+1) (v:=x.l)];exact h1
theorem Ks.behind {w:World} {b off n cap:Nat} {xs:List Kw} (h:Ks w (some ⟨b,off,none⟩) n cap xs) {j o' m c':Nat} (hj:j<=n) (ho:o'=off+j*3) (hm:m=n-j) (hc:c'=cap-j):Ks w (some ⟨b,o',none⟩) m c' (xs.drop j):=by
 subst ho hm hc;obtain ⟨h1,h2,h3,h4,h5⟩:=h;refine ⟨by rw [List.length_drop,h1],by omega,by omega,fun z hz=>h4 z (List.mem_of_mem_drop hz),?_⟩;rcases Nat.eq_zero_or_pos (n-j) with h0|h0
 ·exact .inl h0
 ·rcases h5 with h5|⟨b',off',e,hc⟩
  ·omega
  ·simp only [sij,Addr.mk.injEq,and_true] at e;obtain ⟨rfl,rfl⟩:=e;refine .inr ⟨b,off+j*3,rfl,fun i hi=>?_⟩;have:=hc (j+i) omg;rw [Nat.add_mul,<-Nat.add_assoc] at this;have e2:(xs.drop j).getD i Kw.no=xs.getD (j+i) Kw.no:=smp;rw [e2];exact this
theorem Ks.first {w:World} {a:OAd} {n cap:Nat} {xs:List Kw} (h:Ks w a n cap xs) {j:Nat} (hj:j<=n):Ks w a j cap (xs.take j):=by
 obtain ⟨h1,h2,h3,h4,h5⟩:=h;refine ⟨by rw [List.length_take,h1];omega,by omega,h3,fun z hz=>h4 z (List.mem_of_mem_take hz),?_⟩;rcases Nat.eq_zero_or_pos j with h0|h0
 ·exact .inl h0
 ·rcases h5 with h5|⟨b,off,e,hc⟩
  ·omega
  ·refine .inr ⟨b,off,e,fun i hi=>?_⟩;have e2:(xs.take j).getD i Kw.no=xs.getD i Kw.no:=by simp [hi]
   rw [e2];exact hc i omg
theorem Ks.none_at {w:World} {a:OAd}:Ks w a 0 0 []:=⟨rfl,Nat.le_refl _,by unfold maxLen;omega,by simp,.inl rfl⟩
theorem JP {W W':World} {g:Nat} {x:Kw} {row:Option Nat} (h:Ks W (some ⟨g,0,none⟩) 1 1 [x]) (hx:x.Good W') (hg:W.grownBy W' row) (hne:some g≠row):Ks W' (some ⟨g,0,none⟩) 1 1 [x]:=by
 obtain ⟨_,_,_,_,h5⟩:=h;refine ⟨rfl,Nat.le_refl _,by unfold maxLen;omega,fun y hy=>by rw [msg hy];exact hx,.inr ⟨g,0,rfl,fun i hi=>?_⟩⟩;obtain rfl:i=0:=omg;rcases h5 with h5|⟨b,off,e,hc⟩
 ·cases h5
 ·simp only [sij,Addr.mk.injEq,and_true] at e;obtain ⟨rfl,rfl⟩:=e;obtain ⟨c0,c1,c2⟩:=hc 0 omg;exact ⟨hg.cell c0 hne,hg.cell c1 hne,hg.cell c2 hne⟩
theorem alB {l:List Kd} {x:Kd} {t:Nat} (ht:t<=l.length) (h1:∀p,p<t->dw (l.getD p Kd.no) x=true) (h2:t=l.length\/dw (l.getD t Kd.no) x=false):ll l x=l.take t++x::l.drop t:=by
 have hp:∀a∈l.take t,(fun a=>dw a x) a=true:=by
  intro a ha;obtain ⟨p,hp,rfl⟩:=List.getElem_of_mem ha;have hpt:p<t:=by simp at hp;omega
  have:=h1 p hpt;simpa [show p<l.length by omega] using this
 have key:∀(u v:List Kd),(∀a∈u,dw a x=true)->(v=[]\/dw (v.getD 0 Kd.no) x=false)->(u++v).takeWhile (fun a=>dw a x)=u/\(u++v).dropWhile (fun a=>dw a x)=v:=by
  intro u v hu hv
  induction u with
  | nil =>
    rcases hv with rfl|hv
    ·simp
    ·cases v with
     | nil=>simp
     | cons y v =>
       have hy:dw y x=false:=by simpa using hv
       simp [hy]
  | cons y u ih =>
    have hy:=hu y smp;have:=ih (fun a ha=>hu a (by simp [ha]));simp [hy,this]
 have:=key (l.take t) (l.drop t) hp (by
  rcases h2 with h2|h2
  ·exact .inl (by rw [List.drop_eq_nil_iff];omega)
  ·refine .inr ?_
   rw [gdq,List.getElem?_drop,Nat.add_zero,<-gdq];exact h2)
 rw [List.take_append_drop] at this;unfold ll;rw [this.1,this.2]
theorem alC (xs:List Kw) (t:Nat):kds (xs.take t)=(kds xs).take t:=by simp [kds,List.map_take]
theorem alD (xs:List Kw) (t:Nat):kds (xs.drop t)=(kds xs).drop t:=by simp [kds,List.map_drop]
theorem Yv {w0 W:World} {kx:List Kw} {k:Nat} {z:Kw} (h:∀x∈kx,fo w0 W x) (hz:fo w0 W z):∀x∈kx.set k z,fo w0 W x:=fun x hx=>by
 rcases List.mem_or_eq_of_mem_set hx with hx|rfl
 ·exact h x hx
 ·exact hz

end
section
open Go.RowKit Tri Daw

def alE (w w':World) (e:Ending) (l:List Kd):Prop:=∃a n c xs,e=.returned (.slice a n c)/\Ks w' a n c xs/\kds xs=l/\(a=none->c=0)/\Below w.heap.size w w'
theorem alF {ws B:LLI} {i:Nat} {q:LIn} (hi:i<B.length) (hq:B.getD i []=q):(B.take (i+1)).foldl (dN ws) []=dN ws ((B.take i).foldl (dN ws) []) q:=by
 rw [tsa hi,List.foldl_append];have:B[i]=q:=by rw [<-hq];simp [hi]
 rw [this];rfl
theorem alG {ws:LLI} {all:List Kd} {q:LIn} (h:dL all (ends ws q)=none):dN ws all q=all++[⟨ends ws q,q.length,q⟩]:=by unfold dN;rw [h]
theorem alH {ws:LLI} {all:List Kd} {q:LIn} {k:Nat} (h:dL all (ends ws q)=some k):dN ws all q=all.set k ⟨(all.getD k Kd.no).E,max (all.getD k Kd.no).L q.length,if lessL q (all.getD k Kd.no).F=true then q else (all.getD k Kd.no).F⟩:=by unfold dN;rw [h]

theorem alI (a:OAd) (n cap:Nat) (xs:List Wd) (w:World) (hs:Ws w a n cap xs) (hnil:a=none->cap=0) (hn:n<=300) (hr:aM (nums xs)) (hne:∀z∈nums xs,z≠[]) (hsh:Tri.Short (nums xs)) :
 Calls Tryz.prog 73 #[.slice a n cap] w fun e w'=>alE w w' e (kinds (nums xs)):=by
 have HS:=hdq hs;have qi:=hdq hne;have dP:=hdq hsh;have zf:Hid ((nums xs).length=n):=by show _=_;rw [nums_length,hs.1]
 have HR:=hdq hr;have fu:=hdq hnil;have gq:Hid (Tryz.prog.follows .mixedOrders=true):=by show _=_;kernel_rfl
 clear hs hnil hr hne hsh;go_enter Tryz.func73,Tryz.ntmps73;go_wp2_with fail;refine (Pm a n cap xs w HS.out fu.out omg HR.out).mono ?_;rintro e w1 ⟨ba,nb,bc,bs,rfl,hbs,hbn,-,hb1⟩;have HB1:=hdq hb1;have bM:=hdq hbs;have fP:=hdq hbn;have bR:Hid (Ws w1 a n cap xs):=HS.out.below hb1 lrf;have dD:Hid ((begs (nums xs)).length=nb):=by show _=_;rw [<-hbn,nums_length,hbs.1]
 have hnb:nb<=6001:=by have h:=Dt (nums xs);rw [dD.out,zf.out] at h;omega
 have aul:=hbs.2.1;have Ty:=hbs.2.2.1;unfold maxLen at Ty;clear hbs hbn hb1;go_wp2;go_loopw [4,5] (fun av ix wr=>∃(i N:Nat) (a1:OAd) (c1:Nat) (kx:List Kw),i<=nb/\N<=i/\av=.slice a1 N c1/\ix=.int .i64 (i:Int)/\Hid (a1=none->c1=0)/\Hid (wr.ownsRow w1.heap.size 115 3 (.slice a1 N c1) N (dz kx))/\Hid (∀x∈kx,fo w1 wr x)/\Hid (kds kx=((begs (nums xs)).take i).foldl (dN (nums xs)) [])/\Hid (Below w1.heap.size w1 wr)) (fun _ ix _=>nb-(intOf ix).toNat)
 case atStart=>exact ⟨0,0,none,0,[],Nat.zero_le _,Nat.le_refl _,rfl,rfl,(fun _=>rfl),⟨rfl,.inl ⟨rfl,rfl⟩⟩,(by show ∀x∈([]:List Kw),fo w1 w1 x;simp),rfl,Below.refl _ _⟩
 case round =>
  obtain ⟨i,N,a1,c1,kx,hi,hNi,rfl,rfl,Br,HOW,Tz,gu,ai⟩:=hrel;by_cases hlt:i<nb
  ·obtain ⟨qb,qo,fa,fn,fc,fz,rfl,Da,_,hqc,vv,hqz⟩:=bM.out.one i hlt;have LQ:wr.cell? ⟨qb,qo+i,none⟩=some (.slice fa fn fc):=by rw [ai.out.cell (p:=⟨qb,qo+i,none⟩) Da];exact hqc
   have Hy:=hdq hqc;have LU:=hdq Da;have vO:=hdq vv;have TA:=hdq vv.1;have vP:Hid ((begs (nums xs)).getD i []=fz):=by show _=_;rw [<-fP.out];exact hqz
   have aun:fn<=20:=by rw [<-TA.out];exact IW dP.out (by rw [<-vP.out,gdq,geg (by rw [dD.out];exact hlt),Option.getD_some];exact List.getElem_mem _)
   have acF:=hdq (alF (ws:=nums xs) (by rw [dD.out];exact hlt) vP.out);have bB:(i:Int)<(nb:Int):=omg;clear Da hqc vv hqz;go_wp2_with fail;refine (Pq a fa n cap fn fc xs fz w1 wr bR.out ai.out (vO.out.below ai.out lrf) qi.out omg).mono ?_;rintro e w2 ⟨ea,en,ec,ys,rfl,acG,acH,acI,auo,aql,hb2⟩;have TB:Hid (w2.ownsRow w1.heap.size 115 3 (.slice a1 N c1) N (dz kx)):=ownsRow_below HOW.out hb2 lrf;have TC:Hid (∀x∈kx,fo w1 w2 x):=fun x hx=>(Tz.out x hx).below hb2;have eT:Hid (Below w1.heap.size w1 w2):=ai.out.trans (hb2.mono ai.out.size);have TD:Hid (fo w1 w2 ⟨ea,en,ec,ys,fn,⟨fa,fn,fc,fz⟩⟩):=⟨lW acG ai.out.size,acH,vO.out,by show fn<=1000;omega⟩;have LV:=hdq acI;clear acG acH acI aql hb2 LQ;go_wp2_with fail;refine (Pp a1 ea N c1 en ec kx ys w2 (Ks.of_owns TB.out (fun x hx=>(TC.out x hx).good eT.out)) (TD.out.good eT.out).1).mono ?_;rintro e w3 ⟨rfl,hq3⟩;have dU:Hid (w3.drew.ownsRow w1.heap.size 115 3 (.slice a1 N c1) N (dz kx)):=by obtain ⟨q,rfl⟩:=hq3;exact TB.out
   have TE:Hid (∀x∈kx,fo w1 w3.drew x):=by
    obtain ⟨q,rfl⟩:=hq3;exact fun x hx=>(TC.out x hx).below (aG (below_drewN (Below.refl _ _) q) ⟨1,rfl⟩)
   have tK:Hid (fo w1 w3.drew ⟨ea,en,ec,ys,fn,⟨fa,fn,fc,fz⟩⟩):=by
    obtain ⟨q,rfl⟩:=hq3;exact TD.out.below (aG (below_drewN (Below.refl _ _) q) ⟨1,rfl⟩)
   have HB3:Hid (Below w1.heap.size w1 w3.drew):=aG (aG eT.out hq3) ⟨1,rfl⟩;have nR:Hid (w3.drew.cell? ⟨qb,qo+i,none⟩=some (.slice fa fn fc)):=by show _=_;rw [HB3.out.cell (p:=⟨qb,qo+i,none⟩) LU.out];exact Hy.out
   clear TB TC TD hq3;rw [LV.out,gu.out]
   cases Ae:dL (((begs (nums xs)).take i).foldl (dN (nums xs)) []) (ends (nums xs) fz) with
   | none =>
     have Hz:qY (((begs (nums xs)).take i).foldl (dN (nums xs)) []) (ends (nums xs) fz)=-1:=by unfold qY;rw [Ae]
     have aqm:Hid (((begs (nums xs)).take (i+1)).foldl (dN (nums xs)) []=kds kx++[⟨nums ys,fn,fz⟩]):=by
      show _=_;rw [acF.out,alG Ae,gu.out,LV.out,TA.out]
     rw [Hz];have hmx:=gq.out;have acJ:w3.cell? ⟨qb,qo+i,none⟩=some (.slice fa fn fc):=nR.out;clear Hz Ae;go_wp2_with fail;refine wp_region_held_drew (S:=(fun W=>W.cell? ⟨qb,qo+i,none⟩=some (.slice fa fn fc))) krf (by first|((first|exact Ia|exact Db|exact nR.out))|((try dsimp only);(first|exact Ia|exact Db|exact nR.out))) (fun hHeld=>?_);refine wpAnyH_take (i:=0) (v:=?aup) rfl krf krf krf (fun _ _ _ h=>h) (Or.inl ⟨by rfl,?aqn⟩) (by assumption) ?auq
     case aqn=>intro w hSw;(try dsimp only at hSw);go_simp;try with_reducible rfl
     simp only [Act.put,List.getElem_toArray,List.getElem_cons_zero,List.setIfInBounds_toArray,List.set_cons_succ,List.set_cons_zero];refine t_h 1 ?_;refine t_h 2 ?_;refine t_h 3 ?_;refine t_h 4 ?_;refine t_h 5 ?_;refine t_h 6 ?_;refine t_h 7 ?_;refine t_h 8 ?_;refine t_h 9 ?_;refine t_h 10 ?_;refine t_h 11 ?_;refine r_h 12 (fun K hK=>?_);refine alx rfq (.tmp 42) ⟨ea,en,ec,ys,fn,⟨fa,fn,fc,fz⟩⟩ rfq rfq ?_;intro gB wB jE jF acK au;have Db:wB.cell? ⟨qb,qo+i,none⟩=some (.slice fa fn fc):=by rw [au.cell (p:=⟨qb,qo+i,none⟩) (bQ nR.out)];exact nR.out
     refine k_h hK (by (try dsimp only);(first|exact Ia|exact Db|exact nR.out)) (fun hHeld=>?_);clear hK K;refine r_h 13 (fun K hK=>?_);refine jO rfq (.tmp 31) (.tmp 43) rfq w1.heap.size _ N kx rfq (ownsRow_below dU.out au lrf) (some ⟨gB,0,none⟩) 1 1 [⟨ea,en,ec,ys,fn,⟨fa,fn,fc,fz⟩⟩] rfq (Ks.single ((tK.out).good HB3.out) jE jF acK au) (N+1) rfl omg (Nat.le_trans HB3.out.size au.size) ?_;intro a5 c5 w5 hown5 hb5 hg5 iK;have Ia:w5.cell? ⟨qb,qo+i,none⟩=some (.slice fa fn fc):=by rw [hb5.cell (p:=⟨qb,qo+i,none⟩) LU.out];exact Db
     have hk5:∀x∈kx++[⟨ea,en,ec,ys,fn,⟨fa,fn,fc,fz⟩⟩],fo w1 w5 x:=fun x hx=>by
      have h1:fo w1 wB x:=by
       rcases map1 hx with hx|hx
       ·exact (TE.out x hx).below au
       ·rw [msg hx];exact tK.out.below au
      exact h1.row_kept (ownsRow_below dU.out au lrf) hg5
     have acL:Below w1.heap.size w1 w5:=(HB3.out.trans (au.mono HB3.out.size)).trans hb5;refine k_h hK (by (try dsimp only);(first|exact Ia|exact Db|exact nR.out)) (fun hHeld=>?_);clear hK K;refine t_h 14 ?_;refine wpAnyH_done krf ?_ _;have jR:=hdq hown5;have Dc:=hdq iK;have Qc:=hdq hk5;have eU:=hdq acL;clear hown5 hb5 hg5 iK hk5 acL Ia Db jE jF acK au hHeld;go_wp2;go_roundw
     case rel=>exact ⟨i+1,N+1,a5,c5,_,by omega,by omega,rfl,by go_num,Dc.out,jR.out,Qc.out,(by show _=_;rw [Pn,aqm.out];rfl),eU.out⟩
     case measure=>simp [intOf];omega
   | some k =>
     obtain ⟨hkl,hkE⟩:=wG Ae;have Hz:qY (((begs (nums xs)).take i).foldl (dN (nums xs)) []) (ends (nums xs) fz)=(k:Int):=by unfold qY;rw [Ae]
     rw [<-gu.out,Be] at hkl;have hkN:k<N:=by have h:=dU.out.1;rw [Bf] at h;omega
     obtain ⟨ab,rfl⟩:=nY dU.out omg;obtain ⟨x,hx⟩:∃x,kx.getD k Kw.no=x:=⟨_,rfl⟩;obtain ⟨xa,xn,xc,bA,XL,⟨ga,gn,gc,gz⟩⟩:=x;have TF:=hdq hx;have dS:Hid ((⟨xa,xn,xc,bA,XL,⟨ga,gn,gc,gz⟩⟩:Kw)∈kx):=by show _∈_;rw [<-hx,gdq,geg hkl,Option.getD_some];exact List.getElem_mem _
     have LW:=hdq hkl
     have acM:Hid (((begs (nums xs)).take (i+1)).foldl (dN (nums xs)) []=(kds kx).set k ⟨nums bA,max XL fn,if lessL fz gz=true then fz else gz⟩):=by
      show _=_;rw [acF.out,alH Ae,<-gu.out,Ee,hx,TA.out];rfl
     have hXL:XL<=1000:=(TE.out _ dS.out).long;rw [Hz];have hk0:¬(k:Int)<0:=omg;have aus:decide ((k:Int)<0)=false:=decide_eq_false hk0;have ZK:(k:Int)<(N:Int):=omg;have aqp:(0:Int)<=(k:Int):=omg;have hc1:w3.drew.cell? ⟨ab,k*3+1,none⟩=some (.int .i64 (XL:Int)):=by rw [dU.out.cellAt (k*3+1) omg,uN kx k 1 hkl omg,hx];rfl
     have hf1:w3.drew.frozen? ⟨ab,k*3+1,none⟩=false:=dU.out.frozenAt _
     have De:∀v,(w3.drew.setCell ⟨ab,k*3+1,none⟩ v).cell? ⟨qb,qo+i,none⟩=some (.slice fa fn fc):=fun v=>(dC w3.drew ⟨ab,k*3+1,none⟩ v).cell nR.out (fun e=>by
      have h1:=(dU.out.lt ab rfl).1;have h2:qb=ab:=Option.some.inj e;have h3:=LU.out
      omega)
     have aut:max (XL:Int) (fn:Int)=((max XL fn:Nat):Int):=omg;have hmx:=gq.out;have acJ:w3.cell? ⟨qb,qo+i,none⟩=some (.slice fa fn fc):=nR.out;clear Hz Ae hkE hx;go_wp2_with fail;refine wp_region_held_drew (S:=(fun W=>W.cell? ⟨qb,qo+i,none⟩=some (.slice fa fn fc))) krf (by first|((first|exact De _|exact nR.out))|((try dsimp only);(first|exact De _|exact nR.out))) (fun hHeld=>?_);refine wpAnyH_take (i:=0) (v:=?auu) rfl krf krf krf (fun _ _ _ h=>h) (Or.inl ⟨by rfl,?aqr⟩) (by assumption) ?auv
     case aqr=>intro w hSw;(try dsimp only at hSw);go_simp;try with_reducible rfl
     simp only [Act.put,List.getElem_toArray,List.getElem_cons_zero,List.setIfInBounds_toArray,List.set_cons_succ,List.set_cons_zero];refine t_h 1 ?_;refine t_h 2 ?_;refine t_h 3 ?_;refine t_h 4 ?_;refine t_h 5 ?_;refine t_h 7 ?_;refine t_h 8 ?_;refine t_h 9 ?_;refine t_h 10 ?_;refine t_h 11 ?_;refine r_h 6 (fun K hK=>?_);go_simp;refine k_h hK (by (try dsimp only);(first|exact De _|exact nR.out)) (fun hHeld=>?_);clear hK K;refine r_h 12 (fun K hK=>?_);go_simp;refine k_h hK (by (try dsimp only);(first|exact De _|exact nR.out)) (fun hHeld=>?_);clear hK K;refine t_h 13 ?_;refine t_h 14 ?_;refine r_h 15 (fun K hK=>?_);go_simp;refine k_h hK (by (try dsimp only);(first|exact De _|exact nR.out)) (fun hHeld=>?_);clear hK K;refine wpAnyH_done krf ?_ _;generalize vR:World.drew (World.setCell w3 _ _)=w4;have gY:Hid (w3.drew.grownBy w4 (some ab)):=by rw [<-vR];exact dC w3.drew ⟨ab,k*3+1,none⟩ _
     have fA:Hid (w4.ownsRow w1.heap.size 115 3 (.slice (some ⟨ab,0,none⟩) N c1) N (dz (kx.set k ⟨xa,xn,xc,bA,max XL fn,⟨ga,gn,gc,gz⟩⟩))):=by
      have h:=(dU.out.stored (k*3+1) (.int .i64 ((max XL fn:Nat):Int))).1;rw [<-alz LW.out TF.out] at h;rw [<-vR];exact h
     have TG:Hid (∀x∈kx.set k ⟨xa,xn,xc,bA,max XL fn,⟨ga,gn,gc,gz⟩⟩,fo w1 w4 x):=by
      have h1:∀x∈kx,fo w1 w4 x:=fun x hx=>(TE.out x hx).row_kept dU.out gY.out;have h2:=h1 _ dS.out;exact Yv h1 ⟨h2.row,h2.words,h2.first,by show max XL fn<=1000;omega⟩
     have gm:Hid (Below w1.heap.size w1 w4):=HB3.out.grown gY.out HB3.out.size (fun q e=>by cases e;exact (dU.out.lt ab rfl).1);have hq4:w4.cell? ⟨qb,qo+i,none⟩=some (.slice fa fn fc):=by rw [gm.out.cell (p:=⟨qb,qo+i,none⟩) LU.out];exact Hy.out
     have hlk:k<(kx.set k (⟨xa,xn,xc,bA,max XL fn,⟨ga,gn,gc,gz⟩⟩:Kw)).length:=by rw [List.length_set];exact LW.out
     have hx4:(kx.set k (⟨xa,xn,xc,bA,max XL fn,⟨ga,gn,gc,gz⟩⟩:Kw)).getD k Kw.no=⟨xa,xn,xc,bA,max XL fn,⟨ga,gn,gc,gz⟩⟩:=by simp [LW.out]
     have hc4:w4.cell? ⟨ab,k*3+2,none⟩=some (.slice ga gn gc):=by rw [fA.out.cellAt (k*3+2) omg,uN _ k 2 hlk omg,hx4];rfl
     have Ey:=hdq hlk;have FY:=hdq hx4;have acN:Hid ((⟨xa,xn,xc,bA,max XL fn,⟨ga,gn,gc,gz⟩⟩:Kw)∈kx.set k ⟨xa,xn,xc,bA,max XL fn,⟨ga,gn,gc,gz⟩⟩):=List.mem_set LW.out _;have Fy:Hid (Sl .i64 w4 ga gn gc gz):=Wd.Good.below (x:=⟨ga,gn,gc,gz⟩) (TG.out _ acN.out).first gm.out lrf
     have HQW:Hid (Sl .i64 w4 fa fn fc fz):=vO.out.below gm.out lrf;obtain ⟨lb,hlb⟩:∃g,lessL fz gz=g:=⟨_,rfl⟩;have LX:=hdq hlb;clear vR hlk hx4 hlb hHeld hc1 hf1 De acJ;cases lb
     ·have TH:Hid (((begs (nums xs)).take (i+1)).foldl (dN (nums xs)) []=kds (kx.set k ⟨xa,xn,xc,bA,max XL fn,⟨ga,gn,gc,gz⟩⟩)):=by
       show _=_;rw [acM.out,Po,LX.out];rfl
      go_wp2;go_quiet ((go_at_call 121;exact Calls.quiet_of (jL _ _ _ _ _ _ fz gz false _ (HQW.out.drewN _) (Fy.out.drewN _) LX.out)));go_wp2;go_roundw
      case rel=>exact ⟨i+1,N,_,c1,_,by omega,by omega,rfl,by go_num,(fun h=>by cases h),fA.out,(fun x hx=>(TG.out x hx).below (below_drewN (Below.refl _ _) _)),TH.out.symm,below_drewN gm.out _⟩
      case measure=>simp [intOf];omega
     ·have TH:Hid (((begs (nums xs)).take (i+1)).foldl (dN (nums xs)) []=kds ((kx.set k ⟨xa,xn,xc,bA,max XL fn,⟨ga,gn,gc,gz⟩⟩).set k ⟨xa,xn,xc,bA,max XL fn,⟨fa,fn,fc,fz⟩⟩)):=by
       show _=_;rw [acM.out,Po,Po,List.set_set,LX.out];rfl
      have hf4:w4.frozen? ⟨ab,k*3+2,none⟩=false:=fA.out.frozenAt _;go_wp2;go_quiet ((go_at_call 121;exact Calls.quiet_of (jL _ _ _ _ _ _ fz gz true _ (HQW.out.drewN _) (Fy.out.drewN _) LX.out)));go_wp2;go_roundw
      case rel =>
       have jq:Hid ((w4.drewN nq).ownsRow w1.heap.size 115 3 (.slice (some ⟨ab,0,none⟩) N c1) N (dz (kx.set k ⟨xa,xn,xc,bA,max XL fn,⟨ga,gn,gc,gz⟩⟩))):=fA.out;have EI:Hid (∀x∈kx.set k ⟨xa,xn,xc,bA,max XL fn,⟨ga,gn,gc,gz⟩⟩,fo w1 (w4.drewN nq) x):=fun x hx=>(TG.out x hx).below (below_drewN (Below.refl _ _) _);refine ⟨i+1,N,_,c1,_,by omega,by omega,rfl,by go_num,(fun h=>by cases h),?_,?_,TH.out.symm,?_⟩
       ·have h:=(jq.out.stored (k*3+2) (.slice fa fn fc)).1;rw [show (Value.slice fa fn fc)=(⟨fa,fn,fc,fz⟩:Wd).v from rfl,<-alA Ey.out FY.out] at h;exact h
       ·have h1:∀x∈kx.set k ⟨xa,xn,xc,bA,max XL fn,⟨ga,gn,gc,gz⟩⟩,fo w1 ((w4.drewN nq).setCell ⟨ab,k*3+2,none⟩ (.slice fa fn fc)) x:=fun x hx=>(EI.out x hx).row_kept jq.out (dC (w4.drewN nq) ⟨ab,k*3+2,none⟩ _);have h2:=h1 _ acN.out;exact Yv h1 ⟨h2.row,h2.words,vO.out,h2.long⟩
       ·exact Below.setCell (p:=⟨ab,k*3+2,none⟩) (below_drewN gm.out _) (fA.out.lt ab rfl).1 _
      case measure=>simp [intOf];omega
  ·obtain rfl:nb=i:=omg
   have aD:Hid (kds kx=yL (nums xs) (begs (nums xs))):=by
    have h:=gu.out;rw [tol (by rw [dD.out];exact Nat.le_refl _)] at h;exact h
   have bV:Hid (Ks wr a1 N c1 kx):=Ks.of_owns HOW.out (fun x hx=>(Tz.out x hx).good ai.out);have dF:Hid (kx.length=N):=by have h:=HOW.out.1;rw [Bf] at h;show _=_;omega
   have gp:Hid (Below w.heap.size w wr):=HB1.out.trans (ai.out.mono HB1.out.size);have LY:Hid (N<=c1/\c1<=9223372036854775807):=⟨bV.out.2.1,by have h:=bV.out.2.2.1;unfold maxLen at h;omega⟩;clear gu HOW Tz ai Br;generalize wr=wo at *;go_wp2;go_loopw [8,9] (fun ov ix wr=>∃(i N2:Nat) (oa:OAd) (oc:Nat) (outs:List Kw),i<=N/\N2<=i/\ov=.slice oa N2 oc/\ix=.int .i64 (i:Int)/\Hid (Ks wr oa N2 oc outs)/\Hid ((oa=none/\oc=0/\N2=0)\/∃ob,oa=some ⟨ob,0,none⟩)/\Hid (kds outs=((kds kx).take i).foldl ll [])/\Hid (Below wo.heap.size wo wr)) (fun _ ix _=>N-(intOf ix).toNat)
   case atStart=>exact ⟨0,0,none,0,[],Nat.zero_le _,Nat.le_refl _,rfl,rfl,Ks.nil,.inl ⟨rfl,rfl,rfl⟩,rfl,Below.refl _ _⟩
   case round =>
    obtain ⟨i2,N2,oa,oc,outs,hi2,auy,rfl,rfl,vC,BF,BO,vk⟩:=hrel;by_cases hlt2:i2<N
    ·have auz:(i2:Int)<(N:Int):=omg;have TI:Hid ((kx.getD i2 Kw.no).Good wr):=(bV.out.good i2).below vk.out lrf;obtain ⟨x,hx⟩:∃x,kx.getD i2 Kw.no=x:=⟨_,rfl⟩;rw [hx] at TI;have TF:=hdq hx;obtain ⟨ab,ao,xa,xn,xc,bA,XL,ga,gn,gc,gz,rfl,hab,hx0,hx1,hx2,_,_,_,hxe⟩:=bV.out.one i2 hlt2;have hxx:x=⟨xa,xn,xc,bA,XL,⟨ga,gn,gc,gz⟩⟩:=by rw [<-hx];exact hxe
     subst hxx;have YX:Hid (ab<wo.heap.size):=hab
     have HX0:Hid (∀W,Below wo.heap.size wo W->W.cell? ⟨ab,ao+i2*3,none⟩=some (.slice xa xn xc)/\W.cell? ⟨ab,ao+i2*3+1,none⟩=some (.int .i64 (XL:Int))/\W.cell? ⟨ab,ao+i2*3+2,none⟩=some (.slice ga gn gc)):=fun W hW=>by
      refine ⟨?_,?_,?_⟩
      ·rw [hW.cell (p:=⟨ab,ao+i2*3,none⟩) hab];exact hx0
      ·rw [hW.cell (p:=⟨ab,ao+i2*3+1,none⟩) hab];exact hx1
      ·rw [hW.cell (p:=⟨ab,ao+i2*3+2,none⟩) hab];exact hx2
     clear hx hxe hx0 hx1 hx2 hab;have pO:Hid (∀W,Below wr.heap.size wr W->W.cell? ⟨ab,ao+i2*3,none⟩=some (.slice xa xn xc)/\W.cell? ⟨ab,ao+i2*3+1,none⟩=some (.int .i64 (XL:Int))/\W.cell? ⟨ab,ao+i2*3+2,none⟩=some (.slice ga gn gc)):=fun W hW=>HX0.out W (vk.out.trans (hW.mono vk.out.size));generalize wr=wi at *;go_upto_block 4 with fail;go_cut [10] from 84 to 100 (fun v W=>∃t:Nat,t<=N2/\v=.int .i64 (t:Int)/\Hid (∀p,p<t->dw ((kds outs).getD p Kd.no) ⟨nums bA,XL,gz⟩=true)/\Hid (t=N2\/dw ((kds outs).getD t Kd.no) ⟨nums bA,XL,gz⟩=false)/\Hid (Below wi.heap.size wi W))
     case first =>
      go_wp2_with fail;go_loopw [10] (fun ix wr=>∃t:Nat,t<=N2/\ix=.int .i64 (t:Int)/\Hid (∀p,p<t->dw ((kds outs).getD p Kd.no) ⟨nums bA,XL,gz⟩=true)/\Hid (Below wi.heap.size wi wr)) (fun ix _=>N2-(intOf ix).toNat)
      case atStart=>exact ⟨0,Nat.zero_le _,rfl,(fun p hp=>by omega),Below.refl _ _⟩
      case round =>
       obtain ⟨t,ht,rfl,HT,eu⟩:=hrel;have hmx:=gq.out;by_cases hlt3:t<N2
       ·have auA:(t:Int)<(N2:Int):=omg;obtain ⟨ob,oo,ya,yn,yc,yes,YL,ha,hn1,hc,hz,rfl,aQ,hy0,hy1,hy2,KG,hyf,hyl,hye⟩:=vC.out.one t hlt3
        have lU:Hid (∀W,Below wi.heap.size wi W->W.cell? ⟨ob,oo+t*3,none⟩=some (.slice ya yn yc)/\W.cell? ⟨ob,oo+t*3+1,none⟩=some (.int .i64 (YL:Int))/\W.cell? ⟨ob,oo+t*3+2,none⟩=some (.slice ha hn1 hc)):=fun W hW=>by
         refine ⟨?_,?_,?_⟩
         ·rw [hW.cell (p:=⟨ob,oo+t*3,none⟩) aQ];exact hy0
         ·rw [hW.cell (p:=⟨ob,oo+t*3+1,none⟩) aQ];exact hy1
         ·rw [hW.cell (p:=⟨ob,oo+t*3+2,none⟩) aQ];exact hy2
        have LG:Hid (Kw.Good wr ⟨ya,yn,yc,yes,YL,⟨ha,hn1,hc,hz⟩⟩):=Kw.Good.below (w:=wi) ⟨KG,hyf,hyl⟩ eu.out lrf;have Ce:Hid (Kw.Good wr ⟨xa,xn,xc,bA,XL,⟨ga,gn,gc,gz⟩⟩):=TI.out.below eu.out lrf;have hyk:(kds outs).getD t Kd.no=⟨nums yes,YL,hz⟩:=by rw [Ee,hye];rfl
        have ht0:(0:Int)<=(t:Int):=omg;have hi0:(0:Int)<=(i2:Int):=omg;obtain ⟨g,hg⟩:∃g,dw (⟨nums yes,YL,hz⟩:Kd) ⟨nums bA,XL,gz⟩=g:=⟨_,rfl⟩;have HG:Hid (dw (⟨ya,yn,yc,yes,YL,⟨ha,hn1,hc,hz⟩⟩:Kw).k (⟨xa,xn,xc,bA,XL,⟨ga,gn,gc,gz⟩⟩:Kw).k=g):=hg;have HGT:Hid (dw ((kds outs).getD t Kd.no) ⟨nums bA,XL,gz⟩=g):=by show _=_;rw [hyk];exact hg
        clear hy0 hy1 hy2 KG hyf hye hyk hg aQ;go_wp2_with fail;cases g
        ·skip
         refine wp_region_held_drew (S:=(fun W=>(W.cell? ⟨ob,oo+t*3,none⟩=some (.slice ya yn yc)/\W.cell? ⟨ob,oo+t*3+1,none⟩=some (.int .i64 (YL:Int))/\W.cell? ⟨ob,oo+t*3+2,none⟩=some (.slice ha hn1 hc))/\W.cell? ⟨ab,ao+i2*3,none⟩=some (.slice xa xn xc)/\W.cell? ⟨ab,ao+i2*3+1,none⟩=some (.int .i64 (XL:Int))/\W.cell? ⟨ab,ao+i2*3+2,none⟩=some (.slice ga gn gc))) krf (by first|((first|exact ⟨lU.out _ kS,pO.out _ kS⟩|exact ⟨lU.out _ (aG eu.out ⟨1,rfl⟩),pO.out _ (aG eu.out ⟨1,rfl⟩)⟩))|((try dsimp only);(first|exact ⟨lU.out _ kS,pO.out _ kS⟩|exact ⟨lU.out _ (aG eu.out ⟨1,rfl⟩),pO.out _ (aG eu.out ⟨1,rfl⟩)⟩))) (fun hHeld=>?_);refine wpAnyH_take (i:=0) (v:=?auB) rfl krf krf krf (fun _ _ _ h=>h) (Or.inl ⟨by rfl,?aqt⟩) (by assumption) ?auC
         case aqt=>intro w hSw;(try dsimp only at hSw);go_simp;try with_reducible rfl
         simp only [Act.put,List.getElem_toArray,List.getElem_cons_zero,List.setIfInBounds_toArray,List.set_cons_succ,List.set_cons_zero];refine t_h 1 ?_;refine t_h 2 ?_;refine t_h 3 ?_;refine t_h 4 ?_;refine t_h 5 ?_;refine t_h 6 ?_;refine t_h 7 ?_;refine t_h 8 ?_;refine t_h 9 ?_;refine t_h 10 ?_;refine t_h 11 ?_;refine t_h 12 ?_;refine r_h 13 (fun K hK=>?_);go_simp;refine (Yt ⟨ya,yn,yc,yes,YL,⟨ha,hn1,hc,hz⟩⟩ ⟨xa,xn,xc,bA,XL,⟨ga,gn,gc,gz⟩⟩ false wr.drew (Kw.Good.below LG.out (aG (Below.refl _ _) ⟨1,rfl⟩) lrf) (Kw.Good.below Ce.out (aG (Below.refl _ _) ⟨1,rfl⟩) lrf) HG.out).mono ?_;rintro e w6 ⟨rfl,hb6⟩;have kS:Below wi.heap.size wi w6:=(aG eu.out ⟨1,rfl⟩).trans (hb6.mono eu.out.size);refine k_h hK (by (try dsimp only);(first|exact ⟨lU.out _ kS,pO.out _ kS⟩|exact ⟨lU.out _ (aG eu.out ⟨1,rfl⟩),pO.out _ (aG eu.out ⟨1,rfl⟩)⟩)) (fun hHeld=>?_);clear hK K;refine t_h 14 ?_;refine wpAnyH_done krf ?_ _;have bZ:=hdq kS;clear kS hb6 hHeld;go_wp2_with fail;go_meet
         case rel=>exact ⟨t,by omega,rfl,HT.out,.inr HGT.out,bZ.out⟩
        ·skip
         refine wp_region_held_drew (S:=(fun W=>(W.cell? ⟨ob,oo+t*3,none⟩=some (.slice ya yn yc)/\W.cell? ⟨ob,oo+t*3+1,none⟩=some (.int .i64 (YL:Int))/\W.cell? ⟨ob,oo+t*3+2,none⟩=some (.slice ha hn1 hc))/\W.cell? ⟨ab,ao+i2*3,none⟩=some (.slice xa xn xc)/\W.cell? ⟨ab,ao+i2*3+1,none⟩=some (.int .i64 (XL:Int))/\W.cell? ⟨ab,ao+i2*3+2,none⟩=some (.slice ga gn gc))) krf (by first|((first|exact ⟨lU.out _ kS,pO.out _ kS⟩|exact ⟨lU.out _ (aG eu.out ⟨1,rfl⟩),pO.out _ (aG eu.out ⟨1,rfl⟩)⟩))|((try dsimp only);(first|exact ⟨lU.out _ kS,pO.out _ kS⟩|exact ⟨lU.out _ (aG eu.out ⟨1,rfl⟩),pO.out _ (aG eu.out ⟨1,rfl⟩)⟩))) (fun hHeld=>?_);refine wpAnyH_take (i:=0) (v:=?auD) rfl krf krf krf (fun _ _ _ h=>h) (Or.inl ⟨by rfl,?LZ⟩) (by assumption) ?auE
         case LZ=>intro w hSw;(try dsimp only at hSw);go_simp;try with_reducible rfl
         simp only [Act.put,List.getElem_toArray,List.getElem_cons_zero,List.setIfInBounds_toArray,List.set_cons_succ,List.set_cons_zero];refine t_h 1 ?_;refine t_h 2 ?_;refine t_h 3 ?_;refine t_h 4 ?_;refine t_h 5 ?_;refine t_h 6 ?_;refine t_h 7 ?_;refine t_h 8 ?_;refine t_h 9 ?_;refine t_h 10 ?_;refine t_h 11 ?_;refine t_h 12 ?_;refine r_h 13 (fun K hK=>?_);go_simp;refine (Yt ⟨ya,yn,yc,yes,YL,⟨ha,hn1,hc,hz⟩⟩ ⟨xa,xn,xc,bA,XL,⟨ga,gn,gc,gz⟩⟩ true wr.drew (Kw.Good.below LG.out (aG (Below.refl _ _) ⟨1,rfl⟩) lrf) (Kw.Good.below Ce.out (aG (Below.refl _ _) ⟨1,rfl⟩) lrf) HG.out).mono ?_;rintro e w6 ⟨rfl,hb6⟩;have kS:Below wi.heap.size wi w6:=(aG eu.out ⟨1,rfl⟩).trans (hb6.mono eu.out.size);refine k_h hK (by (try dsimp only);(first|exact ⟨lU.out _ kS,pO.out _ kS⟩|exact ⟨lU.out _ (aG eu.out ⟨1,rfl⟩),pO.out _ (aG eu.out ⟨1,rfl⟩)⟩)) (fun hHeld=>?_);clear hK K;refine t_h 14 ?_;refine wpAnyH_done krf ?_ _;have bZ:=hdq kS;clear kS hb6 hHeld;go_wp2;go_roundw
         case rel =>
          refine ⟨t+1,by omega,by go_num,fun p hp=>?_,bZ.out⟩;rcases Nat.lt_or_ge p t with h|h
          ·exact HT.out p h
          ·rw [show p=t by omega];exact HGT.out
         case measure=>simp [intOf];omega
       ·obtain rfl:N2=t:=omg;go_wp2_with fail;go_quiet (fail);go_wp2_with fail;go_meet
        case rel=>exact ⟨N2,Nat.le_refl _,rfl,HT.out,.inl rfl,below_drewN eu.out _⟩
     case rest =>
      obtain ⟨t,ht,rfl,HT,HTX,pK⟩:=hcut;generalize wc=we at *;have Df:Hid (Ks we oa N2 oc outs):=vC.out.below pK.out lrf;have hoc:=Df.out.2.1;have aqv:=Df.out.2.2.1;unfold maxLen at aqv;have ht0:(0:Int)<=(t:Int):=omg;have htN:(t:Int)<=(N2:Int):=omg;have htc:(t:Int)<=(oc:Int):=omg;go_upto_region 20 with fail;go_cut [11] from 101 to 105 (fun v W=>∃ra rc,v=.slice ra (N2-t) rc/\Hid (Ks W ra (N2-t) rc (outs.drop t))/\Hid (Below wi.heap.size wi W))
      case first =>
       have auG:∀o,Hid (Below wi.heap.size wi (we.alloc o)):=fun o=>pK.out.alloc pK.out.size o;have je:=hdq (World.ownsRow_lit (base:=we.heap.size) (e:=115) (size:=3) we #[] 0 lrf (by unfold maxLen;omega) smp);have sF:∀o,Hid (Ks (we.alloc o) oa N2 oc outs):=fun o=>Df.out.below ((Below.refl _ we).alloc lrf o) lrf;have Ma:Hid (∀y∈outs,y.Good wi):=vC.out.2.2.2.1;rcases BF.out with ⟨rfl,rfl,rfl⟩|⟨ob,rfl⟩
       ·obtain rfl:t=0:=omg;obtain rfl:outs=[]:=List.eq_nil_of_length_eq_zero Df.out.1
        go_wp2_with (first
         | (at_builtin
            refine Ps rfq (.tmp 101) (.tmp 104) rfq we.heap.size _ 0 [] rfq je.out none 0 0 [] rfq Ks.nil 0 rfl omg smp ?_;intro a5 c5 w5 hown5 hb5 hg5 iK;have jR:=hdq hown5;have eU:Hid (Below wi.heap.size wi w5):=pK.out.trans ((((Below.refl _ we).alloc lrf _).trans hb5).mono pK.out.size)
            clear hown5 hb5 hg5 iK))
        go_meet
        case rel=>exact ⟨_,_,rfl,Ks.of_owns jR.out (fun y hy=>by cases hy),eU.out⟩
       ·by_cases hct:oc=t
        ·obtain rfl:N2=t:=omg;subst hct;have hdr:outs.drop oc=[]:=by rw [List.drop_eq_nil_iff,Df.out.1];exact Nat.le_refl _
         have HDR:=hdq hdr;clear hdr
         go_wp2_with (first
          | (at_builtin
             refine Ps rfq (.tmp 101) (.tmp 104) rfq we.heap.size _ 0 [] rfq je.out _ 0 0 [] rfq Ks.none_at 0 rfl omg smp ?_;intro a5 c5 w5 hown5 hb5 hg5 iK;have jR:=hdq hown5;have eU:Hid (Below wi.heap.size wi w5):=pK.out.trans ((((Below.refl _ we).alloc lrf _).trans hb5).mono pK.out.size)
             clear hown5 hb5 hg5 iK))
         go_meet
         case rel=>exact ⟨a5,c5,by rw [Nat.sub_self],by rw [HDR.out,Nat.sub_self];exact Ks.of_owns jR.out (fun y hy=>by cases hy),eU.out⟩
        ·go_wp2_with (first
          | (at_builtin
             refine Ps rfq (.tmp 101) (.tmp 104) rfq we.heap.size _ 0 [] rfq je.out (some ⟨ob,t*3,none⟩) (N2-t) (oc-t) (outs.drop t) rfq ((sF _).out.behind ht omg rfl rfl) (N2-t) omg omg smp ?_;intro a5 c5 w5 hown5 hb5 hg5 iK;have jR:=hdq hown5;have eU:Hid (Below wi.heap.size wi w5):=pK.out.trans ((((Below.refl _ we).alloc lrf _).trans hb5).mono pK.out.size)
             clear hown5 hb5 hg5 iK))
         go_meet
         case rel=>exact ⟨a5,c5,rfl,Ks.of_owns jR.out (fun y hy=>(Ma.out y (List.mem_of_mem_drop (by simpa using hy))).below eU.out lrf),eU.out⟩
      case rest =>
       obtain ⟨ra,rc,rfl,PZ,il⟩:=hcut;have eT:Hid (Below wi.heap.size wi wc.drew):=aG il.out ⟨1,rfl⟩;have bG:Hid (Below wo.heap.size wo wc.drew):=vk.out.trans (eT.out.mono vk.out.size);have iH:Hid (Kw.Good wc.drew ⟨xa,xn,xc,bA,XL,⟨ga,gn,gc,gz⟩⟩):=TI.out.below eT.out lrf;have tT:Hid (Ks wc.drew ra (N2-t) rc (outs.drop t)):=PZ.out;have ag:Hid (∀W,Below wc.drew.heap.size wc.drew W->W.cell? ⟨ab,ao+i2*3,none⟩=some (.slice xa xn xc)/\W.cell? ⟨ab,ao+i2*3+1,none⟩=some (.int .i64 (XL:Int))/\W.cell? ⟨ab,ao+i2*3+2,none⟩=some (.slice ga gn gc)):=fun W hW=>pO.out W (eT.out.trans (hW.mono eT.out.size));have Ma:Hid (∀y∈outs,y.Good wi):=vC.out.2.2.2.1
       have Dg:Hid (∀y∈outs.take t++[(⟨xa,xn,xc,bA,XL,⟨ga,gn,gc,gz⟩⟩:Kw)]++outs.drop t,y.Good wc.drew):=fun y hy=>by
        rcases map1 hy with hy|hy
        ·rcases map1 hy with hy|hy
         ·exact (Ma.out y (List.mem_of_mem_take hy)).below eT.out lrf
         ·rw [msg hy];exact iH.out
        ·exact (Ma.out y (List.mem_of_mem_drop hy)).below eT.out lrf
       have fD:Hid (((kds kx).take (i2+1)).foldl ll []=ll (kds outs) ⟨nums bA,XL,gz⟩):=by
        show _=_;have hil:i2<(kds kx).length:=by rw [Be,dF.out];exact hlt2
        rw [tsa hil,List.foldl_append,<-BO.out]
        have e:(kds kx)[i2]=⟨nums bA,XL,gz⟩:=by
         have h:=Ee kx i2;rw [TF.out,gdq,geg hil,Option.getD_some] at h;exact h
        rw [e];rfl
       have Dh:Hid (kds (outs.take t++[(⟨xa,xn,xc,bA,XL,⟨ga,gn,gc,gz⟩⟩:Kw)]++outs.drop t)=ll (kds outs) ⟨nums bA,XL,gz⟩):=by
        show _=_;have hol:(kds outs).length=N2:=by rw [Be,Df.out.1]
        rw [alB (by rw [hol];exact ht) HT.out (by rw [hol];exact HTX.out),Pn,Pn,alC,alD,List.append_assoc];rfl
       have hmx:=gq.out;have hi0:(0:Int)<=(i2:Int):=omg;rcases BF.out with ⟨rfl,rfl,rfl⟩|⟨ob,rfl⟩
       ·obtain rfl:t=0:=omg;have Af:Hid (∀W,Below wc.drew.heap.size wc.drew W->Ks W none 0 0 (outs.take 0)):=fun W hW=>((vC.out.below (eT.out.trans (hW.mono eT.out.size)) lrf).first (Nat.zero_le _));go_wp2_with fail;refine wp_region_held_drew (S:=(fun W=>W.cell? ⟨ab,ao+i2*3,none⟩=some (.slice xa xn xc)/\W.cell? ⟨ab,ao+i2*3+1,none⟩=some (.int .i64 (XL:Int))/\W.cell? ⟨ab,ao+i2*3+2,none⟩=some (.slice ga gn gc))) krf (by first|((first|exact ag.out _ cz|exact ag.out _ hbS|exact ag.out _ hbR|exact ag.out _ aX|exact ag.out _ aY|exact ag.out _ (Below.refl _ _)))|((try dsimp only);(first|exact ag.out _ cz|exact ag.out _ hbS|exact ag.out _ hbR|exact ag.out _ aX|exact ag.out _ aY|exact ag.out _ (Below.refl _ _)))) (fun hHeld=>?_);refine t_h 1 ?_;refine t_h 2 ?_;refine t_h 3 ?_;refine t_h 5 ?_;refine t_h 6 ?_;refine t_h 7 ?_;refine t_h 8 ?_;refine t_h 11 ?_;refine fT 0 9 (fun K hK=>?_) (fun K hK=>?_)
        ·refine JO rfq rfq ?_;intro wP sI vS;have aY:Below wc.drew.heap.size wc.drew wP:=(Below.refl wc.drew.heap.size wc.drew).trans (vS.mono (Below.refl wc.drew.heap.size wc.drew).size);have vT:=lW sI (show wc.drew.heap.size<=_ from (Below.refl wc.drew.heap.size wc.drew).size);refine hK.out _ _ (by (try dsimp only);(first|exact ag.out _ cz|exact ag.out _ hbS|exact ag.out _ hbR|exact ag.out _ aX|exact ag.out _ aY|exact ag.out _ (Below.refl _ _))) (fun hHeld=>?_);clear hK K
         try simp only [Act.put,List.getElem_toArray,List.getElem_cons_zero,List.setIfInBounds_toArray,List.set_cons_succ,List.set_cons_zero]
         refine fT 4 9 (fun K hK=>?_) (fun K hK=>?_)
         ·refine jO rfq (.tmp 106) (.tmp 109) rfq wc.drew.heap.size _ 0 [] rfq vT none 0 0 (outs.take 0) rfq (Af.out _ aY) 0 omg omg aY.size ?_;intro aR cR wR sJ sK hgR hnR;have hbR:Below wc.drew.heap.size wc.drew wR:=aY.trans sK;refine k_h hK (by (try dsimp only);(first|exact ag.out _ cz|exact ag.out _ hbS|exact ag.out _ hbR|exact ag.out _ aX|exact ag.out _ aY|exact ag.out _ (Below.refl _ _))) (fun hHeld=>?_);clear hK K;refine r_h 9 (fun K hK=>?_);refine Bh rfq (.tmp 114) ⟨xa,xn,xc,bA,XL,⟨ga,gn,gc,gz⟩⟩ rfq rfq ?_;intro wQ mV sM sN jk;have aX:Below wc.drew.heap.size wc.drew wQ:=hbR.trans (jk.mono hbR.size);have sO:=Ks.single (iH.out.below hbR lrf) mV sM sN jk;have Ag:=ownsRow_below sJ jk lrf;refine k_h hK (by (try dsimp only);(first|exact ag.out _ cz|exact ag.out _ hbS|exact ag.out _ hbR|exact ag.out _ aX|exact ag.out _ aY|exact ag.out _ (Below.refl _ _))) (fun hHeld=>?_);clear hK K;refine r_h 10 (fun K hK=>?_);refine jO rfq (.tmp 110) (.tmp 115) rfq wc.drew.heap.size _ 0 (outs.take 0) rfq Ag _ 1 1 [⟨xa,xn,xc,bA,XL,⟨ga,gn,gc,gz⟩⟩] rfq sO (0+1) rfl omg aX.size ?_;intro aS cS wS nP sP Ib Ic;have hbS:Below wc.drew.heap.size wc.drew wS:=aX.trans sP;refine k_h hK (by (try dsimp only);(first|exact ag.out _ cz|exact ag.out _ hbS|exact ag.out _ hbR|exact ag.out _ aX|exact ag.out _ aY|exact ag.out _ (Below.refl _ _))) (fun hHeld=>?_);clear hK K;refine r_h 12 (fun K hK=>?_);refine jO rfq (.tmp 116) (.tmp 117) rfq wc.drew.heap.size _ (0+1) _ rfq nP ra (0-0) rc (outs.drop 0) rfq (tT.out.below hbS lrf) (0+1) omg omg hbS.size ?_;intro aT cT wT sQ iL Ie Ig;have cz:Below wc.drew.heap.size wc.drew wT:=hbS.trans iL;refine k_h hK (by (try dsimp only);(first|exact ag.out _ cz|exact ag.out _ hbS|exact ag.out _ hbR|exact ag.out _ aX|exact ag.out _ aY|exact ag.out _ (Below.refl _ _))) (fun hHeld=>?_);clear hK K;refine t_h 13 ?_;refine wpAnyH_done krf ?_ _;have kT:=hdq sQ;have kU:=hdq cz;clear hHeld;go_wp2;go_roundw
          case rel=>exact ⟨i2+1,0+1,aT,cT,_,by omega,by omega,rfl,by go_num,Ks.of_owns kT.out (fun y hy=>(Dg.out y hy).below kU.out lrf),.inr (nY kT.out (Nat.succ_pos _)),(by show _=_;rw [fD.out];exact Dh.out),bG.out.trans (kU.out.mono bG.out.size)⟩
          case measure=>simp [intOf];omega
         ·refine Bh rfq (.tmp 114) ⟨xa,xn,xc,bA,XL,⟨ga,gn,gc,gz⟩⟩ rfq rfq ?_;intro wQ mV sM sN jk;have aX:Below wc.drew.heap.size wc.drew wQ:=aY.trans (jk.mono aY.size);have sO:=Ks.single (iH.out.below aY lrf) mV sM sN jk;have Ag:=ownsRow_below vT jk lrf;refine k_h hK (by (try dsimp only);(first|exact ag.out _ cz|exact ag.out _ hbS|exact ag.out _ hbR|exact ag.out _ aX|exact ag.out _ aY|exact ag.out _ (Below.refl _ _))) (fun hHeld=>?_);clear hK K;refine r_h 4 (fun K hK=>?_);refine jO rfq (.tmp 106) (.tmp 109) rfq wc.drew.heap.size _ 0 [] rfq Ag none 0 0 (outs.take 0) rfq (Af.out _ aX) 0 omg omg aX.size ?_;intro aR cR wR sJ sK hgR hnR;have hbR:Below wc.drew.heap.size wc.drew wR:=aX.trans sK;have Ah:Ks wR (some ⟨wP.heap.size,0,none⟩) 1 1 [⟨xa,xn,xc,bA,XL,⟨ga,gn,gc,gz⟩⟩]:=JP sO (iH.out.below hbR lrf) hgR (by intro e;have e':wP.heap.size=wc.drew.heap.size:=Option.some.inj e;have h1:wc.drew.heap.size<wP.heap.size:=(sI.lt _ rfl).2;have h2:=bQ mV;omega);refine k_h hK (by (try dsimp only);(first|exact ag.out _ cz|exact ag.out _ hbS|exact ag.out _ hbR|exact ag.out _ aX|exact ag.out _ aY|exact ag.out _ (Below.refl _ _))) (fun hHeld=>?_);clear hK K;refine r_h 10 (fun K hK=>?_);refine jO rfq (.tmp 110) (.tmp 115) rfq wc.drew.heap.size _ 0 (outs.take 0) rfq sJ _ 1 1 [⟨xa,xn,xc,bA,XL,⟨ga,gn,gc,gz⟩⟩] rfq Ah (0+1) rfl omg hbR.size ?_;intro aS cS wS nP sP Ib Ic;have hbS:Below wc.drew.heap.size wc.drew wS:=hbR.trans sP;refine k_h hK (by (try dsimp only);(first|exact ag.out _ cz|exact ag.out _ hbS|exact ag.out _ hbR|exact ag.out _ aX|exact ag.out _ aY|exact ag.out _ (Below.refl _ _))) (fun hHeld=>?_);clear hK K;refine r_h 12 (fun K hK=>?_);refine jO rfq (.tmp 116) (.tmp 117) rfq wc.drew.heap.size _ (0+1) _ rfq nP ra (0-0) rc (outs.drop 0) rfq (tT.out.below hbS lrf) (0+1) omg omg hbS.size ?_;intro aT cT wT sQ iL Ie Ig;have cz:Below wc.drew.heap.size wc.drew wT:=hbS.trans iL;refine k_h hK (by (try dsimp only);(first|exact ag.out _ cz|exact ag.out _ hbS|exact ag.out _ hbR|exact ag.out _ aX|exact ag.out _ aY|exact ag.out _ (Below.refl _ _))) (fun hHeld=>?_);clear hK K;refine t_h 13 ?_;refine wpAnyH_done krf ?_ _;have kT:=hdq sQ;have kU:=hdq cz;clear hHeld;go_wp2;go_roundw
          case rel=>exact ⟨i2+1,0+1,aT,cT,_,by omega,by omega,rfl,by go_num,Ks.of_owns kT.out (fun y hy=>(Dg.out y hy).below kU.out lrf),.inr (nY kT.out (Nat.succ_pos _)),(by show _=_;rw [fD.out];exact Dh.out),bG.out.trans (kU.out.mono bG.out.size)⟩
          case measure=>simp [intOf];omega
        ·refine Bh rfq (.tmp 114) ⟨xa,xn,xc,bA,XL,⟨ga,gn,gc,gz⟩⟩ rfq rfq ?_;intro wQ mV sM sN jk;have aX:Below wc.drew.heap.size wc.drew wQ:=(Below.refl wc.drew.heap.size wc.drew).trans (jk.mono (Below.refl wc.drew.heap.size wc.drew).size);have sO:=Ks.single (iH.out.below (Below.refl wc.drew.heap.size wc.drew) lrf) mV sM sN jk;refine k_h hK (by (try dsimp only);(first|exact ag.out _ cz|exact ag.out _ hbS|exact ag.out _ hbR|exact ag.out _ aX|exact ag.out _ aY|exact ag.out _ (Below.refl _ _))) (fun hHeld=>?_);clear hK K;refine r_h 0 (fun K hK=>?_);refine JO rfq rfq ?_;intro wP sI vS;have aY:Below wc.drew.heap.size wc.drew wP:=aX.trans (vS.mono aX.size);have vT:=lW sI (show wc.drew.heap.size<=_ from aX.size);have TJ:Ks wP (some ⟨wc.drew.heap.size,0,none⟩) 1 1 [⟨xa,xn,xc,bA,XL,⟨ga,gn,gc,gz⟩⟩]:=sO.below vS lrf;refine hK.out _ _ (by (try dsimp only);(first|exact ag.out _ cz|exact ag.out _ hbS|exact ag.out _ hbR|exact ag.out _ aX|exact ag.out _ aY|exact ag.out _ (Below.refl _ _))) (fun hHeld=>?_);clear hK K
         try simp only [Act.put,List.getElem_toArray,List.getElem_cons_zero,List.setIfInBounds_toArray,List.set_cons_succ,List.set_cons_zero]
         refine r_h 4 (fun K hK=>?_);refine jO rfq (.tmp 106) (.tmp 109) rfq wc.drew.heap.size _ 0 [] rfq vT none 0 0 (outs.take 0) rfq (Af.out _ aY) 0 omg omg aY.size ?_;intro aR cR wR sJ sK hgR hnR;have hbR:Below wc.drew.heap.size wc.drew wR:=aY.trans sK;have Ah:Ks wR (some ⟨wc.drew.heap.size,0,none⟩) 1 1 [⟨xa,xn,xc,bA,XL,⟨ga,gn,gc,gz⟩⟩]:=JP TJ (iH.out.below hbR lrf) hgR (by intro e;have e':wc.drew.heap.size=wQ.heap.size:=Option.some.inj e;have h1:wQ.heap.size<wP.heap.size:=(sI.lt _ rfl).2;have h2:=bQ mV;omega);refine k_h hK (by (try dsimp only);(first|exact ag.out _ cz|exact ag.out _ hbS|exact ag.out _ hbR|exact ag.out _ aX|exact ag.out _ aY|exact ag.out _ (Below.refl _ _))) (fun hHeld=>?_);clear hK K;refine r_h 10 (fun K hK=>?_);refine jO rfq (.tmp 110) (.tmp 115) rfq wc.drew.heap.size _ 0 (outs.take 0) rfq sJ _ 1 1 [⟨xa,xn,xc,bA,XL,⟨ga,gn,gc,gz⟩⟩] rfq Ah (0+1) rfl omg hbR.size ?_;intro aS cS wS nP sP Ib Ic;have hbS:Below wc.drew.heap.size wc.drew wS:=hbR.trans sP;refine k_h hK (by (try dsimp only);(first|exact ag.out _ cz|exact ag.out _ hbS|exact ag.out _ hbR|exact ag.out _ aX|exact ag.out _ aY|exact ag.out _ (Below.refl _ _))) (fun hHeld=>?_);clear hK K;refine r_h 12 (fun K hK=>?_);refine jO rfq (.tmp 116) (.tmp 117) rfq wc.drew.heap.size _ (0+1) _ rfq nP ra (0-0) rc (outs.drop 0) rfq (tT.out.below hbS lrf) (0+1) omg omg hbS.size ?_;intro aT cT wT sQ iL Ie Ig;have cz:Below wc.drew.heap.size wc.drew wT:=hbS.trans iL;refine k_h hK (by (try dsimp only);(first|exact ag.out _ cz|exact ag.out _ hbS|exact ag.out _ hbR|exact ag.out _ aX|exact ag.out _ aY|exact ag.out _ (Below.refl _ _))) (fun hHeld=>?_);clear hK K;refine t_h 13 ?_;refine wpAnyH_done krf ?_ _;have kT:=hdq sQ;have kU:=hdq cz;clear hHeld;go_wp2;go_roundw
         case rel=>exact ⟨i2+1,0+1,aT,cT,_,by omega,by omega,rfl,by go_num,Ks.of_owns kT.out (fun y hy=>(Dg.out y hy).below kU.out lrf),.inr (nY kT.out (Nat.succ_pos _)),(by show _=_;rw [fD.out];exact Dh.out),bG.out.trans (kU.out.mono bG.out.size)⟩
         case measure=>simp [intOf];omega
       ·have Af:Hid (∀W,Below wc.drew.heap.size wc.drew W->Ks W (some ⟨ob,0,none⟩) t oc (outs.take t)):=fun W hW=>((vC.out.below (eT.out.trans (hW.mono eT.out.size)) lrf).first ht);go_wp2_with fail;refine wp_region_held_drew (S:=(fun W=>W.cell? ⟨ab,ao+i2*3,none⟩=some (.slice xa xn xc)/\W.cell? ⟨ab,ao+i2*3+1,none⟩=some (.int .i64 (XL:Int))/\W.cell? ⟨ab,ao+i2*3+2,none⟩=some (.slice ga gn gc))) krf (by first|((first|exact ag.out _ cz|exact ag.out _ hbS|exact ag.out _ hbR|exact ag.out _ aX|exact ag.out _ aY|exact ag.out _ (Below.refl _ _)))|((try dsimp only);(first|exact ag.out _ cz|exact ag.out _ hbS|exact ag.out _ hbR|exact ag.out _ aX|exact ag.out _ aY|exact ag.out _ (Below.refl _ _)))) (fun hHeld=>?_);refine t_h 1 ?_;refine t_h 2 ?_;refine t_h 3 ?_;refine t_h 5 ?_;refine t_h 6 ?_;refine t_h 7 ?_;refine t_h 8 ?_;refine t_h 11 ?_;refine fT 0 9 (fun K hK=>?_) (fun K hK=>?_)
        ·refine JO rfq rfq ?_;intro wP sI vS;have aY:Below wc.drew.heap.size wc.drew wP:=(Below.refl wc.drew.heap.size wc.drew).trans (vS.mono (Below.refl wc.drew.heap.size wc.drew).size);have vT:=lW sI (show wc.drew.heap.size<=_ from (Below.refl wc.drew.heap.size wc.drew).size);refine hK.out _ _ (by (try dsimp only);(first|exact ag.out _ cz|exact ag.out _ hbS|exact ag.out _ hbR|exact ag.out _ aX|exact ag.out _ aY|exact ag.out _ (Below.refl _ _))) (fun hHeld=>?_);clear hK K
         try simp only [Act.put,List.getElem_toArray,List.getElem_cons_zero,List.setIfInBounds_toArray,List.set_cons_succ,List.set_cons_zero]
         refine fT 4 9 (fun K hK=>?_) (fun K hK=>?_)
         ·refine jO rfq (.tmp 106) (.tmp 109) rfq wc.drew.heap.size _ 0 [] rfq vT (some ⟨ob,0,none⟩) t oc (outs.take t) rfq (Af.out _ aY) t omg omg aY.size ?_;intro aR cR wR sJ sK hgR hnR;have hbR:Below wc.drew.heap.size wc.drew wR:=aY.trans sK;refine k_h hK (by (try dsimp only);(first|exact ag.out _ cz|exact ag.out _ hbS|exact ag.out _ hbR|exact ag.out _ aX|exact ag.out _ aY|exact ag.out _ (Below.refl _ _))) (fun hHeld=>?_);clear hK K;refine r_h 9 (fun K hK=>?_);refine Bh rfq (.tmp 114) ⟨xa,xn,xc,bA,XL,⟨ga,gn,gc,gz⟩⟩ rfq rfq ?_;intro wQ mV sM sN jk;have aX:Below wc.drew.heap.size wc.drew wQ:=hbR.trans (jk.mono hbR.size);have sO:=Ks.single (iH.out.below hbR lrf) mV sM sN jk;have Ag:=ownsRow_below sJ jk lrf;refine k_h hK (by (try dsimp only);(first|exact ag.out _ cz|exact ag.out _ hbS|exact ag.out _ hbR|exact ag.out _ aX|exact ag.out _ aY|exact ag.out _ (Below.refl _ _))) (fun hHeld=>?_);clear hK K;refine r_h 10 (fun K hK=>?_);refine jO rfq (.tmp 110) (.tmp 115) rfq wc.drew.heap.size _ t (outs.take t) rfq Ag _ 1 1 [⟨xa,xn,xc,bA,XL,⟨ga,gn,gc,gz⟩⟩] rfq sO (t+1) rfl omg aX.size ?_;intro aS cS wS nP sP Ib Ic;have hbS:Below wc.drew.heap.size wc.drew wS:=aX.trans sP;refine k_h hK (by (try dsimp only);(first|exact ag.out _ cz|exact ag.out _ hbS|exact ag.out _ hbR|exact ag.out _ aX|exact ag.out _ aY|exact ag.out _ (Below.refl _ _))) (fun hHeld=>?_);clear hK K;refine r_h 12 (fun K hK=>?_);refine jO rfq (.tmp 116) (.tmp 117) rfq wc.drew.heap.size _ (t+1) _ rfq nP ra (N2-t) rc (outs.drop t) rfq (tT.out.below hbS lrf) (N2+1) omg omg hbS.size ?_;intro aT cT wT sQ iL Ie Ig;have cz:Below wc.drew.heap.size wc.drew wT:=hbS.trans iL;refine k_h hK (by (try dsimp only);(first|exact ag.out _ cz|exact ag.out _ hbS|exact ag.out _ hbR|exact ag.out _ aX|exact ag.out _ aY|exact ag.out _ (Below.refl _ _))) (fun hHeld=>?_);clear hK K;refine t_h 13 ?_;refine wpAnyH_done krf ?_ _;have kT:=hdq sQ;have kU:=hdq cz;clear hHeld;go_wp2;go_roundw
          case rel=>exact ⟨i2+1,N2+1,aT,cT,_,by omega,by omega,rfl,by go_num,Ks.of_owns kT.out (fun y hy=>(Dg.out y hy).below kU.out lrf),.inr (nY kT.out (Nat.succ_pos _)),(by show _=_;rw [fD.out];exact Dh.out),bG.out.trans (kU.out.mono bG.out.size)⟩
          case measure=>simp [intOf];omega
         ·refine Bh rfq (.tmp 114) ⟨xa,xn,xc,bA,XL,⟨ga,gn,gc,gz⟩⟩ rfq rfq ?_;intro wQ mV sM sN jk;have aX:Below wc.drew.heap.size wc.drew wQ:=aY.trans (jk.mono aY.size);have sO:=Ks.single (iH.out.below aY lrf) mV sM sN jk;have Ag:=ownsRow_below vT jk lrf;refine k_h hK (by (try dsimp only);(first|exact ag.out _ cz|exact ag.out _ hbS|exact ag.out _ hbR|exact ag.out _ aX|exact ag.out _ aY|exact ag.out _ (Below.refl _ _))) (fun hHeld=>?_);clear hK K;refine r_h 4 (fun K hK=>?_);refine jO rfq (.tmp 106) (.tmp 109) rfq wc.drew.heap.size _ 0 [] rfq Ag (some ⟨ob,0,none⟩) t oc (outs.take t) rfq (Af.out _ aX) t omg omg aX.size ?_;intro aR cR wR sJ sK hgR hnR;have hbR:Below wc.drew.heap.size wc.drew wR:=aX.trans sK;have Ah:Ks wR (some ⟨wP.heap.size,0,none⟩) 1 1 [⟨xa,xn,xc,bA,XL,⟨ga,gn,gc,gz⟩⟩]:=JP sO (iH.out.below hbR lrf) hgR (by intro e;have e':wP.heap.size=wc.drew.heap.size:=Option.some.inj e;have h1:wc.drew.heap.size<wP.heap.size:=(sI.lt _ rfl).2;have h2:=bQ mV;omega);refine k_h hK (by (try dsimp only);(first|exact ag.out _ cz|exact ag.out _ hbS|exact ag.out _ hbR|exact ag.out _ aX|exact ag.out _ aY|exact ag.out _ (Below.refl _ _))) (fun hHeld=>?_);clear hK K;refine r_h 10 (fun K hK=>?_);refine jO rfq (.tmp 110) (.tmp 115) rfq wc.drew.heap.size _ t (outs.take t) rfq sJ _ 1 1 [⟨xa,xn,xc,bA,XL,⟨ga,gn,gc,gz⟩⟩] rfq Ah (t+1) rfl omg hbR.size ?_;intro aS cS wS nP sP Ib Ic;have hbS:Below wc.drew.heap.size wc.drew wS:=hbR.trans sP;refine k_h hK (by (try dsimp only);(first|exact ag.out _ cz|exact ag.out _ hbS|exact ag.out _ hbR|exact ag.out _ aX|exact ag.out _ aY|exact ag.out _ (Below.refl _ _))) (fun hHeld=>?_);clear hK K;refine r_h 12 (fun K hK=>?_);refine jO rfq (.tmp 116) (.tmp 117) rfq wc.drew.heap.size _ (t+1) _ rfq nP ra (N2-t) rc (outs.drop t) rfq (tT.out.below hbS lrf) (N2+1) omg omg hbS.size ?_;intro aT cT wT sQ iL Ie Ig;have cz:Below wc.drew.heap.size wc.drew wT:=hbS.trans iL;refine k_h hK (by (try dsimp only);(first|exact ag.out _ cz|exact ag.out _ hbS|exact ag.out _ hbR|exact ag.out _ aX|exact ag.out _ aY|exact ag.out _ (Below.refl _ _))) (fun hHeld=>?_);clear hK K;refine t_h 13 ?_;refine wpAnyH_done krf ?_ _;have kT:=hdq sQ;have kU:=hdq cz;clear hHeld;go_wp2;go_roundw
          case rel=>exact ⟨i2+1,N2+1,aT,cT,_,by omega,by omega,rfl,by go_num,Ks.of_owns kT.out (fun y hy=>(Dg.out y hy).below kU.out lrf),.inr (nY kT.out (Nat.succ_pos _)),(by show _=_;rw [fD.out];exact Dh.out),bG.out.trans (kU.out.mono bG.out.size)⟩
          case measure=>simp [intOf];omega
        ·refine Bh rfq (.tmp 114) ⟨xa,xn,xc,bA,XL,⟨ga,gn,gc,gz⟩⟩ rfq rfq ?_;intro wQ mV sM sN jk;have aX:Below wc.drew.heap.size wc.drew wQ:=(Below.refl wc.drew.heap.size wc.drew).trans (jk.mono (Below.refl wc.drew.heap.size wc.drew).size);have sO:=Ks.single (iH.out.below (Below.refl wc.drew.heap.size wc.drew) lrf) mV sM sN jk;refine k_h hK (by (try dsimp only);(first|exact ag.out _ cz|exact ag.out _ hbS|exact ag.out _ hbR|exact ag.out _ aX|exact ag.out _ aY|exact ag.out _ (Below.refl _ _))) (fun hHeld=>?_);clear hK K;refine r_h 0 (fun K hK=>?_);refine JO rfq rfq ?_;intro wP sI vS;have aY:Below wc.drew.heap.size wc.drew wP:=aX.trans (vS.mono aX.size);have vT:=lW sI (show wc.drew.heap.size<=_ from aX.size);have TJ:Ks wP (some ⟨wc.drew.heap.size,0,none⟩) 1 1 [⟨xa,xn,xc,bA,XL,⟨ga,gn,gc,gz⟩⟩]:=sO.below vS lrf;refine hK.out _ _ (by (try dsimp only);(first|exact ag.out _ cz|exact ag.out _ hbS|exact ag.out _ hbR|exact ag.out _ aX|exact ag.out _ aY|exact ag.out _ (Below.refl _ _))) (fun hHeld=>?_);clear hK K
         try simp only [Act.put,List.getElem_toArray,List.getElem_cons_zero,List.setIfInBounds_toArray,List.set_cons_succ,List.set_cons_zero]
         refine r_h 4 (fun K hK=>?_);refine jO rfq (.tmp 106) (.tmp 109) rfq wc.drew.heap.size _ 0 [] rfq vT (some ⟨ob,0,none⟩) t oc (outs.take t) rfq (Af.out _ aY) t omg omg aY.size ?_;intro aR cR wR sJ sK hgR hnR;have hbR:Below wc.drew.heap.size wc.drew wR:=aY.trans sK;have Ah:Ks wR (some ⟨wc.drew.heap.size,0,none⟩) 1 1 [⟨xa,xn,xc,bA,XL,⟨ga,gn,gc,gz⟩⟩]:=JP TJ (iH.out.below hbR lrf) hgR (by intro e;have e':wc.drew.heap.size=wQ.heap.size:=Option.some.inj e;have h1:wQ.heap.size<wP.heap.size:=(sI.lt _ rfl).2;have h2:=bQ mV;omega);refine k_h hK (by (try dsimp only);(first|exact ag.out _ cz|exact ag.out _ hbS|exact ag.out _ hbR|exact ag.out _ aX|exact ag.out _ aY|exact ag.out _ (Below.refl _ _))) (fun hHeld=>?_);clear hK K;refine r_h 10 (fun K hK=>?_);refine jO rfq (.tmp 110) (.tmp 115) rfq wc.drew.heap.size _ t (outs.take t) rfq sJ _ 1 1 [⟨xa,xn,xc,bA,XL,⟨ga,gn,gc,gz⟩⟩] rfq Ah (t+1) rfl omg hbR.size ?_;intro aS cS wS nP sP Ib Ic;have hbS:Below wc.drew.heap.size wc.drew wS:=hbR.trans sP;refine k_h hK (by (try dsimp only);(first|exact ag.out _ cz|exact ag.out _ hbS|exact ag.out _ hbR|exact ag.out _ aX|exact ag.out _ aY|exact ag.out _ (Below.refl _ _))) (fun hHeld=>?_);clear hK K;refine r_h 12 (fun K hK=>?_);refine jO rfq (.tmp 116) (.tmp 117) rfq wc.drew.heap.size _ (t+1) _ rfq nP ra (N2-t) rc (outs.drop t) rfq (tT.out.below hbS lrf) (N2+1) omg omg hbS.size ?_;intro aT cT wT sQ iL Ie Ig;have cz:Below wc.drew.heap.size wc.drew wT:=hbS.trans iL;refine k_h hK (by (try dsimp only);(first|exact ag.out _ cz|exact ag.out _ hbS|exact ag.out _ hbR|exact ag.out _ aX|exact ag.out _ aY|exact ag.out _ (Below.refl _ _))) (fun hHeld=>?_);clear hK K;refine t_h 13 ?_;refine wpAnyH_done krf ?_ _;have kT:=hdq sQ;have kU:=hdq cz;clear hHeld;go_wp2;go_roundw
         case rel=>exact ⟨i2+1,N2+1,aT,cT,_,by omega,by omega,rfl,by go_num,Ks.of_owns kT.out (fun y hy=>(Dg.out y hy).below kU.out lrf),.inr (nY kT.out (Nat.succ_pos _)),(by show _=_;rw [fD.out];exact Dh.out),bG.out.trans (kU.out.mono bG.out.size)⟩
         case measure=>simp [intOf];omega
    ·obtain rfl:N=i2:=omg;go_wp2;go_ret;refine ⟨oa,N2,oc,outs,rfl,vC.out,?_,?_,gp.out.trans (vk.out.mono gp.out.size)⟩
     ·rw [BO.out,tol (by rw [Be,dF.out];exact Nat.le_refl _),aD.out];rfl
     ·intro e;rcases BF.out with ⟨_,h,_⟩|⟨ob,h⟩
      ·exact h
      ·rw [h] at e;cases e

end
section
open Go.RowKit Tri Daw

structure Sr (w:World) (B:Nat) (sa:OAd) (N c:Nat) (outs:List Sw):Prop where
 row:w.ownsRow B 58 2 (.slice sa N c) N (bT outs)
 arcs:∀x∈outs,w.ownsRow B 95 2 x.s x.n (aL x.arcs)
 wfs:∀x∈outs,∀y∈x.arcs,(Lit.int .i64 y.1).wf=true/\(Lit.int .i64 y.2).wf=true
 apart:outs.Pairwise fun x y=>x.s.ownBlock=none\/x.s.ownBlock≠y.s.ownBlock
theorem Sr.len {w:World} {B N c:Nat} {sa:OAd} {outs:List Sw} (h:Sr w B sa N c outs):outs.length=N:=by
 have:=h.row.1;rw [yx] at this;omega
theorem Sr.kept {w w':World} {B N c:Nat} {sa:OAd} {outs:List Sw} {row:Option Nat} (h:Sr w B sa N c outs) (hg:w.grownBy w' row) (h3:(Value.slice sa N c).ownBlock=none\/(Value.slice sa N c).ownBlock≠row) (h4:∀x∈outs,x.s.ownBlock=none\/x.s.ownBlock≠row):Sr w' B sa N c outs :=
 ⟨h.row.kept hg h3,fun x hx=>(h.arcs x hx).kept hg (h4 x hx),h.wfs,h.apart⟩
theorem Sr.grow {w w':World} {B N c:Nat} {sa:OAd} {outs:List Sw} (h:Sr w B sa N c outs) (hg:w.grownBy w' none):Sr w' B sa N c outs:=h.kept hg (or_none _) (fun _ _=>or_none _)
theorem Sr.below {w w':World} {B N c:Nat} {sa:OAd} {outs:List Sw} (h:Sr w B sa N c outs) (hb:Below w.heap.size w w'):Sr w' B sa N c outs:=h.grow ⟨hb.os,hb.tape,hb.output,hb.size,fun k hk _=>hb.block k hk⟩
theorem Sr.states {w:World} {B N c:Nat} {sa:OAd} {outs:List Sw} (h:Sr w B sa N c outs):Ss w sa N c outs:=by
 refine Ss.of_owns h.row (fun x hx=>?_) h.len;have:=h.arcs x hx;refine Ars.of_owns this (h.wfs x hx) ?_;have h1:=this.1;rw [uC] at h1;omega
theorem Sr.arc {w w':World} {B N c sb f c':Nat} {a':OAd} {outs:List Sw} {x:Sw} {y:Int × Int} (h:Sr w B (some ⟨sb,0,none⟩) N c outs) (hf:f<N) (hx:outs.getD f Sw.no=x)
 (hown:w'.ownsRow B 95 2 (.slice a' (x.n+1) c') (x.n+1) (aL (x.arcs++[y]))) (hg:w.grownBy w' x.s.ownBlock) (hat:(Value.slice a' (x.n+1) c').ownBlock=x.s.ownBlock\/∃g,(Value.slice a' (x.n+1) c').ownBlock=some g/\w.heap.size<=g)
 (hy:(Lit.int .i64 y.1).wf=true/\(Lit.int .i64 y.2).wf=true) :
 Sr (w'.setCell ⟨sb,f*2+1,none⟩ (.slice a' (x.n+1) c')) B (some ⟨sb,0,none⟩) N c (outs.set f ⟨x.fin,a',x.n+1,c',x.arcs++[y]⟩):=by
 have hlen:=h.len;have hfl:f<outs.length:=omg;have hxm:x∈outs:=by rw [<-hx];exact AR hfl
 have hxo:=h.arcs x hxm;have hxe:outs[f]=x:=by rw [<-hx];simp [hfl]
 have hrow:w'.ownsRow B 58 2 (.slice (some ⟨sb,0,none⟩) N c) N (bT outs):=h.row.kept hg (qd h.row hxo mi);obtain ⟨Kg,hso⟩:=ng hrow (g:=sb) rfl;have hset:=dC w' ⟨sb,f*2+1,none⟩ (.slice a' (x.n+1) c')
 have hother:∀i,(hi:i<outs.length)->i≠f->w'.ownsRow B 95 2 outs[i].s outs[i].n (aL outs[i].arcs):=fun i hi hne=>by
  refine (h.arcs _ (List.getElem_mem hi)).kept hg ?_;have:=Jh h.apart hi hfl hne
  rwa [hxe] at this
 refine ⟨?_,?_,?_,?_⟩
 ·have h1:=(hrow.stored (f*2+1) (.slice a' (x.n+1) c')).1;rw [Jg,wD (l:=bT outs) (i:=f*2) (v:=Sw.f ⟨x.fin,a',x.n+1,c',x.arcs++[y]⟩)]
  ·exact h1
  ·have:=(qf hfl).1;rw [hx] at this;exact this
 ·intro z hz;obtain ⟨i,hi,rfl⟩:=List.getElem_of_mem hz;have hi':i<outs.length:=by simpa using hi
  rw [List.getElem_set];by_cases hif:f=i
  ·rw [if_pos hif];exact hown.kept hset (mg hown hso (fun cur=>fV mi))
  ·rw [if_neg hif];have ho:=hother i hi' (Ne.symm hif);exact ho.kept hset (mg ho hso (fun cur=>fV mi))
 ·intro z hz;rcases List.mem_or_eq_of_mem_set hz with hz|rfl
  ·exact h.wfs z hz
  ·intro u hu;rcases map1 hu with hu|hu
   ·exact h.wfs x hxm u hu
   ·rw [msg hu];exact hy
 ·have hnew:∀i,(hi:i<outs.length)->i≠f->outs[i].s.ownBlock=none\/outs[i].s.ownBlock≠(Value.slice a' (x.n+1) c').ownBlock:=fun i hi hne=>by
   rcases hat with e|⟨g,e,hge⟩
   ·rw [e];have:=Jh h.apart hi hfl hne
    rwa [hxe] at this
   ·rw [e]
    cases ho:outs[i].s.ownBlock with
    | none=>exact .inl rfl
    | some q =>
      refine .inr fun e'=>?_;cases e';have:=((h.arcs _ (List.getElem_mem hi)).lt _ ho).2;omega
  rw [List.pairwise_iff_getElem];intro i j hi hj hij;have hi':i<outs.length:=by simpa using hi
  have hj':j<outs.length:=by simpa using hj
  rw [List.getElem_set,List.getElem_set];by_cases hif:f=i
  ·rw [if_pos hif,if_neg omg];rcases hnew j hj' omg with e|e
   ·rw [e];exact or_none _
   ·exact .inr (fun e'=>e e'.symm)
  ·rw [if_neg hif];by_cases EE:f=j
   ·rw [if_pos EE];exact hnew i hi' (Ne.symm hif)
   ·rw [if_neg EE];exact List.pairwise_iff_getElem.1 h.apart i j hi' hj' hij
theorem Sr.final {w:World} {B N c sb k:Nat} {outs:List Sw} {x:Sw} (h:Sr w B (some ⟨sb,0,none⟩) N c outs) (hk:k<N) (hx:outs.getD k Sw.no=x) (b:Bool) :
 Sr (w.setCell ⟨sb,k*2,none⟩ (.bool b)) B (some ⟨sb,0,none⟩) N c (outs.set k ⟨b,x.a,x.n,x.cap,x.arcs⟩):=by
 have hlen:=h.len;have hkl:k<outs.length:=omg;have hxm:x∈outs:=by rw [<-hx];exact AR hkl
 have hxe:outs[k]=x:=by rw [<-hx];simp [hkl]
 obtain ⟨Kg,hso⟩:=ng h.row (g:=sb) rfl;have hset:=dC w ⟨sb,k*2,none⟩ (.bool b);have hkeep:∀x∈outs,(w.setCell ⟨sb,k*2,none⟩ (.bool b)).ownsRow B 95 2 x.s x.n (aL x.arcs):=fun x hx=>(h.arcs x hx).kept hset (mg (h.arcs x hx) hso (fun cur=>fV mi));refine ⟨?_,?_,?_,?_⟩
 ·have h1:=(h.row.stored (k*2) (.bool b)).1;rw [Jg,wD (v:=(⟨b,x.a,x.n,x.cap,x.arcs⟩:Sw).s) (i:=k*2+1)]
  ·exact h1
  ·have:=(qf hkl).2;rw [hx] at this;rw [List.getElem?_set_ne omg];exact this
 ·intro z hz;rcases List.mem_or_eq_of_mem_set hz with hz|rfl
  ·exact hkeep z hz
  ·exact hkeep x hxm
 ·intro z hz;rcases List.mem_or_eq_of_mem_set hz with hz|rfl
  ·exact h.wfs z hz
  ·exact h.wfs x hxm
 ·rw [List.pairwise_iff_getElem];intro i j hi hj hij;have hi':i<outs.length:=by simpa using hi
  have hj':j<outs.length:=by simpa using hj
  have h0:=List.pairwise_iff_getElem.1 h.apart i j hi' hj' hij;rw [List.getElem_set,List.getElem_set];by_cases hki:k=i
  ·subst hki;rw [if_pos rfl,if_neg omg];rw [hxe] at h0;exact h0
  ·rw [if_neg hki];by_cases hkj:k=j
   ·subst hkj;rw [if_pos rfl];rw [hxe] at h0;exact h0
   ·rw [if_neg hkj];exact h0
theorem alJ (N:Nat):(madeCells (Value.agg #[.bool false,.slice none 0 0]).cells (N*2)).toList=bT (List.replicate N Sw.no):=by
 apply List.ext_getElem?;intro j;have hsz:(madeCells (Value.agg #[.bool false,.slice none 0 0]).cells (N*2)).toList.length=N*2:=by simp [madeCells]
 by_cases hj:j<N*2
 ·have hd:j/2<N:=omg;have hr:j%2<2:=Nat.mod_lt _ omg
  have e:(bT (List.replicate N Sw.no))[j]?=Sw.no.cells[j%2]?:=by
   have:=Dw (List.replicate N Sw.no) (j/2) (j%2) (by simpa using hd) hr;rw [show j/2*2+j%2=j by omega] at this;rw [this];simp [hd]
  rw [e];have hc:(Value.agg #[Value.bool false,Value.slice none 0 0]).cells=#[Value.bool false,Value.slice none 0 0]:=rfl;rcases (by omega:j%2=0\/j%2=1) with h0|h0
  ·simp [madeCells,hj,hc,h0,Sw.cells,Sw.f,Sw.s,Sw.no]
  ·simp [madeCells,hj,hc,h0,Sw.cells,Sw.f,Sw.s,Sw.no]
 ·rw [List.getElem?_eq_none (by rw [hsz];omega),List.getElem?_eq_none (by rw [yx];simp;omega)]
theorem Sr.start {w:World} {B g N:Nat} (h:w.ownsRow B 58 2 (.slice (some ⟨g,0,none⟩) N N) N (bT (List.replicate N Sw.no))):Sr w B (some ⟨g,0,none⟩) N N (List.replicate N Sw.no):=by
 refine ⟨h,fun x hx=>?_,fun x hx=>?_,?_⟩
 ·rw [(List.mem_replicate.1 hx).2];exact World.ownsRow_nil _ _ _ _
 ·rw [(List.mem_replicate.1 hx).2];intro y hy;cases hy
 ·rw [List.pairwise_replicate];exact .inr (.inl rfl)

def prog (ws:LLI) (i:Nat):List St:=(kinds ws).map fun k=>if k.F∈(begs ws).take i then ⟨decide (k.F∈ws),(aP (begs ws) k.F).map (lu ws)⟩ else St.no
theorem Yw (ws:LLI) (i:Nat):(prog ws i).length=(kinds ws).length:=by simp [prog]
theorem alK (ws:LLI):prog ws 0=List.replicate (kinds ws).length St.no:=by
 unfold prog;rw [<-List.map_const'];exact List.map_congr_left fun k _=>by simp
theorem alL (ws:LLI):prog ws (begs ws).length=bL ws:=by
 unfold prog bL;refine List.map_congr_left fun k hk=>?_;rw [List.take_length,if_pos ((lq ws).2.1 k hk).1]
theorem Pt {B:LLI} {i:Nat} {q x:LIn} (hi:i<B.length) (hq:B.getD i []=q):x∈B.take (i+1)↔x∈B.take i\/x=q:=by
 rw [tsa hi,List.mem_append,List.mem_singleton];have:B[i]=q:=by rw [<-hq];simp [hi]
 rw [this]
theorem alM {ws:LLI} {i:Nat} {q:LIn} (hi:i<(begs ws).length) (hq:(begs ws).getD i []=q) (h:((kinds ws).getD (cls ws q) Kd.no).F≠q):prog ws (i+1)=prog ws i:=by
 have hqm:q∈begs ws:=by rw [<-hq,gdq,geg hi,Option.getD_some];exact List.getElem_mem _
 unfold prog;refine List.map_congr_left fun k hk=>?_
 have hne:k.F≠q:=fun e=>by
  obtain ⟨j,hj,rfl⟩:=List.getElem_of_mem hk;have h1:=(yN hj).2.1;rw [ni hj,e] at h1;apply h;rw [h1,ni hj];exact e
 have:k.F∈(begs ws).take (i+1)↔k.F∈(begs ws).take i:=by rw [Pt hi hq];simp [hne]
 simp only [this]
theorem alN {ws:LLI} {i:Nat} {q:LIn} (hi:i<(begs ws).length) (hq:(begs ws).getD i []=q) (h:((kinds ws).getD (cls ws q) Kd.no).F=q) :
 (prog ws i).getD (cls ws q) St.no=St.no/\prog ws (i+1)=(prog ws i).set (cls ws q) ⟨decide (q∈ws),(aP (begs ws) q).map (lu ws)⟩:=by
 have hqe:(begs ws)[i]=q:=by rw [<-hq];simp [hi]
 have hqm:q∈begs ws:=by rw [<-hqe];exact List.getElem_mem _
 have hc:=(nk hqm).1
 have hnot:q∉(begs ws).take i:=fun hm=>by
  obtain ⟨j,hj,e⟩:=List.getElem_of_mem hm;have hji:j<i:=by simp at hj;omega
  rw [List.getElem_take,<-hqe] at e;have:=MW (IL ws) omg hi e;omega
 refine ⟨?_,?_⟩
 ·have e:(prog ws i).getD (cls ws q) St.no=if ((kinds ws).getD (cls ws q) Kd.no).F∈(begs ws).take i then ⟨decide (((kinds ws).getD (cls ws q) Kd.no).F∈ws),(aP (begs ws) ((kinds ws).getD (cls ws q) Kd.no).F).map (lu ws)⟩ else St.no:=by
   simp [prog,hc]
  rw [e,h,if_neg hnot]
 ·refine List.ext_getElem (by simp [prog]) fun j h1 h2=>?_;have hj:j<(kinds ws).length:=by rw [Yw] at h1;exact h1
  rw [List.getElem_set];simp only [prog,List.getElem_map];have e:(kinds ws)[j]=(kinds ws).getD j Kd.no:=(ni hj).symm;by_cases hcj:cls ws q=j
  ·rw [if_pos hcj,e,<-hcj,h,if_pos ((Pt hi hq).2 (.inr rfl))]
  ·rw [if_neg hcj]
   have hne:((kinds ws)[j]).F≠q:=fun e'=>by
    have h3:=(yN hj).2.1;rw [ni hj,e'] at h3;exact hcj h3
   have:((kinds ws)[j]).F∈(begs ws).take (i+1)↔((kinds ws)[j]).F∈(begs ws).take i:=by rw [Pt hi hq];simp [hne]
   simp only [this]

end
section
open Go.RowKit Tri Daw

theorem Yx {ws:LLI} {q:LIn} (hq:q∈begs ws):qY (kinds ws) (ends ws q)=(cls ws q:Int):=by unfold qY;rw [aiJ hq]

theorem alO (a:OAd) (n cap:Nat) (xs:List Wd) (g:List St × Int) (w:World) (hs:Ws w a n cap xs) (hnil:a=none->cap=0) (hg:og (nums xs)=g) :
 Calls Tryz.prog 32 #[.slice a n cap] w fun e w'=>IV w w' e g:=by
 have hnc:=hs.2.1;have hcm:=hs.2.2.1;unfold maxLen at hcm;have HS:=hdq hs;have fu:=hdq hnil;have HG:=hdq hg;have dF:Hid ((nums xs).length=n):=by show _=_;rw [nums_length,hs.1]
 have gq:Hid (Tryz.prog.follows .mixedOrders=true):=by show _=_;kernel_rfl
 obtain ⟨⟨ml,er⟩,hp⟩:∃p,made (nums xs)=p:=⟨_,rfl⟩;have HP:=hdq hp;clear hs hg hnil hp;go_enter Tryz.func32,Tryz.ntmps32;go_wp2_with fail;refine (alp a n cap xs _ w HS.out fu.out HP.out).mono ?_;rintro e w1 ⟨ta,tn,tc,ty,rfl,hts,Gs,-,hb1⟩;have HB1:=hdq hb1;have gN:=hdq hts;have Sk:=hdq Gs;have vN:Hid (er=(Wl.write (nums xs)).2):=by have h:=(Jq (ws:=nums xs)).1;rw [HP.out] at h;exact h
 clear hb1 hts Gs;simp only [];by_cases her:er=0
 ·subst her;have mJ:=Wl.AU (nums xs);rw [<-vN.out] at mJ
  have hw3:(nums xs).length<=300/\(∀z∈nums xs,Wl.fit z=true)/\aM (nums xs):=by
   rcases mJ with ⟨_,h1,h2,h3,_⟩|⟨h,_⟩
   ·exact ⟨h1,h2,h3⟩
   ·exact absurd rfl h
  have HR:=hdq hw3.2.2;have ug:n<=300:=by rw [<-dF.out];exact hw3.1
  have dP:Hid (Tri.Short (nums xs)):=fun z hz=>(Wl.fit_parts (hw3.2.1 z hz)).2.1;have qi:Hid (∀z∈nums xs,z≠[]):=fun z hz=>(Wl.fit_parts (hw3.2.1 z hz)).1
  have rH:Hid ((bL (nums xs),(0:Int))=g):=by
   show _=_;rw [<-HG.out];unfold og;rw [<-vN.out];simp
  have iw:Hid (sts ty=make (nums xs)):=by
   show _=_;have h:=(Jq (ws:=nums xs)).2 vN.out.symm;rw [HP.out] at h;rw [Sk.out];exact h
  have yY:Hid (tn=(begs (nums xs)).length):=by show _=_;rw [<-gN.out.1,<-fq,iw.out,iM]
  clear mJ hw3;go_wp2_with fail;refine (alI a n cap xs w1 (HS.out.below HB1.out lrf) fu.out ug HR.out qi.out dP.out).mono ?_;rintro e w2 ⟨ka,kn,kc,kx,rfl,hks,hkd,-,hb2⟩;have HB2:Hid (Below w.heap.size w w2):=HB1.out.trans (hb2.mono HB1.out.size);have bV:=hdq hks;have gu:=hdq hkd;have acR:Hid (Ss w2 ta tn tc ty):=gN.out.below hb2 lrf;have rR:Hid ((kinds (nums xs)).length=kn):=by show _=_;rw [<-hkd,Be,hks.1]
  clear hks hkd hb2;go_wp2_with fail;refine (Pm a n cap xs w2 (HS.out.below HB2.out lrf) fu.out omg HR.out).mono ?_;rintro e w3 ⟨ba,nb,bc,bs,rfl,hbs,hbn,-,hb3⟩;have HB3:Hid (Below w.heap.size w w3):=HB2.out.trans (hb3.mono HB2.out.size);have bM:=hdq hbs;have fP:=hdq hbn;have TK:Hid (Ks w3 ka kn kc kx):=bV.out.below hb3 lrf;have aqw:Hid (Ss w3 ta tn tc ty):=acR.out.below hb3 lrf;have Ad:Hid (Ws w3 a n cap xs):=HS.out.below HB3.out lrf;have dD:Hid ((begs (nums xs)).length=nb):=by show _=_;rw [<-hbn,nums_length,hbs.1]
  have hnb:nb<=6001:=by have h:=Dt (nums xs);rw [dD.out,dF.out] at h;omega
  have hkn:kn<=6001:=by have h:=Xk (nums xs);rw [dD.out,rR.out] at h;omega
  have aqp:0<kn:=by rw [<-rR.out];exact Xj _
  have auH:=hbs.2.1;have Ty:=hbs.2.2.1;have auI:=bV.out.2.1;have aqx:=bV.out.2.2.1;have auJ:=gN.out.2.1;have aqy:=gN.out.2.2.1;unfold maxLen at Ty aqx aqy;clear hbs hbn hb3 bV acR;obtain ⟨is,his,hs0,hs1,hs2⟩:=info_parts Na
  go_wp2_with (at_make
               refine wpList_make_full _ rfq _ _ 22 rfq w3.heap.size 58 is _ 2 Tryz.underlying22 his hs0 hs1 .i64 .i64 (kn:Int) (kn:Int) kn rfq rfq rfl rfl (by rw [hs2];omega) (by unfold maxLen;omega) lrf ?_;intro w4 fK hg4;rw [alJ] at fK;have KI:=hdq (Sr.start fK);have gm:Hid (Below w3.heap.size w3 w4):=⟨hg4.os,hg4.tape,hg4.output,hg4.size,fun k hk=>hg4.block k hk smp⟩
               clear fK hg4)
  generalize hsb:w3.heap.size=B at *;go_loopw [9] (fun ix wr=>∃(i:Nat) (outs:List Sw),i<=nb/\ix=.int .i64 (i:Int)/\Hid (Sr wr B (some ⟨B,0,none⟩) kn kn outs)/\Hid (sts outs=prog (nums xs) i)/\Hid (Below B w3 wr)) (fun ix _=>nb-(intOf ix).toNat)
  case atStart =>
   refine ⟨0,_,Nat.zero_le _,rfl,KI.out,?_,gm.out⟩;show _=_;rw [alK,rR.out];unfold sts;rw [List.map_replicate];rfl
  case round =>
   obtain ⟨i,outs,hi,rfl,HM,HST,ai⟩:=hrel;by_cases hlt:i<nb
   ·have acS:Below w3.heap.size w3 wr:=by rw [hsb];exact ai.out
    obtain ⟨qb,qo,fa,fn,fc,fz,rfl,Da,_,hqc,vv,hqz⟩:=bM.out.one i hlt;have Hy:Hid (∀W,Below B w3 W->W.cell? ⟨qb,qo+i,none⟩=some (.slice fa fn fc)):=fun W hW=>by rw [hW.cell (p:=⟨qb,qo+i,none⟩) (by rw [<-hsb];exact Da)];exact hqc
    have LQ:wr.cell? ⟨qb,qo+i,none⟩=some (.slice fa fn fc):=Hy.out wr ai.out;have vO:=hdq vv;have vP:Hid ((begs (nums xs)).getD i []=fz):=by show _=_;rw [<-fP.out];exact hqz
    have HQM:Hid (fz∈begs (nums xs)):=by show _∈_;rw [<-vP.out,gdq,geg (by rw [dD.out];exact hlt),Option.getD_some];exact List.getElem_mem _
    have bB:(i:Int)<(nb:Int):=omg;clear Da hqc vv hqz;go_wp2_with fail;refine (Pq a fa n cap fn fc xs fz w3 wr Ad.out acS (vO.out.below acS lrf) qi.out omg).mono ?_;rintro e w5 ⟨ea,en,ec,ys,rfl,Ai,Ih,Ii,aqz,TL,hb5⟩;have eU:Hid (Below B w3 w5):=ai.out.trans (hb5.mono (by rw [<-hsb];exact ai.out.size));have Aj:Below w3.heap.size w3 w5:=by rw [hsb];exact eU.out
    have lK:Hid (Sr w5 B (some ⟨B,0,none⟩) kn kn outs):=HM.out.below hb5;have Ij:Ws w5 ea en ec ys:=Ws.of_owns Ai (fun y hy=>(Ih y hy).below Aj lrf) (by have h:=Ai.1;unfold vals at h;rw [List.length_map] at h;omega);have Ik:=hdq Ij;have LV:=hdq Ii;clear Ai Ih Ii TL hb5 Ij LQ;go_wp2_with fail;refine (Pp ka ea kn kc en ec kx ys w5 (TK.out.below Aj lrf) Ik.out).mono ?_;rw [gu.out,LV.out,Yx HQM.out];rintro e w6 ⟨rfl,TM⟩;have bC:Hid (Sr w6 B (some ⟨B,0,none⟩) kn kn outs):=by obtain ⟨q,rfl⟩:=TM;exact lK.out.below (below_drewN (Below.refl _ _) _)
    have bZ:Hid (Below B w3 w6):=aG eU.out TM;clear TM Ik lK Aj;obtain ⟨k,hk⟩:∃k,cls (nums xs) fz=k:=⟨_,rfl⟩;rw [hk];have HK:=hdq hk;have hkN:k<kn:=by rw [<-rR.out,<-hk];exact (nk HQM.out).1
    obtain ⟨kb,ko,xa,xn,xc,bA,XL,ga,gn,gc,gz,rfl,hkb,_,_,Il,_,mU,_,hkz⟩:=TK.out.one k hkN;have auK:w6.cell? ⟨kb,ko+k*3+2,none⟩=some (.slice ga gn gc):=by rw [bZ.out.cell (p:=⟨kb,ko+k*3+2,none⟩) (by rw [<-hsb];exact hkb)];exact Il
    have HFZ:Hid (((kinds (nums xs)).getD (cls (nums xs) fz) Kd.no).F=gz):=by show _=_;rw [HK.out,<-gu.out,Ee,hkz];rfl
    have HGF:Hid (Sl .i64 w6 ga gn gc gz):=mU.below bZ.out (by rw [hsb];exact Nat.le_refl _);have Hr:Hid (Sl .i64 w6 fa fn fc fz):=vO.out.below bZ.out (by rw [hsb];exact Nat.le_refl _);have LQ:w6.cell? ⟨qb,qo+i,none⟩=some (.slice fa fn fc):=Hy.out w6 bZ.out;have ZK:(k:Int)<(kn:Int):=omg;have hk0:(0:Int)<=(k:Int):=omg;have hi0:(0:Int)<=(i:Int):=omg;obtain ⟨sm,hsm⟩:∃q,decide (gz=fz)=q:=⟨_,rfl⟩;have jQ:=hdq hsm;clear hk hkb Il mU hkz hsm;cases sm
    ·have Gh:Hid (prog (nums xs) (i+1)=prog (nums xs) i):=alM (by rw [dD.out];exact hlt) vP.out (by rw [HFZ.out];exact of_decide_eq_false jQ.out);go_wp2;go_quiet ((go_at_call 38;exact Calls.quiet_of (dR _ _ _ _ _ _ gz fz false _ (HGF.out.drewN _) (Hr.out.drewN _) jQ.out)));go_wp2;go_roundw
     case rel=>exact ⟨i+1,outs,by omega,by go_num,bC.out.below (below_drewN (Below.refl _ _) _),(by show _=_;rw [Gh.out];exact HST.out),below_drewN bZ.out _⟩
     case measure=>simp [intOf];omega
    ·have hgf:gz=fz:=of_decide_eq_true jQ.out;obtain ⟨hp0,hps⟩:=alN (ws:=nums xs) (by rw [dD.out];exact hlt) vP.out (by rw [HFZ.out];exact hgf);rw [HK.out] at hp0 hps;have eB:=hdq hps;obtain ⟨tb,tg,tf,sa,sn,sc,arcs,rfl,htb,ht1,ht2,har,htz⟩:=aqw.out.one i (by rw [yY.out,dD.out];exact hlt)
     have hst:(⟨tf,arcs⟩:St)=⟨decide (fz∈nums xs),aP (begs (nums xs)) fz⟩:=by
      have h1:=ic ty i;have hil:i<(begs (nums xs)).length:=by rw [dD.out];exact hlt
      rw [iw.out,htz] at h1;have h2:(make (nums xs)).getD i St.no=(make (nums xs))[i]'(by rw [iM];exact hil):=by simp [iM,hil]
      rw [h2,AB (by rw [iM];exact hil)] at h1;have h3:(begs (nums xs))[i]=fz:=by rw [<-vP.out];simp [hil]
      rw [h3] at h1;exact h1.symm
     obtain rfl:tf=decide (fz∈nums xs):=congrArg St.final hst;obtain rfl:arcs=aP (begs (nums xs)) fz:=congrArg St.arcs hst
     have HT1:Hid (∀W,Below B w3 W->W.cell? ⟨tb,tg+i*2,none⟩=some (.bool (decide (fz∈nums xs)))/\W.cell? ⟨tb,tg+i*2+1,none⟩=some (.slice sa sn sc)):=fun W hW=>by
      refine ⟨?_,?_⟩
      ·rw [hW.cell (p:=⟨tb,tg+i*2,none⟩) (by rw [<-hsb];exact htb)];exact ht1
      ·rw [hW.cell (p:=⟨tb,tg+i*2+1,none⟩) (by rw [<-hsb];exact htb)];exact ht2
     have jc:=hdq har;have hsn:sn<=6001:=by rw [<-har.1];exact Nat.le_trans (DL _ _) (by rw [dD.out];exact hnb)
     have apd:=har.2.1;have oC:=har.2.2.1;unfold maxLen at oC;have aaX:w6.cell? ⟨tb,tg+i*2,none⟩=some (.bool (decide (fz∈nums xs))):=(HT1.out w6 bZ.out).1;have auL:w6.cell? ⟨B,k*2,none⟩=some (outs.getD k Sw.no).f:=by rw [bC.out.row.cellAt (k*2) omg,(qf (by rw [bC.out.len];exact hkN)).1]
     have auM:w6.frozen? ⟨B,k*2,none⟩=false:=bC.out.row.frozenAt _;have oZ:Hid ((i:Int)<(tn:Int)):=by have h1:=yY.out;have h2:=dD.out;show (i:Int)<(tn:Int);omega
     have auN:=oZ.out;obtain ⟨fin,hfin⟩:∃f,decide (fz∈nums xs)=f:=⟨_,rfl⟩;rw [hfin] at aaX HT1;have aW:=hdq hfin;have qx:Hid (∀q,Sr ((w6.drewN q).setCell ⟨B,k*2,none⟩ (.bool fin)) B (some ⟨B,0,none⟩) kn kn (outs.set k ⟨fin,(outs.getD k Sw.no).a,(outs.getD k Sw.no).n,(outs.getD k Sw.no).cap,(outs.getD k Sw.no).arcs⟩)):=fun q=>Sr.final (w:=w6.drewN q) (bC.out.below (below_drewN (Below.refl _ _) _)) hkN rfl fin
     have aqA:Hid (sts (outs.set k ⟨fin,(outs.getD k Sw.no).a,(outs.getD k Sw.no).n,(outs.getD k Sw.no).cap,(outs.getD k Sw.no).arcs⟩)=(prog (nums xs) i).set k ⟨fin,((aP (begs (nums xs)) fz).take 0).map (lu (nums xs))⟩):=by
      show _=_;rw [DN,HST.out];have h1:=ic outs k;rw [HST.out,hp0] at h1;have h2:(outs.getD k Sw.no).arcs=[]:=(congrArg St.arcs h1).symm;show (prog (nums xs) i).set k ⟨fin,(outs.getD k Sw.no).arcs⟩=_;rw [h2];rfl
     have lL:Hid (∀q,Below B w3 ((w6.drewN q).setCell ⟨B,k*2,none⟩ (.bool fin))):=fun q=>Below.setCell (p:=⟨B,k*2,none⟩) (below_drewN bZ.out _) lrf _;clear hgf hp0 hps htb ht1 ht2 har htz hst hfin;go_wp2;go_quiet ((go_at_call 38;exact Calls.quiet_of (dR _ _ _ _ _ _ gz fz true _ (HGF.out.drewN _) (Hr.out.drewN _) jQ.out)));go_wp2;generalize wr=wo at *;go_loopw [11] (fun ix wr=>∃(m:Nat) (outs:List Sw),m<=sn/\ix=.int .i64 (m:Int)/\Hid (Sr wr B (some ⟨B,0,none⟩) kn kn outs)/\Hid (sts outs=(prog (nums xs) i).set k ⟨fin,((aP (begs (nums xs)) fz).take m).map (lu (nums xs))⟩)/\Hid (Below B w3 wr)) (fun ix _=>sn-(intOf ix).toNat)
     case atStart=>exact ⟨0,_,Nat.zero_le _,rfl,qx.out _,aqA.out,lL.out _⟩
     case round =>
      obtain ⟨m,outs,hm,rfl,rJ,TN,eu⟩:=hrel;have aqB:wr.cell? ⟨tb,tg+i*2+1,none⟩=some (.slice sa sn sc):=(HT1.out wr eu.out).2;by_cases hlm:m<sn
      ·obtain ⟨b3,o3,sg,tj,rfl,hb3,hy1,hy2,hws,hwt,hz3⟩:=jc.out.one m hlm;have aqC:wr.cell? ⟨b3,o3+m*2,none⟩=some (.int .i64 sg):=by rw [eu.out.cell (p:=⟨b3,o3+m*2,none⟩) (by rw [<-hsb];exact hb3)];exact hy1
       have aqD:wr.cell? ⟨b3,o3+m*2+1,none⟩=some (.int .i64 tj):=by rw [eu.out.cell (p:=⟨b3,o3+m*2+1,none⟩) (by rw [<-hsb];exact hb3)];exact hy2
       have ham:(sg,tj)∈aP (begs (nums xs)) fz:=by rw [<-hz3,gdq,geg (by rw [jc.out.1];exact hlm),Option.getD_some];exact List.getElem_mem _
       obtain ⟨j,hj,hjz,hjt⟩:=mY.1 ham;have aqE:tj=(j:Int):=hjt;subst aqE;have hjn:j<nb:=by rw [<-dD.out];exact hj
       obtain ⟨b4,o4,fa2,fn2,fc2,fz2,e4,hb4,_,acZ,ada,adb⟩:=bM.out.one j hjn;simp only [sij,Addr.mk.injEq,and_true] at e4;obtain ⟨rfl,rfl⟩:=e4
       have aqG:fz2=fz++[sg]:=by
        rw [<-adb,fP.out,gdq,geg hj,Option.getD_some];exact hjz
       subst aqG;have ade:Hid (fz++[sg]∈begs (nums xs)):=by show _∈_;rw [<-hjz];exact List.getElem_mem _
       have aqH:=hdq ada;have rA:=hdq hws;have aqI:∀o,(wr.alloc o).cell? ⟨qb,qo+j,none⟩=some (.slice fa2 fn2 fc2):=fun o=>by rw [(eu.out.alloc (by rw [<-hsb];exact eu.out.size) o).cell (p:=⟨qb,qo+j,none⟩) (by rw [<-hsb];exact hb4)];exact acZ
       have auO:(m:Int)<(sn:Int):=omg;have hj0:(0:Int)<=(j:Int):=omg;have auP:(j:Int)<(nb:Int):=omg;obtain ⟨x,hx⟩:∃x,outs.getD k Sw.no=x:=⟨_,rfl⟩;obtain ⟨xf,xa,xn,xc,dM⟩:=x;have oJ:=hdq hx;have hkl:k<outs.length:=by rw [rJ.out.len];exact hkN
       have dS:Hid ((⟨xf,xa,xn,xc,dM⟩:Sw)∈outs):=by show _∈_;rw [<-hx];exact AR hkl
       obtain ⟨cl,hcl⟩:∃c,cls (nums xs) (fz++[sg])=c:=⟨_,rfl⟩;have jT:=hdq hcl;have hcn:cl<kn:=by rw [<-rR.out,<-hcl];exact (nk ade.out).1
       have BC:Hid ((Lit.int .i64 (cl:Int)).wf=true):=by apply WalkArith.wf_i64;omega
       have Mc:xf=fin/\dM=((aP (begs (nums xs)) fz).take m).map (lu (nums xs)):=by
        have h1:=ic outs k;have hpl:k<(prog (nums xs) i).length:=by rw [Yw,rR.out];exact hkN
        rw [TN.out,hx,gdq,List.getElem?_set_self hpl,Option.getD_some] at h1;exact ⟨(congrArg St.final h1).symm,(congrArg St.arcs h1).symm⟩
       have oU:Hid ((sts outs).set k ⟨xf,dM++[(sg,(cl:Int))]⟩=(prog (nums xs) i).set k ⟨fin,((aP (begs (nums xs)) fz).take (m+1)).map (lu (nums xs))⟩):=by
        show _=_;have ht:(aP (begs (nums xs)) fz).take (m+1)=(aP (begs (nums xs)) fz).take m++[(sg,(j:Int))]:=sZ (by rw [jc.out.1];exact hlm) hz3
        have hc:lu (nums xs) (sg,(j:Int))=(sg,(cl:Int)):=by
         unfold lu;rw [Int.toNat_natCast,gdq,geg hj,Option.getD_some,hjz,hcl]
        rw [TN.out,List.set_set,ht,List.map_append,List.map_cons,List.map_nil,hc,Mc.1,Mc.2]
       have Ki:xn<=6001:=by
        have h1:=(rJ.out.arcs _ dS.out).1;rw [uC] at h1;have h2:dM.length*2=xn*2:=h1;have h3:dM.length=((aP (begs (nums xs)) fz).take m).length:=by rw [Mc.2,List.length_map]
        rw [List.length_take] at h3;omega
       have adf:Hid (some wr.heap.size≠(Value.slice xa xn xc).ownBlock):=fun e=>by
        have:=((rJ.out.arcs _ dS.out).lt _ e.symm).2;omega
       have adg:Hid (some wr.heap.size≠some B):=fun e=>by
        have h1:=(rJ.out.row.lt B rfl).2;have h2:wr.heap.size=B:=Option.some.inj e;omega
       have HBZ:Hid (B<=wr.heap.size):=by show B<=_;rw [<-hsb];exact eu.out.size
       clear hb3 hy1 hy2 hws hwt hz3 ham hj hjz hjt acZ ada adb hb4 hx hkl hcl Mc;go_wp2_with fail;generalize hw7:wr.alloc _=w7;have aU:Hid (w7.heap[wr.heap.size]?=some (.cells #[.int .i64 sg,.int .i64 (j:Int)] 95 (0,0))):=by rw [<-hw7];exact han wr _
       have adh:Hid (Below B w3 w7):=by rw [<-hw7];exact eu.out.alloc HBZ.out _
       have aqK:Hid (Sr w7 B (some ⟨B,0,none⟩) kn kn outs):=by rw [<-hw7];exact rJ.out.grow (World.grownBy_alloc wr _ none)
       have Md:Below w3.heap.size w3 w7:=by rw [hsb];exact adh.out
       obtain ⟨bx,hbx⟩:∃b,wr.heap.size=b:=⟨_,rfl⟩;rw [hbx] at aU adf adg;simp only [hbx];clear hw7 aqC aqD aqI aqB;refine (Pq a fa2 n cap fn2 fc2 xs (fz++[sg]) w3 w7 Ad.out Md (aqH.out.below Md lrf) qi.out omg).mono ?_;rintro e w5 ⟨ea2,en2,ec2,ys2,rfl,Ai,Ih,Ii,aqz,TL,hb5⟩;have adm:Hid (Below B w3 w5):=adh.out.trans (hb5.mono (by rw [<-hsb];exact Md.size));have Aj:Below w3.heap.size w3 w5:=by rw [hsb];exact adm.out
       have lK:Hid (Sr w5 B (some ⟨B,0,none⟩) kn kn outs):=aqK.out.below hb5;have jR:Hid (w5.heap[bx]?=some (.cells #[.int .i64 sg,.int .i64 (j:Int)] 95 (0,0))):=(hb5.block _ (hltq aU.out)).trans aU.out;have Ij:Ws w5 ea2 en2 ec2 ys2:=Ws.of_owns Ai (fun y hy=>(Ih y hy).below Aj lrf) (by have h:=Ai.1;unfold vals at h;rw [List.length_map] at h;omega);have Ik:=hdq Ij;have aqL:=hdq Ii;clear Ai Ih Ii TL hb5 Ij Md;go_wp2_with fail;refine (Pp _ ea2 kn kc en2 ec2 kx ys2 w5 (TK.out.below Aj lrf) Ik.out).mono ?_;rw [gu.out,aqL.out,Yx ade.out,jT.out];rintro e w9 ⟨rfl,Me⟩;have aJ:Hid (Sr w9.drew B (some ⟨B,0,none⟩) kn kn outs):=by obtain ⟨q,rfl⟩:=Me;exact lK.out.below (aG (below_drewN (Below.refl _ _) q) ⟨1,rfl⟩)
       have zh:Hid (Below B w3 w9.drew):=aG (aG adm.out Me) ⟨1,rfl⟩;have mI:Hid (w9.drew.heap[bx]?=some (.cells #[.int .i64 sg,.int .i64 (j:Int)] 95 (0,0))):=by obtain ⟨q,rfl⟩:=Me;exact jR.out
       have gJ:Hid (w9.drew.cell? ⟨bx,0,none⟩=some (.int .i64 sg)):=by show _=_;rw [af mI.out];rfl
       have oK:Hid (B<=w9.drew.heap.size):=by show B<=_;rw [<-hsb];exact zh.out.size
       have oD:w9.drew.cell? ⟨B,k*2+1,none⟩=some (.slice xa xn xc):=by rw [aJ.out.row.cellAt (k*2+1) omg,(qf (by rw [aJ.out.len];exact hkN)).2,oJ.out];rfl
       have uT:=adf;have uu:=adg;have hmx:=gq.out;clear Me Ik lK Aj jR;go_wp2_with fail;refine wp_region_held_drew (S:=(fun W=>W.cell? ⟨bx,0,none⟩=some (.int .i64 sg))) krf (by first|((first|exact dV|exact dW|exact gJ.out|exact fI))|((try dsimp only);(first|exact dV|exact dW|exact gJ.out|exact fI))) (fun hHeld=>?_);refine wpAnyH_take (i:=0) (v:=?auQ) rfl krf krf krf (fun _ _ _ h=>h) (Or.inl ⟨by rfl,?aqM⟩) (by assumption) ?auR
       case aqM=>intro w hSw;(try dsimp only at hSw);go_simp;try with_reducible rfl
       simp only [Act.put,List.getElem_toArray,List.getElem_cons_zero,List.setIfInBounds_toArray,List.set_cons_succ,List.set_cons_zero];refine t_h 1 ?_;refine t_h 2 ?_;refine t_h 3 ?_;refine t_h 4 ?_;refine t_h 5 ?_;refine t_h 7 ?_;refine t_h 8 ?_;refine t_h 9 ?_;refine t_h 10 ?_;refine fT 6 11 (fun K hK=>?_) (fun K hK=>?_)
       ·go_simp;refine k_h hK (by (try dsimp only);(first|exact dV|exact dW|exact gJ.out|exact fI)) (fun hHeld=>?_);clear hK K;refine r_h 11 (fun K hK=>?_);refine AJ rfq (.tmp 100) sg (cl:Int) rfq rfq ?_;intro gB wB jE jF au;have hgB:w9.drew.grownBy wB none:=⟨au.os,au.tape,au.output,au.size,fun k hk _=>au.block k hk⟩;have dW:wB.cell? ⟨bx,0,none⟩=some (.int .i64 sg):=hgB.cell gJ.out smp;have zi:wB.cell? ⟨B,k*2+1,none⟩=some (.slice xa xn xc):=hgB.cell oD smp;refine k_h hK (by (try dsimp only);(first|exact dV|exact dW|exact gJ.out|exact fI)) (fun hHeld=>?_);clear hK K;refine r_h 12 (fun K hK=>?_);refine Jk rfq (.tmp 96) (.tmp 101) rfq B (.slice xa xn xc) xn dM rfq (((aJ.out.grow hgB).arcs _ dS.out)) gB (sg,(cl:Int)) rfq jE jF (xn+1) rfl omg (Nat.le_trans oK.out au.size) ?_;intro ve c10 bg rD fJ rE;have rF:=(aJ.out.grow hgB).arc (f:=k) (y:=(sg,(cl:Int))) hkN oJ.out rD fJ (rE.elim .inl (fun h=>.inr ⟨_,h,Nat.le_refl _⟩)) ⟨rA.out,BC.out⟩;have rG:Below B w3 bg:=(zh.out.trans (au.mono oK.out)).grown fJ (Nat.le_trans oK.out au.size) (fun q e=>(((aJ.out.grow hgB).arcs _ dS.out).lt q e).1);have iD:bg.ownsRow B 58 2 (.slice (some ⟨B,0,none⟩) kn kn) kn (bT outs):=(aJ.out.grow hgB).row.kept fJ (qd (aJ.out.grow hgB).row ((aJ.out.grow hgB).arcs _ dS.out) mi);have zk:bg.cell? ⟨B,k*2+1,none⟩=some (.slice xa xn xc):=by rw [iD.cellAt (k*2+1) omg,(qf (by rw [aJ.out.len];exact hkN)).2,oJ.out];rfl
        have zl:bg.frozen? ⟨B,k*2+1,none⟩=false:=iD.frozenAt _;have Io:some bx≠(Value.slice xa xn xc).ownBlock:=uT.out;have dV:bg.cell? ⟨bx,0,none⟩=some (.int .i64 sg):=fJ.cell dW Io;have fI:(bg.setCell ⟨B,k*2+1,none⟩ (.slice ve (xn+1) c10)).cell? ⟨bx,0,none⟩=some (.int .i64 sg):=(dC bg ⟨B,k*2+1,none⟩ _).cell dV uu.out;refine k_h hK (by (try dsimp only);(first|exact dV|exact dW|exact gJ.out|exact fI)) (fun hHeld=>?_);clear hK K;refine t_h 13 ?_;refine t_h 14 ?_;refine r_h 15 (fun K hK=>?_);go_simp;refine k_h hK (by (try dsimp only);(first|exact dV|exact dW|exact gJ.out|exact fI)) (fun hHeld=>?_);clear hK K;refine wpAnyH_done krf ?_ _;have zm:=hdq rF;have zt:=hdq rG;have zu:=hdq ((iD.lt B rfl).1);clear rF rG iD zk zl dV rD fJ rE hgB dW zi jE jF au hHeld oD fI Io;go_wp2;go_roundw
        case rel=>exact ⟨m+1,_,by omega,by go_num,zm.out,(by show _=_;rw [DN];exact oU.out),Below.setCell (p:=⟨B,k*2+1,none⟩) zt.out zu.out _⟩
        case measure=>simp [intOf];omega
       ·refine AJ rfq (.tmp 100) sg (cl:Int) rfq rfq ?_;intro gB wB jE jF au;have hgB:w9.drew.grownBy wB none:=⟨au.os,au.tape,au.output,au.size,fun k hk _=>au.block k hk⟩;have dW:wB.cell? ⟨bx,0,none⟩=some (.int .i64 sg):=hgB.cell gJ.out smp;have zi:wB.cell? ⟨B,k*2+1,none⟩=some (.slice xa xn xc):=hgB.cell oD smp;refine k_h hK (by (try dsimp only);(first|exact dV|exact dW|exact gJ.out|exact fI)) (fun hHeld=>?_);clear hK K;refine r_h 6 (fun K hK=>?_);go_simp;refine k_h hK (by (try dsimp only);(first|exact dV|exact dW|exact gJ.out|exact fI)) (fun hHeld=>?_);clear hK K;refine r_h 12 (fun K hK=>?_);refine Jk rfq (.tmp 96) (.tmp 101) rfq B (.slice xa xn xc) xn dM rfq (((aJ.out.grow hgB).arcs _ dS.out)) gB (sg,(cl:Int)) rfq jE jF (xn+1) rfl omg (Nat.le_trans oK.out au.size) ?_;intro ve c10 bg rD fJ rE;have rF:=(aJ.out.grow hgB).arc (f:=k) (y:=(sg,(cl:Int))) hkN oJ.out rD fJ (rE.elim .inl (fun h=>.inr ⟨_,h,Nat.le_refl _⟩)) ⟨rA.out,BC.out⟩;have rG:Below B w3 bg:=(zh.out.trans (au.mono oK.out)).grown fJ (Nat.le_trans oK.out au.size) (fun q e=>(((aJ.out.grow hgB).arcs _ dS.out).lt q e).1);have iD:bg.ownsRow B 58 2 (.slice (some ⟨B,0,none⟩) kn kn) kn (bT outs):=(aJ.out.grow hgB).row.kept fJ (qd (aJ.out.grow hgB).row ((aJ.out.grow hgB).arcs _ dS.out) mi);have zk:bg.cell? ⟨B,k*2+1,none⟩=some (.slice xa xn xc):=by rw [iD.cellAt (k*2+1) omg,(qf (by rw [aJ.out.len];exact hkN)).2,oJ.out];rfl
        have zl:bg.frozen? ⟨B,k*2+1,none⟩=false:=iD.frozenAt _;have Io:some bx≠(Value.slice xa xn xc).ownBlock:=uT.out;have dV:bg.cell? ⟨bx,0,none⟩=some (.int .i64 sg):=fJ.cell dW Io;have fI:(bg.setCell ⟨B,k*2+1,none⟩ (.slice ve (xn+1) c10)).cell? ⟨bx,0,none⟩=some (.int .i64 sg):=(dC bg ⟨B,k*2+1,none⟩ _).cell dV uu.out;refine k_h hK (by (try dsimp only);(first|exact dV|exact dW|exact gJ.out|exact fI)) (fun hHeld=>?_);clear hK K;refine t_h 13 ?_;refine t_h 14 ?_;refine r_h 15 (fun K hK=>?_);go_simp;refine k_h hK (by (try dsimp only);(first|exact dV|exact dW|exact gJ.out|exact fI)) (fun hHeld=>?_);clear hK K;refine wpAnyH_done krf ?_ _;have zm:=hdq rF;have zt:=hdq rG;have zu:=hdq ((iD.lt B rfl).1);clear rF rG iD zk zl dV rD fJ rE hgB dW zi jE jF au hHeld oD fI Io;go_wp2;go_roundw
        case rel=>exact ⟨m+1,_,by omega,by go_num,zm.out,(by show _=_;rw [DN];exact oU.out),Below.setCell (p:=⟨B,k*2+1,none⟩) zt.out zu.out _⟩
        case measure=>simp [intOf];omega
      ·obtain rfl:sn=m:=omg
       have aqN:Hid (sts outs=prog (nums xs) (i+1)):=by
        show _=_;rw [TN.out,eB.out,aW.out,tol (by rw [jc.out.1];exact Nat.le_refl _)]
       go_wp2;go_roundw
       case rel=>exact ⟨i+1,outs,by omega,by go_num,rJ.out,aqN.out,eu.out⟩
       case measure=>simp [intOf];omega
   ·obtain rfl:nb=i:=omg;have aW:Hid (sts outs=bL (nums xs)):=by show _=_;rw [HST.out,<-dD.out];exact alL _
    go_wp2;go_ret2;exact ⟨some ⟨B,0,none⟩,kn,kn,outs,by rw [<-rH.out];rfl,HM.out.states,by rw [aW.out,<-rH.out],fun h=>by simp at h,HB3.out.trans (ai.out.mono (by rw [<-hsb];exact HB3.out.size))⟩
 ·have hne:(er != 0)=true:=by simpa using her
  have hgg:g=([],er):=by rw [<-HG.out];unfold og;rw [<-vN.out];simp [her]
  subst hgg;clear her;go_wp2;go_ret2;exact ⟨none,0,0,[],rfl,Ss.nil,rfl,fun _=>rfl,HB1.out⟩

end
end Go.Proofs.YtkiamgcpcneggaaGreat
