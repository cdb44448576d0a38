import Derived.Lib.SmallJoins
import Derived.Test.YtkiamgcpcneggaaGreatChecked
import Derived.Test.YtkiamgcpcneggaaGreatPackD
set_option linter.all false
set_option maxRecDepth 100000
set_option maxHeartbeats 12800000
namespace Go.Proofs.YtkiamgcpcneggaaGreat
section
open Go.ChangeShapes Go.WideShapes Go.Joins Go.RowKit Go.Deep

theorem Sl.of_trod {H:Type} {enc:TypeId × Value->H} {w:World} {base fuel:Nat} {held:Bool} {c:Value} {y:DataW H × List MemPlace}
 (h:DataW.trod enc Tryz.prog w base (fun _=>true) held fuel 51 [c]=some y):∃(a:OAd) (n cap:Nat) (zs:LIn),c=.slice a n cap/\Sl .i64 w a n cap zs:=by
 rcases open_ints Tryz.underlying51 Tryz.underlying3 krf h with ⟨hcs,_⟩|⟨x,l,k,zs,hcs,_,hl,hm,hz,_,hcell,hwz⟩
 ·exact ⟨none,0,0,[],by simpa using hcs,Sl.nil⟩
 ·refine ⟨some x,l,k,zs.take l,by simpa using hcs,Sl.of_row (.inr ⟨x,rfl,hl,hm,by simpa using hz,hcell,hwz⟩)⟩

theorem Rw.of_trod {H:Type} {enc:TypeId × Value->H} {w:World} {base n0:Nat} {held:Bool} {c0 c1 c2:Value} {y0 y1 y2:DataW H × List MemPlace}
 (h0:DataW.trod enc Tryz.prog w base (fun _=>true) held n0 51 [c0]=some y0) (h1:DataW.trod enc Tryz.prog w base (fun _=>true) held n0 51 [c1]=some y1) (h2:DataW.trod enc Tryz.prog w base (fun _=>true) held n0 23 [c2]=some y2) :
 ∃x:Rw,c0=x.l/\c1=x.rt/\c2=x.c/\x.Good w:=by
 obtain ⟨la,ln,lc,L,rfl,hL⟩:=Sl.of_trod h0;obtain ⟨ra,rn,rc,R,rfl,hR⟩:=Sl.of_trod h1;obtain ⟨C,hc,_,hw⟩:=DataW.trod_int Tryz.underlying23 h2;simp only [List.cons.injEq,and_true] at hc;subst hc
 have hb:0<=C/\C<18446744073709551616:=by
  have h:=bounds_u64 hw;omega
 exact ⟨⟨la,ln,lc,L,ra,rn,rc,R,C⟩,rfl,rfl,rfl,hL,hR,hb⟩

theorem ami:Tryz.prog.cellsOf 74=3:=krf

theorem amj {Q:Nat->Rw->Prop} {n:Nat} (h:∀i,i<n->∃x,Q i x):∃xs:List Rw,xs.length=n/\∀i,i<n->Q i (xs.getD i Rw.no):=by
 induction n with
 | zero=>exact ⟨[],rfl,fun i hi=>absurd hi omg⟩
 | succ n ih =>
   obtain ⟨xs,hl,hx⟩:=ih fun i hi=>h i omg;obtain ⟨x,hq⟩:=h n omg;refine ⟨xs++[x],by simp [hl],fun i hi=>?_⟩;rcases Nat.lt_or_ge i n with h1|h1
   ·have:=hx i h1
    rwa [show (xs++[x]).getD i Rw.no=xs.getD i Rw.no from by simp [List.getElem?_append_left (show i<xs.length by omega)]]
   ·obtain rfl:i=n:=omg;rw [show (xs++[x]).getD i Rw.no=x from by simp [<-hl]];exact hq

theorem Rs.open {H:Type} {enc:TypeId × Value->H} {w:World} {base fuel:Nat} {held:Bool} {c:Value} {y:DataW H × List MemPlace}
 (h:DataW.trod enc Tryz.prog w base (fun _=>true) held fuel 24 [c]=some y) :
 ∃(a:OAd) (n cap:Nat) (xs:List Rw),c=.slice a n cap/\Rs w a n cap xs/\(a=none->cap=0)/\(n=0\/∃elems spare,y.1=.slice elems spare/\elems.length=n):=by
 rcases open_slice Tryz.underlying24 h with ⟨hcs,_⟩|⟨a,len,cap,m,n,D,Pl,hcs,hb,hl,hm,hmm,Uf,hi⟩
 ·exact ⟨none,0,0,[],by simpa using hcs,Rs.nil,fun _=>rfl,.inl rfl⟩
 ·simp only [if_true] at hmm;have hmm':=hmm.symm;subst hmm'
  have each:∀i,i<len->∃x:Rw,x.Good w/\w.cell? (a.add (i*3))=some x.l/\w.cell? (a.add (i*3+1))=some x.rt/\w.cell? (a.add (i*3+2))=some x.c:=by
   intro i hil;obtain ⟨cs,hc,ht⟩:=hi i omg;rw [ami] at hc;obtain ⟨_,hcl,hat⟩:=World.cells?_some hc
   match cs,hcl with
   | [c0,c1,c2],_ =>
     obtain ⟨y0,y1,y2,n',_,_,h0,h1,h2⟩:=trod_struct3 Tryz.underlying74 ht;obtain ⟨x,rfl,rfl,rfl,hx⟩:=Rw.of_trod (c0:=c0) (c1:=c1) (c2:=c2) h0 h1 h2;have e:∀j,(a.add (i*3)).add j=a.add (i*3+j):=fun j=>by rw [Go.Deep.add_add]
     exact ⟨x,hx,hat 0 omg,by rw [<-e 1];exact hat 1 omg,by rw [<-e 2];exact hat 2 omg⟩
  obtain ⟨xs,hxl,hx⟩:=amj each;refine ⟨some a,len,cap,xs,by simpa using hcs,⟨hxl,hl,hm,fun x hxm=>?_,?_⟩,(fun h=>by cases h),.inr ⟨_,_,by rw [Uf],by simp⟩⟩
  ·obtain ⟨i,hi',rfl⟩:=List.mem_iff_getElem.1 hxm;have:=(hx i omg).1
   rwa [show xs.getD i Rw.no=xs[i] from by simp [hi']] at this
  ·rcases Nat.eq_zero_or_pos len with h0|hp
   ·exact .inl h0
   ·obtain ⟨b,off,spot⟩:=a;have hspot:spot=none:=by simpa [Addr.add] using World.cell?_spot (hx 0 hp).2.1
    subst hspot;refine .inr ⟨b,off,rfl,fun i hi'=>?_⟩;obtain ⟨_,h1,h2,h3⟩:=hx i hi';have e:∀j,(⟨b,off,none⟩:Addr).add j=⟨b,off+j,none⟩:=fun j=>by simp [Addr.add]
    rw [e] at h1 h2 h3;exact ⟨h1,by rw [Nat.add_assoc];exact h2,by rw [Nat.add_assoc];exact h3⟩

end
section
open Go.ChangeShapes Go.WideShapes Go.Joins Go.RowKit Go.Deep

section
variable {H:Type} {enc:TypeId × Value->H} {P:Program} {w:World} {base:Nat} {spare:Nat->Bool} {held:Bool}
theorem amk {t:TypeId} {f0 f1 f2 f3 f4:Field} {fuel:Nat} {cs:List Value} {x:DataW H × List MemPlace} (ht:P.underlying t=some (.struct #[f0,f1,f2,f3,f4])) (h:DataW.trod enc P w base spare held fuel t cs=some x) :
 ∃y0 y1 y2 y3 y4 n,x=(.agg [y0.1,y1.1,y2.1,y3.1,y4.1],y0.2++(y1.2++(y2.2++(y3.2++y4.2))))/\cs.length=P.cellsOf t/\DataW.trod enc P w base spare held n f0.type ((cs.drop f0.offset).take (P.cellsOf f0.type))=some y0 /\
  DataW.trod enc P w base spare held n f1.type ((cs.drop f1.offset).take (P.cellsOf f1.type))=some y1/\DataW.trod enc P w base spare held n f2.type ((cs.drop f2.offset).take (P.cellsOf f2.type))=some y2 /\
  DataW.trod enc P w base spare held n f3.type ((cs.drop f3.offset).take (P.cellsOf f3.type))=some y3/\DataW.trod enc P w base spare held n f4.type ((cs.drop f4.offset).take (P.cellsOf f4.type))=some y4:=by
 obtain ⟨xs,n,_,rfl,hl,hlen,hf⟩:=DataW.trod_struct ht h
 match xs,hlen with
 | [y0,y1,y2,y3,y4],_=>exact ⟨y0,y1,y2,y3,y4,n,by simp,hl,by simpa using hf 0 f0 rfl,by simpa using hf 1 f1 rfl,by simpa using hf 2 f2 rfl,by simpa using hf 3 f3 rfl,by simpa using hf 4 f4 rfl⟩
end
theorem aml:Tryz.prog.cellsOf 26=5:=krf

end
section
theorem z52 {P:Prop} (h:P:=by
 rcases Nat.eq_zero_or_pos len with h0|hp
 ·exact .inl h0
 ·obtain ⟨b,off,spot⟩:=a;have hspot:spot=none:=by simpa [Addr.add] using World.cell?_spot (hx 0 hp).2.1
  subst hspot;refine .inr ⟨b,off,rfl,fun i hi'=>?_⟩;obtain ⟨_,h1,h2⟩:=hx i hi';have e:∀j,(⟨b,off,none⟩:Addr).add j=⟨b,off+j,none⟩:=fun j=>by simp [Addr.add]
  rw [e] at h1 h2
  exact ⟨h1,by rw [Nat.add_assoc];exact h2⟩):P:=h
open Go.ChangeShapes Go.WideShapes Go.Joins Go.RowKit Go.Deep Tri

theorem amm:Tryz.prog.cellsOf 95=2:=krf
theorem amn:Tryz.prog.cellsOf 58=2:=krf
theorem YJ {α:Type} (d:α) {Q:Nat->α->Prop} {n:Nat} (h:∀i,i<n->∃x,Q i x):∃xs:List α,xs.length=n/\∀i,i<n->Q i (xs.getD i d):=by
 induction n with
 | zero=>exact ⟨[],rfl,fun i hi=>absurd hi omg⟩
 | succ n ih =>
   obtain ⟨xs,hl,hx⟩:=ih fun i hi=>h i omg;obtain ⟨x,hq⟩:=h n omg;refine ⟨xs++[x],by simp [hl],fun i hi=>?_⟩;rcases Nat.lt_or_ge i n with h1|h1
   ·have:=hx i h1
    rwa [show (xs++[x]).getD i d=xs.getD i d from by simp [List.getElem?_append_left (show i<xs.length by omega)]]
   ·obtain rfl:i=n:=omg;rw [show (xs++[x]).getD i d=x from by simp [<-hl]];exact hq

theorem Ars.open {H:Type} {enc:TypeId × Value->H} {w:World} {base fuel:Nat} {held:Bool} {c:Value} {y:DataW H × List MemPlace}
 (h:DataW.trod enc Tryz.prog w base (fun _=>true) held fuel 56 [c]=some y) :
 ∃(a:OAd) (n cap:Nat) (l:List (Int × Int)),c=.slice a n cap/\Ars w a n cap l:=by
 rcases open_slice Tryz.underlying56 h with ⟨hcs,_⟩|⟨a,len,cap,m,n,D,Pl,hcs,hb,hl,hm,hmm,Uf,hi⟩
 ·exact ⟨none,0,0,[],by simpa using hcs,Ars.nil⟩
 ·simp only [if_true] at hmm;have hmm':=hmm.symm;subst hmm'
  have each:∀i,i<len->∃x:Int × Int,((Lit.int .i64 x.1).wf=true/\(Lit.int .i64 x.2).wf=true)/\w.cell? (a.add (i*2))=some (.int .i64 x.1)/\w.cell? (a.add (i*2+1))=some (.int .i64 x.2):=by
   intro i hil;obtain ⟨cs,hc,ht⟩:=hi i omg;rw [amm] at hc;obtain ⟨_,hcl,hat⟩:=World.cells?_some hc
   match cs,hcl with
   | [c0,c1],_ =>
     obtain ⟨y0,y1,n',_,_,h0,h1⟩:=trod_struct2 Tryz.underlying95 ht;obtain ⟨s,hs,_,hws⟩:=DataW.trod_int (cs:=[c0]) Tryz.underlying3 h0;obtain ⟨t,ht',_,hwt⟩:=DataW.trod_int (cs:=[c1]) Tryz.underlying3 h1;simp only [List.cons.injEq,and_true] at hs ht';subst hs ht';have e:∀j,(a.add (i*2)).add j=a.add (i*2+j):=fun j=>by rw [Go.Deep.add_add]
     exact ⟨(s,t),⟨hws,hwt⟩,hat 0 omg,by rw [<-e 1];exact hat 1 omg⟩
  obtain ⟨xs,hxl,hx⟩:=YJ (0,0) each;refine ⟨some a,len,cap,xs,by simpa using hcs,hxl,hl,hm,fun x hxm=>?_,?_⟩
  ·obtain ⟨i,hi',rfl⟩:=List.mem_iff_getElem.1 hxm;have:=(hx i omg).1
   rwa [show xs.getD i (0,0)=xs[i] from by simp [hi']] at this
  ·exact z52

theorem Ss.open {H:Type} {enc:TypeId × Value->H} {w:World} {base fuel:Nat} {held:Bool} {c:Value} {y:DataW H × List MemPlace}
 (h:DataW.trod enc Tryz.prog w base (fun _=>true) held fuel 22 [c]=some y) :
 ∃(a:OAd) (n cap:Nat) (xs:List Sw),c=.slice a n cap/\Ss w a n cap xs/\(a=none->cap=0):=by
 rcases open_slice Tryz.underlying22 h with ⟨hcs,_⟩|⟨a,len,cap,m,n,D,Pl,hcs,hb,hl,hm,hmm,Uf,hi⟩
 ·exact ⟨none,0,0,[],by simpa using hcs,Ss.nil,fun _=>rfl⟩
 ·simp only [if_true] at hmm;have hmm':=hmm.symm;subst hmm'
  have each:∀i,i<len->∃x:Sw,x.Good w/\w.cell? (a.add (i*2))=some x.f/\w.cell? (a.add (i*2+1))=some x.s:=by
   intro i hil;obtain ⟨cs,hc,ht⟩:=hi i omg;rw [amn] at hc;obtain ⟨_,hcl,hat⟩:=World.cells?_some hc
   match cs,hcl with
   | [c0,c1],_ =>
     obtain ⟨y0,y1,n',_,_,h0,h1⟩:=trod_struct2 Tryz.underlying58 ht;obtain ⟨f,hf,_⟩:=DataW.trod_bool (cs:=[c0]) Tryz.underlying4 h0;obtain ⟨sa,sn,sc,l,hs,hl'⟩:=Ars.open (c:=c1) h1;simp only [List.cons.injEq,and_true] at hf;subst hf hs;have e:∀j,(a.add (i*2)).add j=a.add (i*2+j):=fun j=>by rw [Go.Deep.add_add]
     exact ⟨⟨f,sa,sn,sc,l⟩,hl',hat 0 omg,by rw [<-e 1];exact hat 1 omg⟩
  obtain ⟨xs,hxl,hx⟩:=YJ Sw.no each;refine ⟨some a,len,cap,xs,by simpa using hcs,⟨hxl,hl,hm,fun x hxm=>?_,?_⟩,(fun h=>by cases h)⟩
  ·obtain ⟨i,hi',rfl⟩:=List.mem_iff_getElem.1 hxm;have:=(hx i omg).1
   rwa [show xs.getD i Sw.no=xs[i] from by simp [hi']] at this
  ·exact z52

end
section
open Go.ChangeShapes Go.WideShapes Go.Joins Go.RowKit Go.Deep

theorem amo {α:Type} {cs:Array α} (h:cs.size=6):∃c0 c1 c2 c3 c4 c5,cs=#[c0,c1,c2,c3,c4,c5]:=by
 obtain ⟨l⟩:=cs
 match l,h with
 | [c0,c1,c2,c3,c4,c5],_=>exact ⟨c0,c1,c2,c3,c4,c5,rfl⟩
theorem amq:Tryz.prog.cellsOf 28=6:=krf
theorem amr:Tryz.prog.cellsOf 24=1:=krf
theorem ams:Tryz.prog.cellsOf 22=1:=krf
theorem amt:Tryz.prog.cellsOf 23=1:=krf

theorem Cw.opens {H:Type} {enc:TypeId × Value->H} {w:World} {base fuel:Nat} {held:Bool} {c0 c1 c2 c3 c4:Value} {y:DataW H × List MemPlace}
 (h:DataW.trod enc Tryz.prog w base (fun _=>true) held fuel 26 [c0,c1,c2,c3,c4]=some y) :
 ∃x:Cw,c0=.int .u64 x.m/\c1=.int .u64 x.l/\c2=.int .u64 x.o/\c3=.int .u64 x.t/\c4=.slice x.a x.n x.cap/\x.Good w/\(x.a=none->x.cap=0):=by
 obtain ⟨y0,y1,y2,y3,y4,n,_,_,h0,h1,h2,h3,h4⟩:=amk Tryz.underlying26 h;rw [amt] at h0 h1 h2 h3;rw [amr] at h4;obtain ⟨a0,e0,_,w0⟩:=DataW.trod_int (cs:=[c0]) Tryz.underlying23 h0;obtain ⟨a1,e1,_,w1⟩:=DataW.trod_int (cs:=[c1]) Tryz.underlying23 h1;obtain ⟨a2,e2,_,w2⟩:=DataW.trod_int (cs:=[c2]) Tryz.underlying23 h2;obtain ⟨a3,e3,_,w3⟩:=DataW.trod_int (cs:=[c3]) Tryz.underlying23 h3;obtain ⟨a,m,cap,xs,rfl,hrs,hnil,_⟩:=Rs.open (c:=c4) h4;simp only [List.cons.injEq,and_true] at e0 e1 e2 e3;subst e0 e1 e2 e3;have hb:∀z:Int,(Lit.int .u64 z).wf=true->0<=z/\z<18446744073709551616:=fun z hz=>by have:=bounds_u64 hz;omega
 refine ⟨⟨a0,a1,a2,a3,a,m,cap,xs⟩,rfl,rfl,rfl,rfl,rfl,⟨hrs,fun z hz=>?_⟩,hnil⟩;simp only [Cw.base,List.mem_cons,List.not_mem_nil,or_false] at hz;rcases hz with rfl|rfl|rfl|rfl
 ·exact hb _ w0
 ·exact hb _ w1
 ·exact hb _ w2
 ·exact hb _ w3

theorem Iw.open {H:Type} {enc:TypeId × Value->H} {w:World} {base b0:Nat} {r:Reach} {held:Bool} {v:Value} {d:DataW H} {p:List MemPlace} (hv:Value.okWide Tryz.prog w r b0 28 v)
 (h:DataW.Trod enc Tryz.prog w base (fun _=>true) held 28 v d p):∃x:Iw,v=x.v/\x.Good w/\(x.a=none->x.cap=0)/\(x.c.a=none->x.c.cap=0):=by
 obtain ⟨cs,rfl,hsz⟩:=okWide_struct Tryz.underlying28 hv;obtain ⟨c0,c1,c2,c3,c4,c5,rfl⟩:=amo (hsz.trans amq);obtain ⟨fuel,hf⟩:=h;obtain ⟨y0,y1,n,_,_,h0,h1⟩:=trod_struct2 Tryz.underlying28 hf;rw [ams] at h0;rw [aml] at h1;obtain ⟨a,m,cap,xs,rfl,hss,hnil⟩:=Ss.open (c:=c0) h0;obtain ⟨x,rfl,rfl,rfl,rfl,rfl,hx,Ki⟩:=Cw.opens (c0:=c1) (c1:=c2) (c2:=c3) (c3:=c4) (c4:=c5) h1;exact ⟨⟨a,m,cap,xs,x⟩,rfl,⟨hss,hx⟩,hnil,Ki⟩

end
end Go.Proofs.YtkiamgcpcneggaaGreat
