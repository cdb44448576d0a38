import Derived.Test.YtkiamgcpcneggaaGreatPackX
set_option linter.all false
set_option maxRecDepth 100000
set_option maxHeartbeats 12800000
namespace Go.Proofs.YtkiamgcpcneggaaGreat
section
open Go.RowKit Tri Wlk

def live (l:List St) (s:Int) (a:Int × Int):Bool:=decide (s<a.1)&&decide (dp (wds l a.2.toNat)≠-1)
theorem ajg {l:List St} {i:Nat} {s:Int} {arcs:List (Int × Int)} (ha:(l.getD i St.no).arcs=arcs) (h:(arcs.filter (live l s)).length<=300):goes l i s=arcs.filter (live l s):=by
 unfold goes;rw [ha];exact tol h
theorem ajh {l:List St} {i:Nat} {s:Int} {arcs:List (Int × Int)} {j:Nat} (ha:(l.getD i St.no).arcs=arcs) (h:((arcs.take j).filter (live l s)).length=300):goes l i s=(arcs.take j).filter (live l s):=by
 have e:goes l i s=(arcs.filter (live l s)).take 300:=by unfold goes;rw [ha];rfl
 have e2:arcs.filter (live l s)=(arcs.take j).filter (live l s)++(arcs.drop j).filter (live l s):=by rw [<-List.filter_append,List.take_append_drop]
 rw [e,e2,List.take_append_of_le_length omg,tol omg]

theorem Xq {l:List St} (hc:check l=true) (i:Nat) (hi:i<l.length) (s:Int) (xs:List Sw) (hxs:sts xs=l) (sa da wa:OAd) (sn sc dn dc wn wc yl:Nat) (ds:LIn) (w:World) (hx:Ss w sa sn sc xs) (hd:Sl .i64 w da dn dc ds) (hdn:dn=l.length)
 (hds:∀j,j<l.length->ds.getD j 0=dp (wds l j)) :
 Calls Tryz.prog 147 #[.agg #[.slice sa sn sc,.slice da dn dc,.slice wa wn wc,.func (.yield yl) #[] #[]],.int .i64 (i:Int),.int .i64 s] w fun e w'=>∃a' c',e=.returned (.slice a' (goes l i s).length c') /\
  w'.ownsRow w.heap.size 95 2 (.slice a' (goes l i s).length c') (goes l i s).length (aL (goes l i s))/\Below w.heap.size w w':=by
 have hin:i<sn:=by rw [<-hx.1,<-fq,hxs];exact hi
 obtain ⟨b1,o1,fi,aa,an,ac,arcs,rfl,_,hx1,hx2,bS,hz1⟩:=hx.one i hin;have iE:(l.getD i St.no).arcs=arcs:=by rw [<-hxs,ic,hz1];rfl
 have hac:=bS.2.1;have anX:=bS.2.2.1;have hsc:=hx.2.1;have oC:=hx.2.2.1;have BN:=hd.2.1;have anY:=hd.2.2.1;unfold maxLen at anX oC anY;have jc:=hdq bS;have fG:Hid (arcs.length=an):=hdq bS.1;have HD:=hdq hd
 have mK:Hid (∀k,k<an->∀s t,arcs.getD k (0,0)=(s,t)->∃(u:Nat),t=(u:Int)/\u<dn/\ds.getD u 0=dp (wds l u)):=hdq fun k hk s t hst=>by
  have hm:(s,t)∈(l.getD i St.no).arcs:=by
   rw [iE,<-hst,gdq,geg (by rw [bS.1];exact hk),Option.getD_some];exact List.getElem_mem _
  obtain ⟨_,h2,h3⟩:=(ik hc hi).1 _ hm;simp only at h2 h3;obtain ⟨u,rfl⟩:∃u:Nat,t=(u:Int):=⟨t.toNat,by omega⟩;exact ⟨u,rfl,by omega,hds u omg⟩
 have HW1:Hid (∀n,n=(arcs.filter (live l s)).length->n<=300->goes l i s=arcs.filter (live l s)/\(goes l i s).length=n):=hdq fun n hn kN=>by
  have:=ajg (s:=s) iE omg;exact ⟨this,by rw [this];omega⟩
 have HW2:Hid (∀j,((arcs.take j).filter (live l s)).length=300->goes l i s=(arcs.take j).filter (live l s)/\(goes l i s).length=300):=hdq fun j hj=>by
  have:=ajh (s:=s) iE hj;exact ⟨this,by rw [this];exact hj⟩
 have HB0:∀o,Hid (Below w.heap.size w (w.alloc o)):=fun o=>hdq ((Below.refl _ w).alloc lrf o);have hii:(i:Int)<(sn:Int):=omg;have hi0:(0:Int)<=(i:Int):=omg;clear hx hd hds bS iE hz1 hxs hdn hi hc;go_enter Tryz.func147,Tryz.ntmps147;go_wp2;clear hx1 hx2

 go_loopw [7,17] (fun ov ix wr=>∃(j:Nat) (o':OAd) (on oc:Nat),j<=an/\ix=.int .i64 (j:Int)/\ov=.slice o' on oc/\on<=300/\Hid (((arcs.take j).filter (live l s)).length=on) /\
  Hid (wr.ownsRow (w.heap.size+1) 95 2 (.slice o' on oc) on (aL ((arcs.take j).filter (live l s))))/\Hid (wr.heap[w.heap.size]?=some (.cells #[.slice (some ⟨b1,o1,none⟩) sn sc,.slice da dn dc,.slice wa wn wc,.func (.yield yl) #[] #[]] 188 (0,0)))/\Hid (Below w.heap.size w wr)) (fun _ ix _=>an-(intOf ix).toNat)
 case atStart=>exact ⟨0,none,0,0,Nat.zero_le _,rfl,rfl,by omega,rfl,by rw [List.take_zero];exact World.ownsRow_nil _ _ _ _,han w _,(HB0 _).out⟩
 case round =>
  obtain ⟨j,o',on,oc,hj,rfl,rfl,hon,Fe,HO,aN,HW⟩:=hrel;have lN:∀W:World,W.ownsRow (w.heap.size+1) 95 2 (.slice o' on oc) on (aL ((arcs.take j).filter (live l s)))->W.ownsRow w.heap.size 95 2 (.slice o' on oc) on (aL ((arcs.take j).filter (live l s))):=fun W h=>lW h omg;by_cases hlt:j<an
  ·obtain ⟨b2,o2,s2,t2,rfl,hb2,hy1,hy2,_,_,hz2⟩:=(jc.out.below HW.out lrf).one j hlt;obtain ⟨u,rfl,hu,Qs⟩:=mK.out j hlt _ _ hz2;have bB:(j:Int)<(an:Int):=omg;by_cases uf:on=300
   ·have h3:((on:Int)==300)=true:=by simp [uf]
    obtain ⟨g1,g2⟩:=HW2.out j (by rw [Fe.out,uf]);have nE:=hdq (And.intro g1 (g2.trans uf.symm));have mF:∀o,Hid (Below w.heap.size w (wr.alloc o)):=fun o=>HW.out.alloc HW.out.size o;have qw:∀o,Hid ((wr.alloc o).ownsRow (w.heap.size+1) 95 2 (.slice o' on oc) on (aL ((arcs.take j).filter (live l s)))):=fun o=>HO.out.alloc _;clear hz2 hb2 Qs g1 g2;subst uf;go_wp2;go_ret;exact ⟨o',oc,by rw [nE.out.2];rfl,by rw [nE.out.2,nE.out.1];exact lN _ (qw _).out,(mF _).out⟩
   ·have h3:((on:Int)==300)=false:=by simp;omega
    have asz:on<300:=omg;have mF:∀o,Hid (Below w.heap.size w (wr.alloc o)):=fun o=>HW.out.alloc HW.out.size o;have qw:∀o,Hid ((wr.alloc o).ownsRow (w.heap.size+1) 95 2 (.slice o' on oc) on (aL ((arcs.take j).filter (live l s)))):=fun o=>HO.out.alloc _
    have gp:∀o,Hid ((wr.alloc o).heap[w.heap.size]?=some (.cells #[.slice (some ⟨b1,o1,none⟩) sn sc,.slice da dn dc,.slice wa wn wc,.func (.yield yl) #[] #[]] 188 (0,0))):=fun o=>by
     have:=(hltq aN.out);show _=_;rw [Below.heap_alloc _ _ _ this];exact aN.out
    have hlz:=(hltq aN.out);have Kt:=hdq (sZ (l:=arcs) (j:=j) (by rw [fG.out];exact hlt) hz2);have Ff:Hid (live l s (s2,(u:Int))=false->(arcs.take (j+1)).filter (live l s)=(arcs.take j).filter (live l s)):=hdq fun h=>by rw [Kt.out,List.filter_append,List.filter_cons_of_neg (by rw [h];simp)];simp
    have Ku:Hid (live l s (s2,(u:Int))=true->(arcs.take (j+1)).filter (live l s)=(arcs.take j).filter (live l s)++[(s2,(u:Int))]):=hdq fun h=>by rw [Kt.out,List.filter_append,List.filter_cons_of_pos h];simp
    have dY:Hid (live l s (s2,(u:Int))=(decide (s<s2)&&decide (dp (wds l u)≠-1))):=rfl;obtain ⟨db,ZO,rfl,hdb,ZP⟩:=(HD.out.below HW.out lrf).at omg;have hcell:=ZP u hu;rw [Qs] at hcell;obtain ⟨v,hv⟩:∃v,v=dp (wds l u):=⟨_,rfl⟩;rw [<-hv] at hcell dY;have c1:wr.cell? ⟨w.heap.size,1,none⟩=some (.slice (some ⟨db,ZO,none⟩) dn dc):=by rw [af aN.out];rfl
    clear hz2 hb2 Qs ZP hv;by_cases hs:s<s2
    ·have hsd:decide (s<s2)=true:=decide_eq_true hs;have hsd2:decide (s2>s)=true:=decide_eq_true hs;by_cases hv1:v=-1
     ·have hvb:(v==-1)=true:=by simp [hv1]
      have hvn:(v != -1)=false:=by simp [hv1]
      have tO:Hid ((arcs.take (j+1)).filter (live l s)=(arcs.take j).filter (live l s)):=hdq (Ff.out (by rw [dY.out,hsd,hv1];rfl));clear Ff Ku dY;subst hv1;go_wp2;go_roundw
      case rel=>exact ⟨j+1,o',on,oc,by omega,by go_num,rfl,hon,by show _=_;rw [tO.out];exact Fe.out,by show World.ownsRow _ _ _ _ _ _ _;rw [tO.out];exact (qw _).out,(gp _).out,(mF _).out⟩
      case measure=>simp [intOf];omega
     ·have hvb:(v==-1)=false:=by simpa using hv1
      have hvn:(v != -1)=true:=by simp [bne,hvb]
      have HL2:∀o:Obj,Hid (((wr.alloc o).alloc (.cells #[.int .i64 s2,.int .i64 (u:Int)] 95)).cell? ⟨wr.heap.size+1,0,none⟩=some (.int .i64 s2)/\((wr.alloc o).alloc (.cells #[.int .i64 s2,.int .i64 (u:Int)] 95)).cell? ⟨wr.heap.size+1,1,none⟩=some (.int .i64 (u:Int))):=fun o=>by
       have:=pU (wr.alloc o) (.int .i64 s2) (.int .i64 (u:Int)) 95 (0,0);rw [World.size_alloc] at this;exact this
      have tO:Hid ((arcs.take (j+1)).filter (live l s)=(arcs.take j).filter (live l s)++[(s2,(u:Int))]):=hdq (Ku.out (by rw [dY.out,hsd,decide_eq_true hv1];rfl));clear Ff Ku dY;go_wp2_with (at_builtin;refine aeU rfq (.tmp 37) (.tmp 39) rfq (w.heap.size+1) _ on ((arcs.take j).filter (live l s)) rfq ((qw _).out.alloc _) (wr.heap.size+1) (s2,(u:Int)) rfq (HL2 _).out.1 (HL2 _).out.2 (on+1) rfl omg (by simp;omega) ?_;intro a' c' w6 hown hb hgr hnil;have jq:=hdq hown;have bZ:=hdq hb;clear hown hb hgr hnil)
      have zC:w6.heap[w.heap.size]?=some (.cells #[.slice (some ⟨b1,o1,none⟩) sn sc,.slice (some ⟨db,ZO,none⟩) dn dc,.slice wa wn wc,.func (.yield yl) #[] #[]] 188 (0,0)):=by
       rw [bZ.out.block w.heap.size omg,Below.heap_alloc _ _ _ (by simp;omega)];exact (gp _).out
      have hb6:Below w.heap.size w w6:=((mF _).out.alloc (by have:=HW.out.size;simp;omega) _).trans (bZ.out.mono omg);refine ⟨⟨j+1,a',on+1,c',by omega,by go_num,rfl,by omega,?_,?_,zC,hb6⟩,by simp [intOf];omega⟩
      ·show _=_;rw [tO.out,List.length_append,Fe.out];rfl
      ·show World.ownsRow _ _ _ _ _ _ _;rw [tO.out];exact jq.out
    ·have hsd:decide (s<s2)=false:=decide_eq_false hs;have hsd2:decide (s2>s)=false:=decide_eq_false hs;have tO:Hid ((arcs.take (j+1)).filter (live l s)=(arcs.take j).filter (live l s)):=hdq (Ff.out (by rw [dY.out,hsd];rfl));clear Ff Ku dY;go_wp2;go_roundw
     case rel=>exact ⟨j+1,o',on,oc,by omega,by go_num,rfl,hon,by show _=_;rw [tO.out];exact Fe.out,by show World.ownsRow _ _ _ _ _ _ _;rw [tO.out];exact (qw _).out,(gp _).out,(mF _).out⟩
     case measure=>simp [intOf];omega
  ·have hjn:j=an:=omg;obtain ⟨g1,g2⟩:=HW1.out on (by rw [<-Fe.out,hjn,<-fG.out,List.take_length]) hon;have nE:Hid (goes l i s=(arcs.take j).filter (live l s)/\(goes l i s).length=on):=hdq ⟨by rw [g1,hjn,<-fG.out,List.take_length],g2⟩;clear g1 g2 hjn;go_wp2;go_ret;exact ⟨o',oc,by rw [nE.out.2];rfl,by rw [nE.out.2,nE.out.1];exact lN _ HO.out,HW.out⟩

end
section
open Go.RowKit Tri

theorem aji {w:World} {ops:Array Oper} {rest:List Oper} {o:Oper} {act:Act} {Q:Exit->Act->World->Prop} (hgd:o.guard=none) (s x:Operand)
 (ho:o.op=.call { callee:=.builtin .append,args:=#[s,x],argTypes:=#[29,29] }) (base:Nat) (v:Value) (n:Nat) (xs:List Wd) (hs:act.eval s=v)
 (hown:w.ownsRow base 51 1 v n (vals xs)) (a:OAd) (m c:Nat) (zs:List Wd) (hx:act.eval x=.slice a m c) (hz:Ws w a m c zs) (ha:a=none->c=0)
 (N:Nat) (hN:n+m=N) (h63:N*24<=140737488355328) (hbase:base<=w.heap.size)
 (h:∀a' c' w',w'.ownsRow base 51 1 (.slice a' N c') N (vals (xs++zs))->Below base w w'->w.grownBy w' v.ownBlock->(a'=none->c'=0)->wpList Tryz.prog ops Q rest (act.put o.dst (.slice a' N c')) w') :
 wpList Tryz.prog ops Q (o::rest) act w:=by
 subst hN;obtain ⟨i0,hi,hz0,hz1,hz2⟩:=info_parts Dn
 have form:∀{w':World} {v':Value} {k:Nat} {l:List Value},w'.ownsRow base 51 1 v' k l->∃a' c',v'=.slice a' k c'/\(a'=none->c'=0):=by
  intro w' v' k l ho;rcases ho.2 with ⟨h1,h2⟩|⟨g,cap,cur,h1,_⟩
  ·subst h2;exact ⟨none,0,h1,fun _=>rfl⟩
  ·exact ⟨_,cap,h1,fun h=>by cases h⟩
 cases a with
 | none =>
   obtain rfl:=ha rfl;obtain rfl:m=0:=by have:=hz.2.1;omega
   obtain rfl:zs=[]:=List.eq_nil_of_length_eq_zero hz.1;obtain ⟨a',c',rfl,hnil⟩:=form hown;refine wpList_append_own_none hgd s x 29 ho base 51 i0 1 Tryz.underlying29 hi _ n (vals xs) hs hown hx ?_;exact h a' c' w (by simpa using hown) (Below.refl _ _) (World.grownBy.refl w _) hnil
 | some y =>
   have hnews:∀j u,(vals zs)[j]?=some u->w.cell? (y.add j)=some u:=by
    intro j u hj
    have hjl:j<zs.length:=by
     rcases Nat.lt_or_ge j zs.length with hlt|hge
     ·exact hlt
     ·simp [vals,List.getElem?_eq_none hge] at hj
    obtain ⟨b,off,hy,_,hc⟩:=hz.at (by have:=hz.1;omega);simp only [sij] at hy;subst hy;have:=hc j (by have:=hz.1;omega);rw [show (⟨b,off,none⟩:Addr).add j=⟨b,off+j,none⟩ from by simp [Addr.add],this];simp [vals,hjl] at hj;rw [<-hj];simp [hjl,Wd.v]
   refine wpList_append_own w hgd s x 29 ho base 51 i0 (.slice none 0 0) 1 24 Tryz.underlying29 hi hz0 hz1 hz2 rfl (by decide) v n (vals xs) hs hown y m c (vals zs) hx (by simp [vals,hz.1]) hnews (Dp zs) (by unfold maxLen;omega) h63 hbase ?_;intro v' w' hown' hgrow _;obtain ⟨a',c',rfl,hnil⟩:=form hown';refine h a' c' w' (by rw [II];exact hown') ?_ hgrow hnil;exact (Below.refl _ _).grown hgrow hbase (fun k hk=>(hown.lt k hk).1)
theorem Xr:(51:TypeId)≠3:=by decide
structure Ml (B:Nat) (w:World) (a:OAd) (L c:Nat) (outs:List Wd):Prop where
 row:w.ownsRow B 51 1 (.slice a L c) L (vals outs)
 own:∀x∈outs,w.ownsRow B 3 1 x.v x.n (ay x.zs)
 wfs:∀x∈outs,∀z∈x.zs,(Lit.int .i64 z).wf=true
 lens:∀x∈outs,x.zs.length=x.n
 len:outs.length=L
 nil:a=none->c=0
theorem Ml.start (B:Nat) (w:World):Ml B w none 0 0 [] :=
 ⟨⟨rfl,.inl ⟨rfl,rfl⟩⟩,by simp,by simp,by simp,rfl,fun _=>rfl⟩
theorem Ml.below {B:Nat} {w w':World} {a:OAd} {L c:Nat} {outs:List Wd} (h:Ml B w a L c outs) (hb:Below w.heap.size w w'):Ml B w' a L c outs :=
 ⟨ownsRow_below h.row hb lrf,fun x hx=>ownsRow_below (h.own x hx) hb lrf,h.wfs,h.lens,h.len,h.nil⟩
theorem Ml.words {B:Nat} {w:World} {a:OAd} {L c:Nat} {outs:List Wd} (h:Ml B w a L c outs):Ws w a L c outs :=
 Ws.of_owns h.row (fun x hx=>Sl.of_owns (h.own x hx) (h.wfs x hx) (h.lens x hx)) h.len
theorem Ml.add {B:Nat} {w w':World} {a a':OAd} {L c c':Nat} {outs:List Wd} (h:Ml B w a L c outs) (x:Wd) (hx:w.ownsRow B 3 1 x.v x.n (ay x.zs)) (hz:∀z∈x.zs,(Lit.int .i64 z).wf=true) (hl:x.zs.length=x.n)
 (hrow:w'.ownsRow B 51 1 (.slice a' (L+1) c') (L+1) (vals (outs++[x]))) (hg:w.grownBy w' (Value.slice a L c).ownBlock) (hn:a'=none->c'=0):Ml B w' a' (L+1) c' (outs++[x]):=by
 have hk:=dG.row hg h.row Xr;refine ⟨hrow,fun y hy=>?_,fun y hy=>?_,fun y hy=>?_,by simp [h.len],hn⟩
 ·rcases map1 hy with hy|hy
  ·exact hk.owns (h.own y hy)
  ·rw [msg hy];exact hk.owns hx
 ·rcases map1 hy with hy|hy
  ·exact h.wfs y hy
  ·rw [msg hy];exact hz
 ·rcases map1 hy with hy|hy
  ·exact h.lens y hy
  ·rw [msg hy];exact hl
theorem oh {w:World} {B B':Nat} {e:TypeId} {size n:Nat} {v:Value} {l:List Value} (h:w.ownsRow B e size v n l) (hB:B'<=B):w.ownsRow B' e size v n l:=by
 refine ⟨h.1,?_⟩;rcases h.2 with h1|⟨g,c,cur,h1,h2,h3⟩
 ·exact .inl h1
 ·exact .inr ⟨g,c,cur,h1,by omega,h3⟩

end
section
open Go.RowKit Tri Wlk

theorem run_store_func {P:Program} {w:World} (a:Addr) (m:Mode) (f:Fn) (b c:Array Value):(store a (.func f b c) m).run P w=stored P w a (.func f b c) m:=run_store P w a _ m rfl
attribute [local go_sem] run_store_func
theorem ajj:(Tryz.prog.info? 56).map (fun i=>(i.zero,i.size,i.bytes))=some (some (.slice none 0 0),1,24):=krf
structure Al (B:Nat) (w:World) (a:OAd) (L c:Nat) (outs:List Sw):Prop where
 row:w.ownsRow B 56 1 (.slice a L c) L (outs.map Sw.s)
 own:∀x∈outs,w.ownsRow B 95 2 x.s x.n (aL x.arcs)
 wfs:∀x∈outs,∀z∈x.arcs,(Lit.int .i64 z.1).wf=true/\(Lit.int .i64 z.2).wf=true
 lens:∀x∈outs,x.arcs.length=x.n
 len:outs.length=L
 nil:a=none->c=0
theorem Al.start (B:Nat) (w:World):Al B w none 0 0 [] :=
 ⟨⟨rfl,.inl ⟨rfl,rfl⟩⟩,by simp,by simp,by simp,rfl,fun _=>rfl⟩
theorem Al.below {B:Nat} {w w':World} {a:OAd} {L c:Nat} {outs:List Sw} (h:Al B w a L c outs) (hb:Below w.heap.size w w'):Al B w' a L c outs :=
 ⟨ownsRow_below h.row hb lrf,fun x hx=>ownsRow_below (h.own x hx) hb lrf,h.wfs,h.lens,h.len,h.nil⟩
theorem Al.lower {B B':Nat} {w:World} {a:OAd} {L c:Nat} {outs:List Sw} (h:Al B w a L c outs) (hB:B'<=B):Al B' w a L c outs :=
 ⟨oh h.row hB,fun x hx=>oh (h.own x hx) hB,h.wfs,h.lens,h.len,h.nil⟩
theorem Al.set {B:Nat} {w:World} {a:OAd} {L c:Nat} {outs:List Sw} (h:Al B w a L c outs) (b o:Nat) (v:Value) (hb:b<B):Al B (w.setCell ⟨b,o,none⟩ v) a L c outs:=by
 have hne:∀{e:TypeId} {size n:Nat} {u:Value} {l:List Value},w.ownsRow B e size u n l->(w.setCell ⟨b,o,none⟩ v).ownsRow B e size u n l:=fun h=>by
  refine ⟨h.1,?_⟩;rcases h.2 with hn|⟨g,cap,cur,rfl,hg,hgg,rest⟩
  ·exact .inl hn
  ·exact .inr ⟨g,cap,cur,rfl,hg,(heap_setCell_other _ _ _ _ (by show g≠b;omega)).trans hgg,rest⟩
 exact ⟨hne h.row,fun x hx=>hne (h.own x hx),h.wfs,h.lens,h.len,h.nil⟩
theorem Sl.set4 {k:IntKind} {w:World} {b n cap:Nat} {zs:LIn} (h:Sl k w (some ⟨b,0,none⟩) n cap zs) (r:Nat) (v0 v1 v2 v3:Value) (hb:r<b):Sl k ((((w.setCell ⟨r,0,none⟩ v0).setCell ⟨r,1,none⟩ v1).setCell ⟨r,2,none⟩ v2).setCell ⟨r,3,none⟩ v3) (some ⟨b,0,none⟩) n cap zs:=by
 have hk:ae (fun k=>k≠r) w ((((w.setCell ⟨r,0,none⟩ v0).setCell ⟨r,1,none⟩ v1).setCell ⟨r,2,none⟩ v2).setCell ⟨r,3,none⟩ v3) :=
  (((ae.setCell w ⟨r,0,none⟩ v0 (fun h=>h rfl)).trans (ae.setCell _ ⟨r,1,none⟩ v1 (fun h=>h rfl))).trans (ae.setCell _ ⟨r,2,none⟩ v2 (fun h=>h rfl))).trans (ae.setCell _ ⟨r,3,none⟩ v3 (fun h=>h rfl))
 exact h.keep hk fun b' off e=>by
  simp only [sij,Addr.mk.injEq] at e;omega
theorem Xt:(56:TypeId)≠95:=by decide
theorem Xu {w w':World} {B B' size n k:Nat} {e:TypeId} {v u:Value} {l xs:List Value} (hg:w.grownBy w' v.ownBlock) (h:w.ownsRow B' e size v n l) (hne:e≠95) (ho:w.ownsRow B 95 2 u k xs):w'.ownsRow B 95 2 u k xs:=by
 refine ⟨ho.1,?_⟩;rcases ho.2 with hn|⟨g,cap,cur,rfl,hb,hgg,rest⟩
 ·exact .inl hn
 ·refine .inr ⟨g,cap,cur,rfl,hb,(hg.block g (hltq hgg) (fun e'=>?_)).trans hgg,rest⟩;obtain ⟨cur',hc⟩:=ng h e'.symm;rw [hgg] at hc;simp only [sij,Obj.cells.injEq] at hc;exact hne hc.2.1.symm
theorem Al.add {B:Nat} {w w':World} {a a':OAd} {L c c':Nat} {outs:List Sw} (h:Al B w a L c outs) (x:Sw) (hx:w.ownsRow B 95 2 x.s x.n (aL x.arcs)) (hz:∀z∈x.arcs,(Lit.int .i64 z.1).wf=true/\(Lit.int .i64 z.2).wf=true) (hl:x.arcs.length=x.n)
 (hrow:w'.ownsRow B 56 1 (.slice a' (L+1) c') (L+1) ((outs++[x]).map Sw.s)) (hg:w.grownBy w' (Value.slice a L c).ownBlock) (hn:a'=none->c'=0):Al B w' a' (L+1) c' (outs++[x]):=by
 refine ⟨hrow,fun y hy=>?_,fun y hy=>?_,fun y hy=>?_,by simp [h.len],hn⟩
 ·rcases map1 hy with hy|hy
  ·exact Xu hg h.row Xt (h.own y hy)
  ·rw [msg hy];exact Xu hg h.row Xt hx
 ·rcases map1 hy with hy|hy
  ·exact h.wfs y hy
  ·rw [msg hy];exact hz
 ·rcases map1 hy with hy|hy
  ·exact h.lens y hy
  ·rw [msg hy];exact hl
theorem ajk (outs:List Sw):∀u∈outs.map Sw.s,u.oneCell'=true:=by
 intro u hu;obtain ⟨x,_,rfl⟩:=List.mem_map.1 hu;rfl
theorem Js {w:World} {ops:Array Oper} {o:Oper} {act:Act} {K:Act->World->Prop} {Q:Exit->Act->World->Prop} {E:Prop} (hw:Region.wanted o (yielded ops act.tmps)=true) (x:Operand) (a:OAd) (n c:Nat)
 (ho:o.op=.buildSlice 186 1 #[(0,x)]) (hx:act.eval x=.slice a n c) (h:∀g w',w'.cell? ⟨g,0,none⟩=some (.slice a n c)->Below w.heap.size w w'->K (act.put o.dst (.slice (some ⟨g,0,none⟩) 1 1)) w') :
 if Region.wanted o (yielded ops act.tmps)=true then o.wp Tryz.prog act w K Q else E:=by
 rw [if_pos hw];unfold Oper.wp;simp only [execOp,ho,List.map_toArray,List.map_cons,List.map_nil,hx];go_simp;exact h _ _ (by rw [World.cell?,han];rfl) ((Below.refl _ w).alloc lrf _)
theorem Jt {w:World} {ops:Array Oper} {o:Oper} {act:Act} {K:Act->World->Prop} {Q:Exit->Act->World->Prop} {E:Prop} (hw:Region.wanted o (yielded ops act.tmps)=true) (s x:Operand)
 (ho:o.op=.call { callee:=.builtin .append,args:=#[s,x],argTypes:=#[186,186] }) (base:Nat) (v:Value) (n:Nat) (l:List Sw) (hs:act.eval s=v)
 (hown:w.ownsRow base 56 1 v n (l.map Sw.s)) (g:Nat) (y:Sw) (hx:act.eval x=.slice (some ⟨g,0,none⟩) 1 1) (h0:w.cell? ⟨g,0,none⟩=some y.s)
 (N:Nat) (hN:n+1=N) (h63:N*24<=140737488355328) (hbase:base<=w.heap.size)
 (h:∀a' c' w',w'.ownsRow base 56 1 (.slice a' N c') N ((l++[y]).map Sw.s)->Below base w w'->w.grownBy w' v.ownBlock->(a'=none->c'=0)->K (act.put o.dst (.slice a' N c')) w') :
 if Region.wanted o (yielded ops act.tmps)=true then o.wp Tryz.prog act w K Q else E:=by
 subst hN;rw [if_pos hw];refine yj s x 186 56 ho _ 1 24 Tryz.underlying186 ajj rfl omg base v n (l.map Sw.s) hs hown _ 1 1 ([y].map Sw.s) hx rfl (fun _=>⟨_,rfl,fun j u hj=>?_⟩) (ajk [y]) (by unfold maxLen;omega) omg hbase ?_
 ·match j,hj with
  | 0,hj=>simp at hj;rw [<-hj,<-h0];simp [Addr.add]
  | j+1,hj=>simp at hj
 ·intro a' c' w' h1 h2 h3 h4;exact h a' c' w' (by rw [List.map_append];exact h1) h2 h3 h4

theorem ajl {l:List St} (hc:check l=true) (a:OAd) (n cap yl:Nat) (ys:List Sw) (w:World) (hy:Ss w a n cap ys) (hys:sts ys=l) :
 Calls Tryz.prog 143 #[.slice a n cap,.func (.yield yl) #[] #[]] w fun e w'=>∃(da wa:OAd) (dc wc:Nat) (ds:LIn) (outs:List Sw),e=.returned (.agg #[.slice a n cap,.slice da n dc,.slice wa n wc,.func (.yield yl) #[] #[]]) /\
  Sl .i64 w' da n dc ds/\(∀b off,da=some ⟨b,off,none⟩->w.heap.size<=b)/\(∀j,j<n->ds.getD j 0=dp (wds l j))/\Al w.heap.size w' wa n wc outs/\outs.map Sw.arcs=(List.range n).map (fun j=>goes l j (-1))/\Below w.heap.size w w':=by
 have hyl:l.length=n:=by rw [<-hys,fq];exact hy.1
 have hN:n<=6001:=by have:=(jo hc).2;omega
 have ZN:=hy.2.1;have aoa:=hy.2.2.1;unfold maxLen at aoa;have HY:=hdq hy;have rM:=hdq hys;have iR:=hdq hyl;have HC:=hdq hc;have HB0:∀o,Hid (Below w.heap.size w (w.alloc o)):=fun o=>hdq ((Below.refl _ w).alloc lrf o);have HFL:Hid (∀W,Ss W a n cap ys->Calls Tryz.prog 107 #[.slice a n cap,.func (.func 160) #[] #[]] W _):=hdq fun W h=>WS hc a n cap ys W h hys;clear hy hys hyl hc;have hmx:Tryz.prog.follows .mixedOrders=true:=krf;go_enter Tryz.func143,Tryz.ntmps143;go_wp2_with (go_at_call 107;refine (HFL.out _ (HY.out.alloc _)).mono ?_;rintro e w1 ⟨rfl,ds,hown1,ZQ,ZR,ZT,hb1⟩;simp only [World.size_alloc] at hown1;have BO:=hdq hown1;have ZU:=hdq ZQ;have JW:=hdq ZR;have Fg:=hdq ZT;have ai:=hdq hb1;clear hown1 ZQ ZR ZT hb1)
 have BP:Hid (∀(W:World) (j:Nat) (wa:OAd) (wn wc:Nat),j<n->Below w1.heap.size w1 W->Calls Tryz.prog 147 #[.agg #[.slice a n cap,.slice (some ⟨w.heap.size+1+1,0,none⟩) n n,.slice wa wn wc,.func (.yield yl) #[] #[]],.int .i64 (j:Int),.int .i64 (-1)] W
  fun e w'=>∃a' k c',e=.returned (.slice a' k c')/\(goes l j (-1)).length=k/\w'.ownsRow W.heap.size 95 2 (.slice a' k c') k (aL (goes l j (-1)))/\Below W.heap.size W w'):=hdq fun W j wa wn wc hj hW=>by
  have hsl:Sl .i64 W (some ⟨w.heap.size+1+1,0,none⟩) n n ds:=(Sl.of_owns BO.out JW.out ZU.out).below hW lrf;have hss:Ss W a n cap ys:=((HY.out.alloc _).below ai.out lrf).below hW lrf;refine (Xq HC.out j (by rw [iR.out];exact hj) (-1) ys rM.out a _ wa n cap n n wn wc yl ds W hss hsl iR.out.symm (fun i hi=>Fg.out i (by rw [<-iR.out];exact hi))).mono ?_;rintro e w' ⟨a',c',rfl,h1,h2⟩;exact ⟨a',_,c',rfl,rfl,h1,h2⟩
 have hs1:w.heap.size+1+1<w1.heap.size:=by have:=(BO.out.lt _ rfl).2;simpa using this
 have hrz:w1.heap[w.heap.size]?=some (.cells #[.slice none 0 0,.slice none 0 0,.slice none 0 0,.nilFunc] 188 (0,0)):=by
  rw [ai.out.block w.heap.size smp];exact han w _
 have HRZ:=hdq hrz;clear hrz
 go_loopw [14] (fun ix wr=>∃(j:Nat) (wa:OAd) (wc:Nat) (outs:List Sw),j<=n/\ix=.int .i64 (j:Int)/\Hid (wr.heap[w1.heap.size]?=some (.cells #[.slice a n cap,.slice (some ⟨w.heap.size+1+1,0,none⟩) n n,.slice wa j wc,.func (.yield yl) #[] #[]] 188 (0,0))) /\
  Hid (Al (w1.heap.size+1) wr wa j wc outs)/\Hid (outs.map Sw.arcs=(List.range j).map (fun j=>goes l j (-1)))/\Hid (Below w1.heap.size w1 wr)) (fun ix _=>n-(intOf ix).toNat)
 case atStart=>exact ⟨0,none,0,[],Nat.zero_le _,rfl,han w1 _,Al.start _ _,rfl,(Below.refl _ _).alloc lrf _⟩
 case round =>
  obtain ⟨j,wa,wc,outs,hj,rfl,aN,fG,bq,HW⟩:=hrel;by_cases hlt:j<n
  ·have bB:(j:Int)<(n:Int):=omg;have nG:Below wr.heap.size wr wr.drew:=aG (Below.refl _ _) ⟨1,rfl⟩;have hsz:=(hltq aN.out)
   have iG:Hid (∀W:World,Below wr.heap.size wr W->W.heap[w1.heap.size]?=some (.cells #[.slice a n cap,.slice (some ⟨w.heap.size+1+1,0,none⟩) n n,.slice wa j wc,.func (.yield yl) #[] #[]] 188 (0,0))/\W.cell? ⟨w1.heap.size,2,none⟩=some (.slice wa j wc)):=hdq fun W hW=>by
    have h:W.heap[w1.heap.size]?=_:=(hW.block w1.heap.size hsz).trans aN.out;exact ⟨h,by rw [af h];rfl⟩
   have c0:wr.drew.cell? ⟨w1.heap.size,0,none⟩=some (.slice a n cap):=by rw [af (iG.out _ nG).1];rfl
   have c1:wr.drew.cell? ⟨w1.heap.size,1,none⟩=some (.slice (some ⟨w.heap.size+1+1,0,none⟩) n n):=by rw [af (iG.out _ nG).1];rfl
   have c2:=(iG.out _ nG).2;have c3:wr.drew.cell? ⟨w1.heap.size,3,none⟩=some (.func (.yield yl) #[] #[]):=by rw [af (iG.out _ nG).1];rfl
   have nH:Hid (∀z∈goes l j (-1),(Lit.int .i64 z.1).wf=true/\(Lit.int .i64 z.2).wf=true):=hdq fun z hz=>by
    obtain ⟨g1,g2,g3⟩:=(ik HC.out (by rw [iR.out];exact hlt)).1 z (tu hz).1;have:=(Utf.lX _).1 g1;rw [iR.out] at g3;exact ⟨WalkArith.wf_i64 omg,WalkArith.wf_i64 omg⟩
   go_wp2;refine wp_region_held_drew (S:=(fun _=>True)) krf (by first|(trivial)|((try dsimp only);trivial)) (fun hHeld=>?_);refine t_h 0 ?_;refine t_h 3 ?_;refine fT 1 2 (fun K hK=>?_) (fun K hK=>?_)
   ·go_simp;refine k_h hK (by trivial) (fun hHeld=>?_);clear hK K;refine r_h 2 (fun K hK=>?_);go_simp;refine k_h hK (by trivial) (fun hHeld=>?_);clear hK K;refine r_h 4 (fun K hK=>?_);go_simp;go_at_call 147;refine (BP.out _ j wa j wc hlt (HW.out.trans (nG.mono HW.out.size))).mono ?_;rintro e w7 ⟨a7,k7,c7,rfl,ky,bH,iF⟩;have az:Below wr.heap.size wr w7:=nG.trans iF;have ZV:=(iG.out _ az).2;have aU:=hdq bH;have xg:=hdq ky;clear bH ky;go_wp2_with fail;refine k_h hK (by trivial) (fun hHeld=>?_);clear hK K;refine r_h 5 (fun K hK=>?_);refine Js rfq (.tmp 21) a7 k7 c7 rfq rfq ?_;intro gB wB hcB gK;have au:Below wr.heap.size wr wB:=az.trans (gK.mono az.size);have Qt:=(iG.out _ au).2;have aV:=hdq (ownsRow_below aU.out gK lrf);refine k_h hK (by trivial) (fun hHeld=>?_);clear hK K;refine r_h 6 (fun K hK=>?_);refine Jt rfq (.tmp 18) (.tmp 22) rfq (w1.heap.size+1) (.slice wa j wc) j outs rfq (fG.out.below au).row gB ⟨false,a7,k7,c7,goes l j (-1)⟩ rfq hcB (j+1) rfl omg (by have:=au.size;omega) ?_;intro a9 c9 w9 jG mO eP fO;have jS:w9.heap[w1.heap.size]?=_:=(mO.block w1.heap.size omg).trans (iG.out _ au).1;have Qu:w9.cell? ⟨w1.heap.size,2,none⟩=some (.slice wa j wc):=(by rw [af jS];rfl);have f29:w9.frozen? ⟨w1.heap.size,2,none⟩=false:=frozen_of_row w9 _ 2 _ _ jS;have zD:=hdq ((fG.out.below au).add ⟨false,a7,k7,c7,goes l j (-1)⟩ (lW aV.out hsz) nH.out xg.out jG eP fO);have jb:=hdq jS;have zF:Hid (Below w1.heap.size w1 w9):=hdq ((HW.out.trans (au.mono HW.out.size)).trans (mO.mono omg));clear jS jG mO eP fO;refine k_h hK (by trivial) (fun hHeld=>?_);clear hK K;refine t_h 7 ?_;refine r_h 8 (fun K hK=>?_);go_simp;refine k_h hK (by trivial) (fun hHeld=>?_);clear hK K;refine wpAnyH_done krf ?_ _;clear hHeld;have ag:Hid ((w9.setCell ⟨w1.heap.size,2,none⟩ (.slice a9 (j+1) c9)).heap[w1.heap.size]?=some (.cells #[.slice a n cap,.slice (some ⟨w.heap.size+1+1,0,none⟩) n n,.slice a9 (j+1) c9,.func (.yield yl) #[] #[]] 188 (0,0))):=hdq (by rw [heap_setCell_same _ _ _ _ _ _ jb.out];rfl);have qA:=hdq (zD.out.set w1.heap.size 2 (.slice a9 (j+1) c9) omg);have il:Hid (Below w1.heap.size w1 (w9.setCell ⟨w1.heap.size,2,none⟩ (.slice a9 (j+1) c9))):=hdq (zF.out.setCell (p:=⟨w1.heap.size,2,none⟩) lrf _);have zG:Hid ((outs++[(⟨false,a7,k7,c7,goes l j (-1)⟩:Sw)]).map Sw.arcs=(List.range (j+1)).map (fun j=>goes l j (-1))):=hdq (by rw [List.map_append,bq.out,List.range_succ,List.map_append];rfl);go_wp2;go_roundw
    case rel=>exact ⟨j+1,a9,c9,_,by omega,by go_num,ag,qA,zG,il⟩
    case measure=>simp [intOf];omega
   ·go_simp;refine k_h hK (by trivial) (fun hHeld=>?_);clear hK K;refine fT 1 4 (fun K hK=>?_) (fun K hK=>?_)
    ·go_simp;refine k_h hK (by trivial) (fun hHeld=>?_);clear hK K;refine r_h 4 (fun K hK=>?_);go_simp;go_at_call 147;refine (BP.out _ j wa j wc hlt (HW.out.trans (nG.mono HW.out.size))).mono ?_;rintro e w7 ⟨a7,k7,c7,rfl,ky,bH,iF⟩;have az:Below wr.heap.size wr w7:=nG.trans iF;have ZV:=(iG.out _ az).2;have aU:=hdq bH;have xg:=hdq ky;clear bH ky;go_wp2_with fail;refine k_h hK (by trivial) (fun hHeld=>?_);clear hK K;refine r_h 5 (fun K hK=>?_);refine Js rfq (.tmp 21) a7 k7 c7 rfq rfq ?_;intro gB wB hcB gK;have au:Below wr.heap.size wr wB:=az.trans (gK.mono az.size);have Qt:=(iG.out _ au).2;have aV:=hdq (ownsRow_below aU.out gK lrf);refine k_h hK (by trivial) (fun hHeld=>?_);clear hK K;refine r_h 6 (fun K hK=>?_);refine Jt rfq (.tmp 18) (.tmp 22) rfq (w1.heap.size+1) (.slice wa j wc) j outs rfq (fG.out.below au).row gB ⟨false,a7,k7,c7,goes l j (-1)⟩ rfq hcB (j+1) rfl omg (by have:=au.size;omega) ?_;intro a9 c9 w9 jG mO eP fO;have jS:w9.heap[w1.heap.size]?=_:=(mO.block w1.heap.size omg).trans (iG.out _ au).1;have Qu:w9.cell? ⟨w1.heap.size,2,none⟩=some (.slice wa j wc):=(by rw [af jS];rfl);have f29:w9.frozen? ⟨w1.heap.size,2,none⟩=false:=frozen_of_row w9 _ 2 _ _ jS;have zD:=hdq ((fG.out.below au).add ⟨false,a7,k7,c7,goes l j (-1)⟩ (lW aV.out hsz) nH.out xg.out jG eP fO);have jb:=hdq jS;have zF:Hid (Below w1.heap.size w1 w9):=hdq ((HW.out.trans (au.mono HW.out.size)).trans (mO.mono omg));clear jS jG mO eP fO;refine k_h hK (by trivial) (fun hHeld=>?_);clear hK K;refine t_h 7 ?_;refine r_h 8 (fun K hK=>?_);go_simp;refine k_h hK (by trivial) (fun hHeld=>?_);clear hK K;refine wpAnyH_done krf ?_ _;clear hHeld;have ag:Hid ((w9.setCell ⟨w1.heap.size,2,none⟩ (.slice a9 (j+1) c9)).heap[w1.heap.size]?=some (.cells #[.slice a n cap,.slice (some ⟨w.heap.size+1+1,0,none⟩) n n,.slice a9 (j+1) c9,.func (.yield yl) #[] #[]] 188 (0,0))):=hdq (by rw [heap_setCell_same _ _ _ _ _ _ jb.out];rfl);have qA:=hdq (zD.out.set w1.heap.size 2 (.slice a9 (j+1) c9) omg);have il:Hid (Below w1.heap.size w1 (w9.setCell ⟨w1.heap.size,2,none⟩ (.slice a9 (j+1) c9))):=hdq (zF.out.setCell (p:=⟨w1.heap.size,2,none⟩) lrf _);have zG:Hid ((outs++[(⟨false,a7,k7,c7,goes l j (-1)⟩:Sw)]).map Sw.arcs=(List.range (j+1)).map (fun j=>goes l j (-1))):=hdq (by rw [List.map_append,bq.out,List.range_succ,List.map_append];rfl);go_wp2;go_roundw
     case rel=>exact ⟨j+1,a9,c9,_,by omega,by go_num,ag,qA,zG,il⟩
     case measure=>simp [intOf];omega
    ·go_simp;go_at_call 147;refine (BP.out _ j wa j wc hlt (HW.out.trans (nG.mono HW.out.size))).mono ?_;rintro e w7 ⟨a7,k7,c7,rfl,ky,bH,iF⟩;have az:Below wr.heap.size wr w7:=nG.trans iF;have ZV:=(iG.out _ az).2;have aU:=hdq bH;have xg:=hdq ky;clear bH ky;go_wp2_with fail;refine k_h hK (by trivial) (fun hHeld=>?_);clear hK K;refine fT 1 5 (fun K hK=>?_) (fun K hK=>?_)
     ·go_simp;refine k_h hK (by trivial) (fun hHeld=>?_);clear hK K;refine r_h 5 (fun K hK=>?_);refine Js rfq (.tmp 21) a7 k7 c7 rfq rfq ?_;intro gB wB hcB gK;have au:Below wr.heap.size wr wB:=az.trans (gK.mono az.size);have Qt:=(iG.out _ au).2;have aV:=hdq (ownsRow_below aU.out gK lrf);refine k_h hK (by trivial) (fun hHeld=>?_);clear hK K;refine r_h 6 (fun K hK=>?_);refine Jt rfq (.tmp 18) (.tmp 22) rfq (w1.heap.size+1) (.slice wa j wc) j outs rfq (fG.out.below au).row gB ⟨false,a7,k7,c7,goes l j (-1)⟩ rfq hcB (j+1) rfl omg (by have:=au.size;omega) ?_;intro a9 c9 w9 jG mO eP fO;have jS:w9.heap[w1.heap.size]?=_:=(mO.block w1.heap.size omg).trans (iG.out _ au).1;have Qu:w9.cell? ⟨w1.heap.size,2,none⟩=some (.slice wa j wc):=(by rw [af jS];rfl);have f29:w9.frozen? ⟨w1.heap.size,2,none⟩=false:=frozen_of_row w9 _ 2 _ _ jS;have zD:=hdq ((fG.out.below au).add ⟨false,a7,k7,c7,goes l j (-1)⟩ (lW aV.out hsz) nH.out xg.out jG eP fO);have jb:=hdq jS;have zF:Hid (Below w1.heap.size w1 w9):=hdq ((HW.out.trans (au.mono HW.out.size)).trans (mO.mono omg));clear jS jG mO eP fO;refine k_h hK (by trivial) (fun hHeld=>?_);clear hK K;refine t_h 7 ?_;refine r_h 8 (fun K hK=>?_);go_simp;refine k_h hK (by trivial) (fun hHeld=>?_);clear hK K;refine wpAnyH_done krf ?_ _;clear hHeld;have ag:Hid ((w9.setCell ⟨w1.heap.size,2,none⟩ (.slice a9 (j+1) c9)).heap[w1.heap.size]?=some (.cells #[.slice a n cap,.slice (some ⟨w.heap.size+1+1,0,none⟩) n n,.slice a9 (j+1) c9,.func (.yield yl) #[] #[]] 188 (0,0))):=hdq (by rw [heap_setCell_same _ _ _ _ _ _ jb.out];rfl);have qA:=hdq (zD.out.set w1.heap.size 2 (.slice a9 (j+1) c9) omg);have il:Hid (Below w1.heap.size w1 (w9.setCell ⟨w1.heap.size,2,none⟩ (.slice a9 (j+1) c9))):=hdq (zF.out.setCell (p:=⟨w1.heap.size,2,none⟩) lrf _);have zG:Hid ((outs++[(⟨false,a7,k7,c7,goes l j (-1)⟩:Sw)]).map Sw.arcs=(List.range (j+1)).map (fun j=>goes l j (-1))):=hdq (by rw [List.map_append,bq.out,List.range_succ,List.map_append];rfl);go_wp2;go_roundw
      case rel=>exact ⟨j+1,a9,c9,_,by omega,by go_num,ag,qA,zG,il⟩
      case measure=>simp [intOf];omega
     ·refine Js rfq (.tmp 21) a7 k7 c7 rfq rfq ?_;intro gB wB hcB gK;have au:Below wr.heap.size wr wB:=az.trans (gK.mono az.size);have Qt:=(iG.out _ au).2;have aV:=hdq (ownsRow_below aU.out gK lrf);refine k_h hK (by trivial) (fun hHeld=>?_);clear hK K;refine r_h 1 (fun K hK=>?_);go_simp;refine k_h hK (by trivial) (fun hHeld=>?_);clear hK K;refine r_h 6 (fun K hK=>?_);refine Jt rfq (.tmp 18) (.tmp 22) rfq (w1.heap.size+1) (.slice wa j wc) j outs rfq (fG.out.below au).row gB ⟨false,a7,k7,c7,goes l j (-1)⟩ rfq hcB (j+1) rfl omg (by have:=au.size;omega) ?_;intro a9 c9 w9 jG mO eP fO;have jS:w9.heap[w1.heap.size]?=_:=(mO.block w1.heap.size omg).trans (iG.out _ au).1;have Qu:w9.cell? ⟨w1.heap.size,2,none⟩=some (.slice wa j wc):=(by rw [af jS];rfl);have f29:w9.frozen? ⟨w1.heap.size,2,none⟩=false:=frozen_of_row w9 _ 2 _ _ jS;have zD:=hdq ((fG.out.below au).add ⟨false,a7,k7,c7,goes l j (-1)⟩ (lW aV.out hsz) nH.out xg.out jG eP fO);have jb:=hdq jS;have zF:Hid (Below w1.heap.size w1 w9):=hdq ((HW.out.trans (au.mono HW.out.size)).trans (mO.mono omg));clear jS jG mO eP fO;refine k_h hK (by trivial) (fun hHeld=>?_);clear hK K;refine t_h 7 ?_;refine r_h 8 (fun K hK=>?_);go_simp;refine k_h hK (by trivial) (fun hHeld=>?_);clear hK K;refine wpAnyH_done krf ?_ _;clear hHeld;have ag:Hid ((w9.setCell ⟨w1.heap.size,2,none⟩ (.slice a9 (j+1) c9)).heap[w1.heap.size]?=some (.cells #[.slice a n cap,.slice (some ⟨w.heap.size+1+1,0,none⟩) n n,.slice a9 (j+1) c9,.func (.yield yl) #[] #[]] 188 (0,0))):=hdq (by rw [heap_setCell_same _ _ _ _ _ _ jb.out];rfl);have qA:=hdq (zD.out.set w1.heap.size 2 (.slice a9 (j+1) c9) omg);have il:Hid (Below w1.heap.size w1 (w9.setCell ⟨w1.heap.size,2,none⟩ (.slice a9 (j+1) c9))):=hdq (zF.out.setCell (p:=⟨w1.heap.size,2,none⟩) lrf _);have zG:Hid ((outs++[(⟨false,a7,k7,c7,goes l j (-1)⟩:Sw)]).map Sw.arcs=(List.range (j+1)).map (fun j=>goes l j (-1))):=hdq (by rw [List.map_append,bq.out,List.range_succ,List.map_append];rfl);go_wp2;go_roundw
      case rel=>exact ⟨j+1,a9,c9,_,by omega,by go_num,ag,qA,zG,il⟩
      case measure=>simp [intOf];omega
  ·have hjn:j=n:=omg
   have oM:Hid (wr.heap[w.heap.size]?=some (.cells #[.slice none 0 0,.slice none 0 0,.slice none 0 0,.nilFunc] 188 (0,0))):=by
    show _=_;rw [HW.out.block w.heap.size omg];exact HRZ.out
   have d0:wr.cell? ⟨w1.heap.size,0,none⟩=some (.slice a n cap):=by rw [af aN.out];rfl
   have d1:wr.cell? ⟨w1.heap.size,1,none⟩=some (.slice (some ⟨w.heap.size+1+1,0,none⟩) n n):=by rw [af aN.out];rfl
   have d2:wr.cell? ⟨w1.heap.size,2,none⟩=some (.slice wa j wc):=by rw [af aN.out];rfl
   have d3:wr.cell? ⟨w1.heap.size,3,none⟩=some (.func (.yield yl) #[] #[]):=by rw [af aN.out];rfl
   have e0:wr.cell? ⟨w.heap.size,0,none⟩=some (.slice none 0 0):=by rw [af oM.out];rfl
   have e1:wr.cell? ⟨w.heap.size,1,none⟩=some (.slice none 0 0):=by rw [af oM.out];rfl
   have e2:wr.cell? ⟨w.heap.size,2,none⟩=some (.slice none 0 0):=by rw [af oM.out];rfl
   have e3:wr.cell? ⟨w.heap.size,3,none⟩=some .nilFunc:=by rw [af oM.out];rfl
   have f1:∀j,wr.frozen? ⟨w.heap.size,j,none⟩=false:=fun j=>frozen_of_row wr _ j _ _ oM.out;subst hjn;have hlt':¬(j:Int)<(j:Int):=omg
   have HR:Hid (((((wr.setCell ⟨w.heap.size,0,none⟩ (.slice a j cap)).setCell ⟨w.heap.size,1,none⟩ (.slice (some ⟨w.heap.size+1+1,0,none⟩) j j)).setCell ⟨w.heap.size,2,none⟩ (.slice wa j wc)).setCell ⟨w.heap.size,3,none⟩ (.func (.yield yl) #[] #[])).heap[w.heap.size]?=some (.cells #[.slice a j cap,.slice (some ⟨w.heap.size+1+1,0,none⟩) j j,.slice wa j wc,.func (.yield yl) #[] #[]] 188 (0,0))):=hdq (by
    rw [heap_setCell_same _ _ _ _ _ _ (heap_setCell_same _ _ _ _ _ _ (heap_setCell_same _ _ _ _ _ _ (heap_setCell_same _ _ _ _ _ _ oM.out)))];rfl)
   have qA:=hdq ((((((fG.out.set w.heap.size 0 (.slice a j cap) omg).set w.heap.size 1 (.slice (some ⟨w.heap.size+1+1,0,none⟩) j j) omg).set w.heap.size 2 (.slice wa j wc) omg).set w.heap.size 3 (.func (.yield yl) #[] #[]) omg)).lower (B':=w.heap.size) omg);have oU:=hdq (Sl.set4 ((Sl.of_owns BO.out JW.out ZU.out).below HW.out lrf) w.heap.size (.slice a j cap) (.slice (some ⟨w.heap.size+1+1,0,none⟩) j j) (.slice wa j wc) (.func (.yield yl) #[] #[]) omg);have il:=hdq (((((((HB0 _).out.trans (ai.out.mono smp)).trans (HW.out.mono omg)).setCell (p:=⟨w.heap.size,0,none⟩) lrf (.slice a j cap)).setCell (p:=⟨w.heap.size,1,none⟩) lrf (.slice (some ⟨w.heap.size+1+1,0,none⟩) j j)).setCell (p:=⟨w.heap.size,2,none⟩) lrf (.slice wa j wc)).setCell (p:=⟨w.heap.size,3,none⟩) lrf (.func (.yield yl) #[] #[]));go_wp2;refine bodyPost_ret (results_cell_row rfq _ _ w.heap.size 188 _ (0,0) _ rfq HR.out Tryz.underlying188 rfq krf) rfl ?_;exact ⟨_,wa,_,wc,rfl,ds,oU.out,(fun b off e=>by simp only [sij,Addr.mk.injEq] at e;omega),(fun j hj=>by have:=Fg.out j hj;rwa [gdq] at this),outs,qA.out,bq.out,il.out⟩
end
end Go.Proofs.YtkiamgcpcneggaaGreat
