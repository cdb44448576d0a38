import Derived.Test.YtkiamgcpcneggaaGreatPackX
set_option linter.all false
set_option maxRecDepth 100000
set_option maxHeartbeats 12800000
namespace Go.Proofs.YtkiamgcpcneggaaGreat
section
open Go.RowKit Tri Wlk

def live (l:List St) (s:Int) (a:Int × Int):Bool:=decide (s<a.1)&&decide (dp (wds l a.2.toNat)≠-1)
theorem atj {l:List St} {i:Nat} {s:Int} {arcs:List (Int × Int)} (ha:(l.getD i St.no).arcs=arcs) (h:(arcs.filter (live l s)).length<=300):goes l i s=arcs.filter (live l s):=by
 unfold goes;rw [ha];exact tol h
theorem api {l:List St} {i:Nat} {s:Int} {arcs:List (Int × Int)} {j:Nat} (ha:(l.getD i St.no).arcs=arcs) (h:((arcs.take j).filter (live l s)).length=300):goes l i s=(arcs.take j).filter (live l s):=by
 have e:goes l i s=(arcs.filter (live l s)).take 300:=by unfold goes;rw [ha];rfl
 have e2:arcs.filter (live l s)=(arcs.take j).filter (live l s)++(arcs.drop j).filter (live l s):=by rw [<-List.filter_append,List.take_append_drop]
 rw [e,e2,List.take_append_of_le_length (by omega),tol (by omega)]

theorem ago {l:List St} (hc:check l=true) (i:Nat) (hi:i<l.length) (s:Int) (xs:List Sw) (hxs:sts xs=l) (sa da wa:Option Addr) (sn sc dn dc wn wc yl:Nat) (ds:List Int) (w:World) (hx:Ss w sa sn sc xs) (hd:Sl .i64 w da dn dc ds) (hdn:dn=l.length)
 (hds:∀j,j<l.length->ds.getD j 0=dp (wds l j)) :
 Calls Tryz.prog 147 #[.agg #[.slice sa sn sc,.slice da dn dc,.slice wa wn wc,.func (.yield yl) #[] #[]],.int .i64 (i:Int),.int .i64 s] w fun e w'=>∃a' c',e=.returned (.slice a' (goes l i s).length c') /\
  w'.ownsRow w.heap.size 95 2 (.slice a' (goes l i s).length c') (goes l i s).length (acells (goes l i s))/\Below w.heap.size w w':=by
 have hin:i<sn:=by rw [<-hx.1,<-ar,hxs];exact hi
 obtain ⟨b1,o1,fi,aa,an,ac,arcs,rfl,_,hx1,hx2,hars,hz1⟩:=hx.one i hin;have harcs:(l.getD i St.no).arcs=arcs:=by rw [<-hxs,eu,hz1];rfl
 have hac:=hars.2.1;have hacm:=hars.2.2.1;have hsc:=hx.2.1;have hscm:=hx.2.2.1;have hdc:=hd.2.1;have hdcm:=hd.2.2.1;unfold maxLen at hacm hscm hdcm;have HAR:=hdq hars;have HAL:Hid (arcs.length=an):=hdq hars.1;have HD:=hdq hd
 have HARC:Hid (∀k,k<an->∀s t,arcs.getD k (0,0)=(s,t)->∃(u:Nat),t=(u:Int)/\u<dn/\ds.getD u 0=dp (wds l u)):=hdq fun k hk s t hst=>by
  have hm:(s,t)∈(l.getD i St.no).arcs:=by
   rw [harcs,<-hst,gdq,geg (by rw [hars.1];exact hk),Option.getD_some];exact List.getElem_mem _
  obtain ⟨_,h2,h3⟩:=(bm hc hi).1 _ hm;simp only at h2 h3;obtain ⟨u,rfl⟩:∃u:Nat,t=(u:Int):=⟨t.toNat,by omega⟩
  exact ⟨u,rfl,by omega,hds u (by omega)⟩
 have HW1:Hid (∀n,n=(arcs.filter (live l s)).length->n<=300->goes l i s=arcs.filter (live l s)/\(goes l i s).length=n):=hdq fun n hn hn3=>by
  have:=atj (s:=s) harcs (by omega)
  exact ⟨this,by rw [this];omega⟩
 have HW2:Hid (∀j,((arcs.take j).filter (live l s)).length=300->goes l i s=(arcs.take j).filter (live l s)/\(goes l i s).length=300):=hdq fun j hj=>by
  have:=api (s:=s) harcs hj;exact ⟨this,by rw [this];exact hj⟩
 have HB0:∀o,Hid (Below w.heap.size w (w.alloc o)):=fun o=>hdq ((Below.refl _ w).alloc lrf o);have hii:(i:Int)<(sn:Int):=by omega
 have hi0:(0:Int)<=(i:Int):=by omega
 clear hx hd hds hars harcs hz1 hxs hdn hi hc;go_enter Tryz.func147,Tryz.ntmps147;go_wp2;clear hx1 hx2

 go_loopw [7,17] (fun ov ix wr=>∃(j:Nat) (o':Option Addr) (on oc:Nat),j<=an/\ix=.int .i64 (j:Int)/\ov=.slice o' on oc/\on<=300/\Hid (((arcs.take j).filter (live l s)).length=on) /\
  Hid (wr.ownsRow (w.heap.size+1) 95 2 (.slice o' on oc) on (acells ((arcs.take j).filter (live l s))))/\Hid (wr.heap[w.heap.size]?=some (.cells #[.slice (some ⟨b1,o1,none⟩) sn sc,.slice da dn dc,.slice wa wn wc,.func (.yield yl) #[] #[]] 188 (0,0)))/\Hid (Below w.heap.size w wr)) (fun _ ix _=>an-(intOf ix).toNat)
 case atStart=>exact ⟨0,none,0,0,Nat.zero_le _,rfl,rfl,by omega,rfl,by rw [List.take_zero];exact World.ownsRow_nil _ _ _ _,han w _,(HB0 _).out⟩
 case round =>
  obtain ⟨j,o',on,oc,hj,rfl,rfl,hon,HON,HO,HBX,HW⟩:=hrel;have HOL:∀W:World,W.ownsRow (w.heap.size+1) 95 2 (.slice o' on oc) on (acells ((arcs.take j).filter (live l s)))->W.ownsRow w.heap.size 95 2 (.slice o' on oc) on (acells ((arcs.take j).filter (live l s))):=fun W h=>fp h (by omega)
  by_cases hlt:j<an
  ·obtain ⟨b2,o2,s2,t2,rfl,hb2,hy1,hy2,_,_,hz2⟩:=(HAR.out.below HW.out lrf).one j hlt;obtain ⟨u,rfl,hu,hdu⟩:=HARC.out j hlt _ _ hz2;have hlti:(j:Int)<(an:Int):=by omega
   by_cases h300:on=300
   ·have h3:((on:Int)==300)=true:=by simp [h300]
    obtain ⟨g1,g2⟩:=HW2.out j (by rw [HON.out,h300])
    have HRE:=hdq (And.intro g1 (g2.trans h300.symm));have HWA:∀o,Hid (Below w.heap.size w (wr.alloc o)):=fun o=>HW.out.alloc HW.out.size o;have HOA:∀o,Hid ((wr.alloc o).ownsRow (w.heap.size+1) 95 2 (.slice o' on oc) on (acells ((arcs.take j).filter (live l s)))):=fun o=>HO.out.alloc _;clear hz2 hb2 hdu g1 g2;subst h300;go_wp2;go_ret;exact ⟨o',oc,by rw [HRE.out.2];rfl,by rw [HRE.out.2,HRE.out.1];exact HOL _ (HOA _).out,(HWA _).out⟩
   ·have h3:((on:Int)==300)=false:=by simp;omega
    have hon':on<300:=by omega
    have HWA:∀o,Hid (Below w.heap.size w (wr.alloc o)):=fun o=>HW.out.alloc HW.out.size o;have HOA:∀o,Hid ((wr.alloc o).ownsRow (w.heap.size+1) 95 2 (.slice o' on oc) on (acells ((arcs.take j).filter (live l s)))):=fun o=>HO.out.alloc _
    have HBA:∀o,Hid ((wr.alloc o).heap[w.heap.size]?=some (.cells #[.slice (some ⟨b1,o1,none⟩) sn sc,.slice da dn dc,.slice wa wn wc,.func (.yield yl) #[] #[]] 188 (0,0))):=fun o=>by
     have:=(hltq HBX.out);show _=_;rw [Below.heap_alloc _ _ _ this];exact HBX.out
    have hlz:=(hltq HBX.out);have HTK:=hdq (gi (l:=arcs) (j:=j) (by rw [HAL.out];exact hlt) hz2)
    have HNX0:Hid (live l s (s2,(u:Int))=false->(arcs.take (j+1)).filter (live l s)=(arcs.take j).filter (live l s)):=hdq fun h=>by rw [HTK.out,List.filter_append,List.filter_cons_of_neg (by rw [h];simp)];simp
    have HNX1:Hid (live l s (s2,(u:Int))=true->(arcs.take (j+1)).filter (live l s)=(arcs.take j).filter (live l s)++[(s2,(u:Int))]):=hdq fun h=>by rw [HTK.out,List.filter_append,List.filter_cons_of_pos h];simp
    have HLV:Hid (live l s (s2,(u:Int))=(decide (s<s2)&&decide (dp (wds l u)≠-1))):=rfl;obtain ⟨db,dof,rfl,hdb,hdc0⟩:=(HD.out.below HW.out lrf).at (by omega)
    have hcell:=hdc0 u hu;rw [hdu] at hcell;obtain ⟨v,hv⟩:∃v,v=dp (wds l u):=⟨_,rfl⟩;rw [<-hv] at hcell HLV;have c1:wr.cell? ⟨w.heap.size,1,none⟩=some (.slice (some ⟨db,dof,none⟩) dn dc):=by rw [ae HBX.out];rfl
    clear hz2 hb2 hdu hdc0 hv;by_cases hs:s<s2
    ·have hsd:decide (s<s2)=true:=decide_eq_true hs;have hsd2:decide (s2>s)=true:=decide_eq_true hs;by_cases hv1:v=-1
     ·have hvb:(v==-1)=true:=by simp [hv1]
      have hvn:(v != -1)=false:=by simp [hv1]
      have HL0:Hid ((arcs.take (j+1)).filter (live l s)=(arcs.take j).filter (live l s)):=hdq (HNX0.out (by rw [HLV.out,hsd,hv1];rfl))
      clear HNX0 HNX1 HLV;subst hv1;go_wp2;go_roundw
      case rel=>exact ⟨j+1,o',on,oc,by omega,by go_num,rfl,hon,by show _=_;rw [HL0.out];exact HON.out,by show World.ownsRow _ _ _ _ _ _ _;rw [HL0.out];exact (HOA _).out,(HBA _).out,(HWA _).out⟩
      case measure=>simp [intOf];omega
     ·have hvb:(v==-1)=false:=by simpa using hv1
      have hvn:(v != -1)=true:=by simp [bne,hvb]
      have HL2:∀o:Obj,Hid (((wr.alloc o).alloc (.cells #[.int .i64 s2,.int .i64 (u:Int)] 95)).cell? ⟨wr.heap.size+1,0,none⟩=some (.int .i64 s2)/\((wr.alloc o).alloc (.cells #[.int .i64 s2,.int .i64 (u:Int)] 95)).cell? ⟨wr.heap.size+1,1,none⟩=some (.int .i64 (u:Int))):=fun o=>by
       have:=jz (wr.alloc o) (.int .i64 s2) (.int .i64 (u:Int)) 95 (0,0);rw [World.size_alloc] at this;exact this
      have HL0:Hid ((arcs.take (j+1)).filter (live l s)=(arcs.take j).filter (live l s)++[(s2,(u:Int))]):=hdq (HNX1.out (by rw [HLV.out,hsd,decide_eq_true hv1];rfl))
      clear HNX0 HNX1 HLV;go_wp2_with (at_builtin;refine zl (by rfl) (.tmp 37) (.tmp 39) (by rfl) (w.heap.size+1) _ on ((arcs.take j).filter (live l s)) (by rfl) ((HOA _).out.alloc _) (wr.heap.size+1) (s2,(u:Int)) (by rfl) (HL2 _).out.1 (HL2 _).out.2 (on+1) rfl (by omega) (by simp;omega) ?_;intro a' c' w6 hown hb hgr hnil;have HO6:=hdq hown;have HB6:=hdq hb;clear hown hb hgr hnil)
      have hbx6:w6.heap[w.heap.size]?=some (.cells #[.slice (some ⟨b1,o1,none⟩) sn sc,.slice (some ⟨db,dof,none⟩) dn dc,.slice wa wn wc,.func (.yield yl) #[] #[]] 188 (0,0)):=by
       rw [HB6.out.block w.heap.size (by omega),Below.heap_alloc _ _ _ (by simp;omega)];exact (HBA _).out
      have hb6:Below w.heap.size w w6:=((HWA _).out.alloc (by have:=HW.out.size;simp;omega) _).trans (HB6.out.mono (by omega))
      refine ⟨⟨j+1,a',on+1,c',by omega,by go_num,rfl,by omega,?_,?_,hbx6,hb6⟩,by simp [intOf];omega⟩
      ·show _=_;rw [HL0.out,List.length_append,HON.out];rfl
      ·show World.ownsRow _ _ _ _ _ _ _;rw [HL0.out];exact HO6.out
    ·have hsd:decide (s<s2)=false:=decide_eq_false hs;have hsd2:decide (s2>s)=false:=decide_eq_false hs;have HL0:Hid ((arcs.take (j+1)).filter (live l s)=(arcs.take j).filter (live l s)):=hdq (HNX0.out (by rw [HLV.out,hsd];rfl))
     clear HNX0 HNX1 HLV;go_wp2;go_roundw
     case rel=>exact ⟨j+1,o',on,oc,by omega,by go_num,rfl,hon,by show _=_;rw [HL0.out];exact HON.out,by show World.ownsRow _ _ _ _ _ _ _;rw [HL0.out];exact (HOA _).out,(HBA _).out,(HWA _).out⟩
     case measure=>simp [intOf];omega
  ·have hjn:j=an:=by omega
   obtain ⟨g1,g2⟩:=HW1.out on (by rw [<-HON.out,hjn,<-HAL.out,List.take_length]) hon
   have HRE:Hid (goes l i s=(arcs.take j).filter (live l s)/\(goes l i s).length=on):=hdq ⟨by rw [g1,hjn,<-HAL.out,List.take_length],g2⟩
   clear g1 g2 hjn;go_wp2;go_ret;exact ⟨o',oc,by rw [HRE.out.2];rfl,by rw [HRE.out.2,HRE.out.1];exact HOL _ HO.out,HW.out⟩

end
section
open Go.RowKit Tri

theorem ayr:(51:TypeId)≠3:=by decide
structure Ml (B:Nat) (w:World) (a:Option Addr) (L c:Nat) (outs:List Wd):Prop where
 row:w.ownsRow B 51 1 (.slice a L c) L (vals outs)
 own:∀x∈outs,w.ownsRow B 3 1 x.v x.n (ah x.zs)
 wfs:∀x∈outs,∀z∈x.zs,(Lit.int .i64 z).wf=true
 lens:∀x∈outs,x.zs.length=x.n
 len:outs.length=L
 nil:a=none->c=0
theorem Ml.start (B:Nat) (w:World):Ml B w none 0 0 [] :=
 ⟨⟨rfl,.inl ⟨rfl,rfl⟩⟩,by simp,by simp,by simp,rfl,fun _=>rfl⟩
theorem Ml.below {B:Nat} {w w':World} {a:Option Addr} {L c:Nat} {outs:List Wd} (h:Ml B w a L c outs) (hb:Below w.heap.size w w'):Ml B w' a L c outs :=
 ⟨af h.row hb lrf,fun x hx=>af (h.own x hx) hb lrf,h.wfs,h.lens,h.len,h.nil⟩
theorem Ml.words {B:Nat} {w:World} {a:Option Addr} {L c:Nat} {outs:List Wd} (h:Ml B w a L c outs):Ws w a L c outs :=
 Ws.of_owns h.row (fun x hx=>Sl.of_owns (h.own x hx) (h.wfs x hx) (h.lens x hx)) h.len
theorem Ml.add {B:Nat} {w w':World} {a a':Option Addr} {L c c':Nat} {outs:List Wd} (h:Ml B w a L c outs) (x:Wd) (hx:w.ownsRow B 3 1 x.v x.n (ah x.zs)) (hz:∀z∈x.zs,(Lit.int .i64 z).wf=true) (hl:x.zs.length=x.n)
 (hrow:w'.ownsRow B 51 1 (.slice a' (L+1) c') (L+1) (vals (outs++[x]))) (hg:w.grownBy w' (Value.slice a L c).ownBlock) (hn:a'=none->c'=0):Ml B w' a' (L+1) c' (outs++[x]):=by
 have hk:=KeepI.row hg h.row ayr;refine ⟨hrow,fun y hy=>?_,fun y hy=>?_,fun y hy=>?_,by simp [h.len],hn⟩
 ·rcases map1 hy with hy|hy
  ·exact hk.owns (h.own y hy)
  ·rw [msg hy];exact hk.owns hx
 ·rcases map1 hy with hy|hy
  ·exact h.wfs y hy
  ·rw [msg hy];exact hz
 ·rcases map1 hy with hy|hy
  ·exact h.lens y hy
  ·rw [msg hy];exact hl
theorem og {w:World} {B B':Nat} {e:TypeId} {size n:Nat} {v:Value} {l:List Value} (h:w.ownsRow B e size v n l) (hB:B'<=B):w.ownsRow B' e size v n l:=by
 refine ⟨h.1,?_⟩;rcases h.2 with h1|⟨g,c,cur,h1,h2,h3⟩
 ·exact .inl h1
 ·exact .inr ⟨g,c,cur,h1,by omega,h3⟩

end
section
open Go.RowKit Tri Wlk

theorem iu {P:Program} {w:World} (a:Addr) (m:Mode) (f:Fn) (b c:Array Value):(store a (.func f b c) m).run P w=stored P w a (.func f b c) m:=run_store P w a _ m rfl
attribute [local go_sem] iu
theorem apj:(Tryz.prog.info? 56).map (fun i=>(i.zero,i.size,i.bytes))=some (some (.slice none 0 0),1,24):=by kernel_rfl
structure Al (B:Nat) (w:World) (a:Option Addr) (L c:Nat) (outs:List Sw):Prop where
 row:w.ownsRow B 56 1 (.slice a L c) L (outs.map Sw.s)
 own:∀x∈outs,w.ownsRow B 95 2 x.s x.n (acells x.arcs)
 wfs:∀x∈outs,∀z∈x.arcs,(Lit.int .i64 z.1).wf=true/\(Lit.int .i64 z.2).wf=true
 lens:∀x∈outs,x.arcs.length=x.n
 len:outs.length=L
 nil:a=none->c=0
theorem Al.start (B:Nat) (w:World):Al B w none 0 0 [] :=
 ⟨⟨rfl,.inl ⟨rfl,rfl⟩⟩,by simp,by simp,by simp,rfl,fun _=>rfl⟩
theorem Al.below {B:Nat} {w w':World} {a:Option Addr} {L c:Nat} {outs:List Sw} (h:Al B w a L c outs) (hb:Below w.heap.size w w'):Al B w' a L c outs :=
 ⟨af h.row hb lrf,fun x hx=>af (h.own x hx) hb lrf,h.wfs,h.lens,h.len,h.nil⟩
theorem Al.lower {B B':Nat} {w:World} {a:Option Addr} {L c:Nat} {outs:List Sw} (h:Al B w a L c outs) (hB:B'<=B):Al B' w a L c outs :=
 ⟨og h.row hB,fun x hx=>og (h.own x hx) hB,h.wfs,h.lens,h.len,h.nil⟩
theorem Al.good {B:Nat} {w:World} {a:Option Addr} {L c:Nat} {outs:List Sw} (h:Al B w a L c outs) {x:Sw} (hx:x∈outs):x.Good w:=Ars.of_owns (h.own x hx) (h.wfs x hx) (h.lens x hx)
theorem Al.set {B:Nat} {w:World} {a:Option Addr} {L c:Nat} {outs:List Sw} (h:Al B w a L c outs) (b o:Nat) (v:Value) (hb:b<B):Al B (w.setCell ⟨b,o,none⟩ v) a L c outs:=by
 have hne:∀{e:TypeId} {size n:Nat} {u:Value} {l:List Value},w.ownsRow B e size u n l->(w.setCell ⟨b,o,none⟩ v).ownsRow B e size u n l:=fun h=>by
  refine ⟨h.1,?_⟩;rcases h.2 with hn|⟨g,cap,cur,rfl,hg,hgg,rest⟩
  ·exact .inl hn
  ·exact .inr ⟨g,cap,cur,rfl,hg,(heap_setCell_other _ _ _ _ (by show g≠b;omega)).trans hgg,rest⟩
 exact ⟨hne h.row,fun x hx=>hne (h.own x hx),h.wfs,h.lens,h.len,h.nil⟩
theorem Sl.set4 {k:IntKind} {w:World} {b n cap:Nat} {zs:List Int} (h:Sl k w (some ⟨b,0,none⟩) n cap zs) (r:Nat) (v0 v1 v2 v3:Value) (hb:r<b):Sl k ((((w.setCell ⟨r,0,none⟩ v0).setCell ⟨r,1,none⟩ v1).setCell ⟨r,2,none⟩ v2).setCell ⟨r,3,none⟩ v3) (some ⟨b,0,none⟩) n cap zs:=by
 have hk:Keep (fun k=>k≠r) w ((((w.setCell ⟨r,0,none⟩ v0).setCell ⟨r,1,none⟩ v1).setCell ⟨r,2,none⟩ v2).setCell ⟨r,3,none⟩ v3) :=
  (((Keep.setCell w ⟨r,0,none⟩ v0 (fun h=>h rfl)).trans (Keep.setCell _ ⟨r,1,none⟩ v1 (fun h=>h rfl))).trans (Keep.setCell _ ⟨r,2,none⟩ v2 (fun h=>h rfl))).trans (Keep.setCell _ ⟨r,3,none⟩ v3 (fun h=>h rfl))
 exact h.keep hk fun b' off e=>by
  simp only [sij,Addr.mk.injEq] at e;omega
theorem avg:(56:TypeId)≠95:=by decide
theorem aaq {w w':World} {B B' size n k:Nat} {e:TypeId} {v u:Value} {l xs:List Value} (hg:w.grownBy w' v.ownBlock) (h:w.ownsRow B' e size v n l) (hne:e≠95) (ho:w.ownsRow B 95 2 u k xs):w'.ownsRow B 95 2 u k xs:=by
 refine ⟨ho.1,?_⟩;rcases ho.2 with hn|⟨g,cap,cur,rfl,hb,hgg,rest⟩
 ·exact .inl hn
 ·refine .inr ⟨g,cap,cur,rfl,hb,(hg.block g (hltq hgg) (fun e'=>?_)).trans hgg,rest⟩;obtain ⟨cur',hc⟩:=fk h e'.symm;rw [hgg] at hc;simp only [sij,Obj.cells.injEq] at hc;exact hne hc.2.1.symm
theorem Al.add {B:Nat} {w w':World} {a a':Option Addr} {L c c':Nat} {outs:List Sw} (h:Al B w a L c outs) (x:Sw) (hx:w.ownsRow B 95 2 x.s x.n (acells x.arcs)) (hz:∀z∈x.arcs,(Lit.int .i64 z.1).wf=true/\(Lit.int .i64 z.2).wf=true) (hl:x.arcs.length=x.n)
 (hrow:w'.ownsRow B 56 1 (.slice a' (L+1) c') (L+1) ((outs++[x]).map Sw.s)) (hg:w.grownBy w' (Value.slice a L c).ownBlock) (hn:a'=none->c'=0):Al B w' a' (L+1) c' (outs++[x]):=by
 refine ⟨hrow,fun y hy=>?_,fun y hy=>?_,fun y hy=>?_,by simp [h.len],hn⟩
 ·rcases map1 hy with hy|hy
  ·exact aaq hg h.row avg (h.own y hy)
  ·rw [msg hy];exact aaq hg h.row avg hx
 ·rcases map1 hy with hy|hy
  ·exact h.wfs y hy
  ·rw [msg hy];exact hz
 ·rcases map1 hy with hy|hy
  ·exact h.lens y hy
  ·rw [msg hy];exact hl
theorem apk (outs:List Sw):∀u∈outs.map Sw.s,u.oneCell'=true:=by
 intro u hu;obtain ⟨x,_,rfl⟩:=List.mem_map.1 hu;rfl
theorem gp {w:World} {ops:Array Oper} {o:Oper} {act:Act} {K:Act->World->Prop} {Q:Exit->Act->World->Prop} {E:Prop} (hw:Region.wanted o (yielded ops act.tmps)=true) (x:Operand) (a:Option Addr) (n c:Nat)
 (ho:o.op=.buildSlice 186 1 #[(0,x)]) (hx:act.eval x=.slice a n c) (h:∀g w',w'.cell? ⟨g,0,none⟩=some (.slice a n c)->Below w.heap.size w w'->K (act.put o.dst (.slice (some ⟨g,0,none⟩) 1 1)) w') :
 if Region.wanted o (yielded ops act.tmps)=true then o.wp Tryz.prog act w K Q else E:=by
 rw [if_pos hw];unfold Oper.wp;simp only [execOp,ho,List.map_toArray,List.map_cons,List.map_nil,hx];go_simp;exact h _ _ (by rw [World.cell?,han];rfl) ((Below.refl _ w).alloc lrf _)
theorem gq {w:World} {ops:Array Oper} {o:Oper} {act:Act} {K:Act->World->Prop} {Q:Exit->Act->World->Prop} {E:Prop} (hw:Region.wanted o (yielded ops act.tmps)=true) (s x:Operand)
 (ho:o.op=.call { callee:=.builtin .append,args:=#[s,x],argTypes:=#[186,186] }) (base:Nat) (v:Value) (n:Nat) (l:List Sw) (hs:act.eval s=v)
 (hown:w.ownsRow base 56 1 v n (l.map Sw.s)) (g:Nat) (y:Sw) (hx:act.eval x=.slice (some ⟨g,0,none⟩) 1 1) (h0:w.cell? ⟨g,0,none⟩=some y.s)
 (N:Nat) (hN:n+1=N) (h63:N*24<=140737488355328) (hbase:base<=w.heap.size)
 (h:∀a' c' w',w'.ownsRow base 56 1 (.slice a' N c') N ((l++[y]).map Sw.s)->Below base w w'->w.grownBy w' v.ownBlock->(a'=none->c'=0)->K (act.put o.dst (.slice a' N c')) w') :
 if Region.wanted o (yielded ops act.tmps)=true then o.wp Tryz.prog act w K Q else E:=by
 subst hN;rw [if_pos hw];refine ej s x 186 56 ho _ 1 24 Tryz.underlying186 apj rfl (by omega) base v n (l.map Sw.s) hs hown _ 1 1 ([y].map Sw.s) hx rfl (fun _=>⟨_,rfl,fun j u hj=>?_⟩) (apk [y]) (by unfold maxLen;omega) (by omega) hbase ?_
 ·match j,hj with
  | 0,hj=>simp at hj;rw [<-hj,<-h0];simp [Addr.add]
  | j+1,hj=>simp at hj
 ·intro a' c' w' h1 h2 h3 h4;exact h a' c' w' (by rw [List.map_append];exact h1) h2 h3 h4

theorem agp {l:List St} (hc:check l=true) (a:Option Addr) (n cap yl:Nat) (ys:List Sw) (w:World) (hy:Ss w a n cap ys) (hys:sts ys=l) :
 Calls Tryz.prog 143 #[.slice a n cap,.func (.yield yl) #[] #[]] w fun e w'=>∃(da wa:Option Addr) (dc wc:Nat) (ds:List Int) (outs:List Sw),e=.returned (.agg #[.slice a n cap,.slice da n dc,.slice wa n wc,.func (.yield yl) #[] #[]]) /\
  Sl .i64 w' da n dc ds/\(∀b off,da=some ⟨b,off,none⟩->w.heap.size<=b)/\(∀j,j<n->ds.getD j 0=dp (wds l j))/\Al w.heap.size w' wa n wc outs/\outs.map Sw.arcs=(List.range n).map (fun j=>goes l j (-1))/\Below w.heap.size w w':=by
 have hyl:l.length=n:=by rw [<-hys,ar];exact hy.1
 have hN:n<=6001:=by have:=(cp hc).2;omega
 have hncap:=hy.2.1;have hcapm:=hy.2.2.1;unfold maxLen at hcapm;have HY:=hdq hy;have HYS:=hdq hys;have HYL:=hdq hyl;have HC:=hdq hc;have HB0:∀o,Hid (Below w.heap.size w (w.alloc o)):=fun o=>hdq ((Below.refl _ w).alloc lrf o);have HFL:Hid (∀W,Ss W a n cap ys->Calls Tryz.prog 107 #[.slice a n cap,.func (.func 160) #[] #[]] W _):=hdq fun W h=>sp hc a n cap ys W h hys;clear hy hys hyl hc;have hmx:Tryz.prog.follows .mixedOrders=true:=by kernel_rfl
 go_enter Tryz.func143,Tryz.ntmps143;go_wp2_with (go_at_call 107;refine (HFL.out _ (HY.out.alloc _)).mono ?_;rintro e w1 ⟨rfl,ds,hown1,hdl1,hdw1,hdv1,hb1⟩;simp only [World.size_alloc] at hown1;have HOD:=hdq hown1;have HDL:=hdq hdl1;have HDW:=hdq hdw1;have HDV:=hdq hdv1;have HBW:=hdq hb1;clear hown1 hdl1 hdw1 hdv1 hb1)
 have HAFT:Hid (∀(W:World) (j:Nat) (wa:Option Addr) (wn wc:Nat),j<n->Below w1.heap.size w1 W->Calls Tryz.prog 147 #[.agg #[.slice a n cap,.slice (some ⟨w.heap.size+1+1,0,none⟩) n n,.slice wa wn wc,.func (.yield yl) #[] #[]],.int .i64 (j:Int),.int .i64 (-1)] W
  fun e w'=>∃a' k c',e=.returned (.slice a' k c')/\(goes l j (-1)).length=k/\w'.ownsRow W.heap.size 95 2 (.slice a' k c') k (acells (goes l j (-1)))/\Below W.heap.size W w'):=hdq fun W j wa wn wc hj hW=>by
  have hsl:Sl .i64 W (some ⟨w.heap.size+1+1,0,none⟩) n n ds:=(Sl.of_owns HOD.out HDW.out HDL.out).below hW lrf;have hss:Ss W a n cap ys:=((HY.out.alloc _).below HBW.out lrf).below hW lrf;refine (ago HC.out j (by rw [HYL.out];exact hj) (-1) ys HYS.out a _ wa n cap n n wn wc yl ds W hss hsl HYL.out.symm (fun i hi=>HDV.out i (by rw [<-HYL.out];exact hi))).mono ?_
  rintro e w' ⟨a',c',rfl,h1,h2⟩;exact ⟨a',_,c',rfl,rfl,h1,h2⟩
 have hs1:w.heap.size+1+1<w1.heap.size:=by have:=(HOD.out.lt _ rfl).2;simpa using this
 have hrz:w1.heap[w.heap.size]?=some (.cells #[.slice none 0 0,.slice none 0 0,.slice none 0 0,.nilFunc] 188 (0,0)):=by
  rw [HBW.out.block w.heap.size (by simp)];exact han w _
 have HRZ:=hdq hrz;clear hrz
 go_loopw [14] (fun ix wr=>∃(j:Nat) (wa:Option Addr) (wc:Nat) (outs:List Sw),j<=n/\ix=.int .i64 (j:Int)/\Hid (wr.heap[w1.heap.size]?=some (.cells #[.slice a n cap,.slice (some ⟨w.heap.size+1+1,0,none⟩) n n,.slice wa j wc,.func (.yield yl) #[] #[]] 188 (0,0))) /\
  Hid (Al (w1.heap.size+1) wr wa j wc outs)/\Hid (outs.map Sw.arcs=(List.range j).map (fun j=>goes l j (-1)))/\Hid (Below w1.heap.size w1 wr)) (fun ix _=>n-(intOf ix).toNat)
 case atStart=>exact ⟨0,none,0,[],Nat.zero_le _,rfl,han w1 _,Al.start _ _,rfl,(Below.refl _ _).alloc lrf _⟩
 case round =>
  obtain ⟨j,wa,wc,outs,hj,rfl,HBX,HAL,HMP,HW⟩:=hrel;by_cases hlt:j<n
  ·have hlti:(j:Int)<(n:Int):=by omega
   have hDX:Below wr.heap.size wr wr.drew:=al (Below.refl _ _) ⟨1,rfl⟩;have hsz:=(hltq HBX.out)
   have HCX:Hid (∀W:World,Below wr.heap.size wr W->W.heap[w1.heap.size]?=some (.cells #[.slice a n cap,.slice (some ⟨w.heap.size+1+1,0,none⟩) n n,.slice wa j wc,.func (.yield yl) #[] #[]] 188 (0,0))/\W.cell? ⟨w1.heap.size,2,none⟩=some (.slice wa j wc)):=hdq fun W hW=>by
    have h:W.heap[w1.heap.size]?=_:=(hW.block w1.heap.size hsz).trans HBX.out;exact ⟨h,by rw [ae h];rfl⟩
   have c0:wr.drew.cell? ⟨w1.heap.size,0,none⟩=some (.slice a n cap):=by rw [ae (HCX.out _ hDX).1];rfl
   have c1:wr.drew.cell? ⟨w1.heap.size,1,none⟩=some (.slice (some ⟨w.heap.size+1+1,0,none⟩) n n):=by rw [ae (HCX.out _ hDX).1];rfl
   have c2:=(HCX.out _ hDX).2;have c3:wr.drew.cell? ⟨w1.heap.size,3,none⟩=some (.func (.yield yl) #[] #[]):=by rw [ae (HCX.out _ hDX).1];rfl
   have HGW:Hid (∀z∈goes l j (-1),(Lit.int .i64 z.1).wf=true/\(Lit.int .i64 z.2).wf=true):=hdq fun z hz=>by
    obtain ⟨g1,g2,g3⟩:=(bm HC.out (by rw [HYL.out];exact hlt)).1 z (fw hz).1
    have:=(Utf.dw _).1 g1;rw [HYL.out] at g3;exact ⟨WalkArith.wf_i64 (by omega),WalkArith.wf_i64 (by omega)⟩
   go_wp2;refine wp_region_held_drew (S:=(fun _=>True)) (by kernel_rfl) (by first|(trivial)|((try dsimp only);trivial)) (fun hHeld=>?_)
   refine t_h 0 ?_;refine t_h 3 ?_;refine em 1 2 (fun K hK=>?_) (fun K hK=>?_)
   ·go_simp;refine k_h hK (by trivial) (fun hHeld=>?_)
    clear hK K;refine r_h 2 (fun K hK=>?_);go_simp;refine k_h hK (by trivial) (fun hHeld=>?_)
    clear hK K;refine r_h 4 (fun K hK=>?_);go_simp;go_at_call 147;refine (HAFT.out _ j wa j wc hlt (HW.out.trans (hDX.mono HW.out.size))).mono ?_;rintro e w7 ⟨a7,k7,c7,rfl,hk7,hown7,hb7'⟩;have hb7:Below wr.heap.size wr w7:=hDX.trans hb7';have c27:=(HCX.out _ hb7).2;have HO7:=hdq hown7;have HK7:=hdq hk7;clear hown7 hk7;go_wp2_with fail;refine k_h hK (by trivial) (fun hHeld=>?_)
    clear hK K;refine r_h 5 (fun K hK=>?_);refine gp (by rfl) (.tmp 21) a7 k7 c7 (by rfl) (by rfl) ?_
    intro gB wB hcB hbB';have hbB:Below wr.heap.size wr wB:=hb7.trans (hbB'.mono hb7.size);have c2B:=(HCX.out _ hbB).2;have HOB:=hdq (af HO7.out hbB' lrf);refine k_h hK (by trivial) (fun hHeld=>?_)
    clear hK K;refine r_h 6 (fun K hK=>?_);refine gq (by rfl) (.tmp 18) (.tmp 22) (by rfl) (w1.heap.size+1) (.slice wa j wc) j outs (by rfl) (HAL.out.below hbB).row gB ⟨false,a7,k7,c7,goes l j (-1)⟩ (by rfl) hcB (j+1) rfl (by omega) (by have:=hbB.size;omega) ?_
    intro a9 c9 w9 hrow9 hb9' hgr9 hnil9;have h99:w9.heap[w1.heap.size]?=_:=(hb9'.block w1.heap.size (by omega)).trans (HCX.out _ hbB).1
    have c29:w9.cell? ⟨w1.heap.size,2,none⟩=some (.slice wa j wc):=(by rw [ae h99];rfl)
    have f29:w9.frozen? ⟨w1.heap.size,2,none⟩=false:=frozen_of_row w9 _ 2 _ _ h99;have HA9:=hdq ((HAL.out.below hbB).add ⟨false,a7,k7,c7,goes l j (-1)⟩ (fp HOB.out hsz) HGW.out HK7.out hrow9 hgr9 hnil9);have HH9:=hdq h99;have HBL9:Hid (Below w1.heap.size w1 w9):=hdq ((HW.out.trans (hbB.mono HW.out.size)).trans (hb9'.mono (by omega)))
    clear h99 hrow9 hb9' hgr9 hnil9;refine k_h hK (by trivial) (fun hHeld=>?_)
    clear hK K;refine t_h 7 ?_;refine r_h 8 (fun K hK=>?_);go_simp;refine k_h hK (by trivial) (fun hHeld=>?_)
    clear hK K;refine wpAnyH_done (by kernel_rfl) ?_ _
    clear hHeld;have HXE:Hid ((w9.setCell ⟨w1.heap.size,2,none⟩ (.slice a9 (j+1) c9)).heap[w1.heap.size]?=some (.cells #[.slice a n cap,.slice (some ⟨w.heap.size+1+1,0,none⟩) n n,.slice a9 (j+1) c9,.func (.yield yl) #[] #[]] 188 (0,0))):=hdq (by rw [heap_setCell_same _ _ _ _ _ _ HH9.out];rfl)
    have HAE:=hdq (HA9.out.set w1.heap.size 2 (.slice a9 (j+1) c9) (by omega))
    have HBE:Hid (Below w1.heap.size w1 (w9.setCell ⟨w1.heap.size,2,none⟩ (.slice a9 (j+1) c9))):=hdq (HBL9.out.setCell (p:=⟨w1.heap.size,2,none⟩) lrf _);have HME:Hid ((outs++[(⟨false,a7,k7,c7,goes l j (-1)⟩:Sw)]).map Sw.arcs=(List.range (j+1)).map (fun j=>goes l j (-1))):=hdq (by rw [List.map_append,HMP.out,List.range_succ,List.map_append];rfl)
    go_wp2;go_roundw
    case rel=>exact ⟨j+1,a9,c9,_,by omega,by go_num,HXE,HAE,HME,HBE⟩
    case measure=>simp [intOf];omega
   ·go_simp;refine k_h hK (by trivial) (fun hHeld=>?_)
    clear hK K;refine em 1 4 (fun K hK=>?_) (fun K hK=>?_)
    ·go_simp;refine k_h hK (by trivial) (fun hHeld=>?_)
     clear hK K;refine r_h 4 (fun K hK=>?_);go_simp;go_at_call 147;refine (HAFT.out _ j wa j wc hlt (HW.out.trans (hDX.mono HW.out.size))).mono ?_;rintro e w7 ⟨a7,k7,c7,rfl,hk7,hown7,hb7'⟩;have hb7:Below wr.heap.size wr w7:=hDX.trans hb7';have c27:=(HCX.out _ hb7).2;have HO7:=hdq hown7;have HK7:=hdq hk7;clear hown7 hk7;go_wp2_with fail;refine k_h hK (by trivial) (fun hHeld=>?_)
     clear hK K;refine r_h 5 (fun K hK=>?_);refine gp (by rfl) (.tmp 21) a7 k7 c7 (by rfl) (by rfl) ?_
     intro gB wB hcB hbB';have hbB:Below wr.heap.size wr wB:=hb7.trans (hbB'.mono hb7.size);have c2B:=(HCX.out _ hbB).2;have HOB:=hdq (af HO7.out hbB' lrf);refine k_h hK (by trivial) (fun hHeld=>?_)
     clear hK K;refine r_h 6 (fun K hK=>?_);refine gq (by rfl) (.tmp 18) (.tmp 22) (by rfl) (w1.heap.size+1) (.slice wa j wc) j outs (by rfl) (HAL.out.below hbB).row gB ⟨false,a7,k7,c7,goes l j (-1)⟩ (by rfl) hcB (j+1) rfl (by omega) (by have:=hbB.size;omega) ?_
     intro a9 c9 w9 hrow9 hb9' hgr9 hnil9;have h99:w9.heap[w1.heap.size]?=_:=(hb9'.block w1.heap.size (by omega)).trans (HCX.out _ hbB).1
     have c29:w9.cell? ⟨w1.heap.size,2,none⟩=some (.slice wa j wc):=(by rw [ae h99];rfl)
     have f29:w9.frozen? ⟨w1.heap.size,2,none⟩=false:=frozen_of_row w9 _ 2 _ _ h99;have HA9:=hdq ((HAL.out.below hbB).add ⟨false,a7,k7,c7,goes l j (-1)⟩ (fp HOB.out hsz) HGW.out HK7.out hrow9 hgr9 hnil9);have HH9:=hdq h99;have HBL9:Hid (Below w1.heap.size w1 w9):=hdq ((HW.out.trans (hbB.mono HW.out.size)).trans (hb9'.mono (by omega)))
     clear h99 hrow9 hb9' hgr9 hnil9;refine k_h hK (by trivial) (fun hHeld=>?_)
     clear hK K;refine t_h 7 ?_;refine r_h 8 (fun K hK=>?_);go_simp;refine k_h hK (by trivial) (fun hHeld=>?_)
     clear hK K;refine wpAnyH_done (by kernel_rfl) ?_ _
     clear hHeld;have HXE:Hid ((w9.setCell ⟨w1.heap.size,2,none⟩ (.slice a9 (j+1) c9)).heap[w1.heap.size]?=some (.cells #[.slice a n cap,.slice (some ⟨w.heap.size+1+1,0,none⟩) n n,.slice a9 (j+1) c9,.func (.yield yl) #[] #[]] 188 (0,0))):=hdq (by rw [heap_setCell_same _ _ _ _ _ _ HH9.out];rfl)
     have HAE:=hdq (HA9.out.set w1.heap.size 2 (.slice a9 (j+1) c9) (by omega))
     have HBE:Hid (Below w1.heap.size w1 (w9.setCell ⟨w1.heap.size,2,none⟩ (.slice a9 (j+1) c9))):=hdq (HBL9.out.setCell (p:=⟨w1.heap.size,2,none⟩) lrf _);have HME:Hid ((outs++[(⟨false,a7,k7,c7,goes l j (-1)⟩:Sw)]).map Sw.arcs=(List.range (j+1)).map (fun j=>goes l j (-1))):=hdq (by rw [List.map_append,HMP.out,List.range_succ,List.map_append];rfl)
     go_wp2;go_roundw
     case rel=>exact ⟨j+1,a9,c9,_,by omega,by go_num,HXE,HAE,HME,HBE⟩
     case measure=>simp [intOf];omega
    ·go_simp;go_at_call 147;refine (HAFT.out _ j wa j wc hlt (HW.out.trans (hDX.mono HW.out.size))).mono ?_;rintro e w7 ⟨a7,k7,c7,rfl,hk7,hown7,hb7'⟩;have hb7:Below wr.heap.size wr w7:=hDX.trans hb7';have c27:=(HCX.out _ hb7).2;have HO7:=hdq hown7;have HK7:=hdq hk7;clear hown7 hk7;go_wp2_with fail;refine k_h hK (by trivial) (fun hHeld=>?_)
     clear hK K;refine em 1 5 (fun K hK=>?_) (fun K hK=>?_)
     ·go_simp;refine k_h hK (by trivial) (fun hHeld=>?_)
      clear hK K;refine r_h 5 (fun K hK=>?_);refine gp (by rfl) (.tmp 21) a7 k7 c7 (by rfl) (by rfl) ?_
      intro gB wB hcB hbB';have hbB:Below wr.heap.size wr wB:=hb7.trans (hbB'.mono hb7.size);have c2B:=(HCX.out _ hbB).2;have HOB:=hdq (af HO7.out hbB' lrf);refine k_h hK (by trivial) (fun hHeld=>?_)
      clear hK K;refine r_h 6 (fun K hK=>?_);refine gq (by rfl) (.tmp 18) (.tmp 22) (by rfl) (w1.heap.size+1) (.slice wa j wc) j outs (by rfl) (HAL.out.below hbB).row gB ⟨false,a7,k7,c7,goes l j (-1)⟩ (by rfl) hcB (j+1) rfl (by omega) (by have:=hbB.size;omega) ?_
      intro a9 c9 w9 hrow9 hb9' hgr9 hnil9;have h99:w9.heap[w1.heap.size]?=_:=(hb9'.block w1.heap.size (by omega)).trans (HCX.out _ hbB).1
      have c29:w9.cell? ⟨w1.heap.size,2,none⟩=some (.slice wa j wc):=(by rw [ae h99];rfl)
      have f29:w9.frozen? ⟨w1.heap.size,2,none⟩=false:=frozen_of_row w9 _ 2 _ _ h99;have HA9:=hdq ((HAL.out.below hbB).add ⟨false,a7,k7,c7,goes l j (-1)⟩ (fp HOB.out hsz) HGW.out HK7.out hrow9 hgr9 hnil9);have HH9:=hdq h99;have HBL9:Hid (Below w1.heap.size w1 w9):=hdq ((HW.out.trans (hbB.mono HW.out.size)).trans (hb9'.mono (by omega)))
      clear h99 hrow9 hb9' hgr9 hnil9;refine k_h hK (by trivial) (fun hHeld=>?_)
      clear hK K;refine t_h 7 ?_;refine r_h 8 (fun K hK=>?_);go_simp;refine k_h hK (by trivial) (fun hHeld=>?_)
      clear hK K;refine wpAnyH_done (by kernel_rfl) ?_ _
      clear hHeld;have HXE:Hid ((w9.setCell ⟨w1.heap.size,2,none⟩ (.slice a9 (j+1) c9)).heap[w1.heap.size]?=some (.cells #[.slice a n cap,.slice (some ⟨w.heap.size+1+1,0,none⟩) n n,.slice a9 (j+1) c9,.func (.yield yl) #[] #[]] 188 (0,0))):=hdq (by rw [heap_setCell_same _ _ _ _ _ _ HH9.out];rfl)
      have HAE:=hdq (HA9.out.set w1.heap.size 2 (.slice a9 (j+1) c9) (by omega))
      have HBE:Hid (Below w1.heap.size w1 (w9.setCell ⟨w1.heap.size,2,none⟩ (.slice a9 (j+1) c9))):=hdq (HBL9.out.setCell (p:=⟨w1.heap.size,2,none⟩) lrf _);have HME:Hid ((outs++[(⟨false,a7,k7,c7,goes l j (-1)⟩:Sw)]).map Sw.arcs=(List.range (j+1)).map (fun j=>goes l j (-1))):=hdq (by rw [List.map_append,HMP.out,List.range_succ,List.map_append];rfl)
      go_wp2;go_roundw
      case rel=>exact ⟨j+1,a9,c9,_,by omega,by go_num,HXE,HAE,HME,HBE⟩
      case measure=>simp [intOf];omega
     ·refine gp (by rfl) (.tmp 21) a7 k7 c7 (by rfl) (by rfl) ?_
      intro gB wB hcB hbB';have hbB:Below wr.heap.size wr wB:=hb7.trans (hbB'.mono hb7.size);have c2B:=(HCX.out _ hbB).2;have HOB:=hdq (af HO7.out hbB' lrf);refine k_h hK (by trivial) (fun hHeld=>?_)
      clear hK K;refine r_h 1 (fun K hK=>?_);go_simp;refine k_h hK (by trivial) (fun hHeld=>?_)
      clear hK K;refine r_h 6 (fun K hK=>?_);refine gq (by rfl) (.tmp 18) (.tmp 22) (by rfl) (w1.heap.size+1) (.slice wa j wc) j outs (by rfl) (HAL.out.below hbB).row gB ⟨false,a7,k7,c7,goes l j (-1)⟩ (by rfl) hcB (j+1) rfl (by omega) (by have:=hbB.size;omega) ?_
      intro a9 c9 w9 hrow9 hb9' hgr9 hnil9;have h99:w9.heap[w1.heap.size]?=_:=(hb9'.block w1.heap.size (by omega)).trans (HCX.out _ hbB).1
      have c29:w9.cell? ⟨w1.heap.size,2,none⟩=some (.slice wa j wc):=(by rw [ae h99];rfl)
      have f29:w9.frozen? ⟨w1.heap.size,2,none⟩=false:=frozen_of_row w9 _ 2 _ _ h99;have HA9:=hdq ((HAL.out.below hbB).add ⟨false,a7,k7,c7,goes l j (-1)⟩ (fp HOB.out hsz) HGW.out HK7.out hrow9 hgr9 hnil9);have HH9:=hdq h99;have HBL9:Hid (Below w1.heap.size w1 w9):=hdq ((HW.out.trans (hbB.mono HW.out.size)).trans (hb9'.mono (by omega)))
      clear h99 hrow9 hb9' hgr9 hnil9;refine k_h hK (by trivial) (fun hHeld=>?_)
      clear hK K;refine t_h 7 ?_;refine r_h 8 (fun K hK=>?_);go_simp;refine k_h hK (by trivial) (fun hHeld=>?_)
      clear hK K;refine wpAnyH_done (by kernel_rfl) ?_ _
      clear hHeld;have HXE:Hid ((w9.setCell ⟨w1.heap.size,2,none⟩ (.slice a9 (j+1) c9)).heap[w1.heap.size]?=some (.cells #[.slice a n cap,.slice (some ⟨w.heap.size+1+1,0,none⟩) n n,.slice a9 (j+1) c9,.func (.yield yl) #[] #[]] 188 (0,0))):=hdq (by rw [heap_setCell_same _ _ _ _ _ _ HH9.out];rfl)
      have HAE:=hdq (HA9.out.set w1.heap.size 2 (.slice a9 (j+1) c9) (by omega))
      have HBE:Hid (Below w1.heap.size w1 (w9.setCell ⟨w1.heap.size,2,none⟩ (.slice a9 (j+1) c9))):=hdq (HBL9.out.setCell (p:=⟨w1.heap.size,2,none⟩) lrf _);have HME:Hid ((outs++[(⟨false,a7,k7,c7,goes l j (-1)⟩:Sw)]).map Sw.arcs=(List.range (j+1)).map (fun j=>goes l j (-1))):=hdq (by rw [List.map_append,HMP.out,List.range_succ,List.map_append];rfl)
      go_wp2;go_roundw
      case rel=>exact ⟨j+1,a9,c9,_,by omega,by go_num,HXE,HAE,HME,HBE⟩
      case measure=>simp [intOf];omega
  ·have hjn:j=n:=by omega
   have HR0:Hid (wr.heap[w.heap.size]?=some (.cells #[.slice none 0 0,.slice none 0 0,.slice none 0 0,.nilFunc] 188 (0,0))):=by
    show _=_;rw [HW.out.block w.heap.size (by omega)];exact HRZ.out
   have d0:wr.cell? ⟨w1.heap.size,0,none⟩=some (.slice a n cap):=by rw [ae HBX.out];rfl
   have d1:wr.cell? ⟨w1.heap.size,1,none⟩=some (.slice (some ⟨w.heap.size+1+1,0,none⟩) n n):=by rw [ae HBX.out];rfl
   have d2:wr.cell? ⟨w1.heap.size,2,none⟩=some (.slice wa j wc):=by rw [ae HBX.out];rfl
   have d3:wr.cell? ⟨w1.heap.size,3,none⟩=some (.func (.yield yl) #[] #[]):=by rw [ae HBX.out];rfl
   have e0:wr.cell? ⟨w.heap.size,0,none⟩=some (.slice none 0 0):=by rw [ae HR0.out];rfl
   have e1:wr.cell? ⟨w.heap.size,1,none⟩=some (.slice none 0 0):=by rw [ae HR0.out];rfl
   have e2:wr.cell? ⟨w.heap.size,2,none⟩=some (.slice none 0 0):=by rw [ae HR0.out];rfl
   have e3:wr.cell? ⟨w.heap.size,3,none⟩=some .nilFunc:=by rw [ae HR0.out];rfl
   have f1:∀j,wr.frozen? ⟨w.heap.size,j,none⟩=false:=fun j=>frozen_of_row wr _ j _ _ HR0.out;subst hjn;have hlt':¬(j:Int)<(j:Int):=by omega
   have HR:Hid (((((wr.setCell ⟨w.heap.size,0,none⟩ (.slice a j cap)).setCell ⟨w.heap.size,1,none⟩ (.slice (some ⟨w.heap.size+1+1,0,none⟩) j j)).setCell ⟨w.heap.size,2,none⟩ (.slice wa j wc)).setCell ⟨w.heap.size,3,none⟩ (.func (.yield yl) #[] #[])).heap[w.heap.size]?=some (.cells #[.slice a j cap,.slice (some ⟨w.heap.size+1+1,0,none⟩) j j,.slice wa j wc,.func (.yield yl) #[] #[]] 188 (0,0))):=hdq (by
    rw [heap_setCell_same _ _ _ _ _ _ (heap_setCell_same _ _ _ _ _ _ (heap_setCell_same _ _ _ _ _ _ (heap_setCell_same _ _ _ _ _ _ HR0.out)))];rfl)
   have HAE:=hdq ((((((HAL.out.set w.heap.size 0 (.slice a j cap) (by omega)).set w.heap.size 1 (.slice (some ⟨w.heap.size+1+1,0,none⟩) j j) (by omega)).set w.heap.size 2 (.slice wa j wc) (by omega)).set w.heap.size 3 (.func (.yield yl) #[] #[]) (by omega))).lower (B':=w.heap.size) (by omega))
   have HSE:=hdq (Sl.set4 ((Sl.of_owns HOD.out HDW.out HDL.out).below HW.out lrf) w.heap.size (.slice a j cap) (.slice (some ⟨w.heap.size+1+1,0,none⟩) j j) (.slice wa j wc) (.func (.yield yl) #[] #[]) (by omega))
   have HBE:=hdq (((((((HB0 _).out.trans (HBW.out.mono (by simp))).trans (HW.out.mono (by omega))).setCell (p:=⟨w.heap.size,0,none⟩) lrf (.slice a j cap)).setCell (p:=⟨w.heap.size,1,none⟩) lrf (.slice (some ⟨w.heap.size+1+1,0,none⟩) j j)).setCell (p:=⟨w.heap.size,2,none⟩) lrf (.slice wa j wc)).setCell (p:=⟨w.heap.size,3,none⟩) lrf (.func (.yield yl) #[] #[]))
   go_wp2;refine bodyPost_ret (results_cell_row (by rfl) _ _ w.heap.size 188 _ (0,0) _ (by rfl) HR.out Tryz.underlying188 (by rfl) (by kernel_rfl)) rfl ?_
   exact ⟨_,wa,_,wc,rfl,ds,HSE.out,(fun b off e=>by simp only [sij,Addr.mk.injEq] at e;omega),(fun j hj=>by have:=HDV.out j hj;rwa [gdq] at this),outs,HAE.out,HMP.out,HBE.out⟩
end
end Go.Proofs.YtkiamgcpcneggaaGreat
