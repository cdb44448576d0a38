import Derived.Test.YtkiamgcpcneggaaGreatPackAB
import Derived.Test.YtkiamgcpcneggaaGreatPackAF
set_option linter.all false
set_option maxRecDepth 100000
set_option maxHeartbeats 12800000
namespace Go.Proofs.YtkiamgcpcneggaaGreat
section
open Go.RowKit Go.Maps Tri Daw

structure xL (ws:LLI) (i:Nat) (ns:LIn) (L:List St) (cs:List Cz):Prop where
 nums:ns.length=(begs ws).length/\∀j,i<=j->j<(begs ws).length->ns.getD j 0=(num ws ((begs ws).getD j []):Int)
 names:L=(aI ws i).map fun K=>stN ws K.F
 len:cs.length=(aI ws i).length
 each:∀j,j<(aI ws i).length->(cs.getD j Cz.no).num=j/\(cs.getD j Cz.no).long=((aI ws i).getD j Kd.no).L/\(cs.getD j Cz.no).first=((aI ws i).getD j Kd.no).F/\(cs.getD j Cz.no).st.st=stN ws ((aI ws i).getD j Kd.no).F
def Inv (ws:LLI) (B g mb ob mp:Nat) (os:List Wd) (i:Nat) (w:World):Prop:=∃ns L cs v,Mr w B g mb ob mp (begs ws).length os ns L cs v/\xL ws i ns L cs/\∀x∈cs,∃y∈os,x.fa=y.a

theorem akN {ws:LLI} {i k:Nat} (hk:k<(aI ws i).length):((aI ws i).map fun K=>stN ws K.F).getD k St.no=stN ws ((aI ws i).getD k Kd.no).F:=by
 simp [hk]
theorem akO {ws:LLI} (hc:check (make ws)=true) {q:LIn} (hq:q∈begs ws):∀a∈aP (begs ws) q,Utf.good a.1=true:=by
 obtain ⟨i,hi,rfl⟩:=List.getElem_of_mem hq;have hi':i<(make ws).length:=by rw [iM];exact hi
 have h:=(Ba hc).2 _ (List.getElem_mem hi');rw [AB hi'] at h;exact fun a ha=>(h.1 a ha).1
theorem akP {ws:LLI} (hc:check (make ws)=true) {q:LIn} (hq:q∈begs ws):kG (stN ws q):=by
 intro a ha;have hlen:(begs ws).length<=6001:=by have:=(Ba hc).1;rwa [iM] at this
 simp only [stN,List.mem_map] at ha;obtain ⟨b,hb,rfl⟩:=ha;refine ⟨akO hc hq b hb,by simp only [Bc];omega,?_⟩;obtain ⟨k,hk,h1,h2⟩:=mY.1 hb
 have hm:(begs ws).getD b.2.toNat []∈begs ws:=by
  rw [h2,Int.toNat_natCast,gdq,geg hk,Option.getD_some];exact List.getElem_mem _
 have h3:=(yS hm).1;have h4:=Ph ws 0 (Nat.zero_le _);unfold jN at h3;simp only [Bc];omega

theorem akQ {ws:LLI} (hs:Tri.Short ws) (hr:aM ws) (hc:check (make ws)=true) {B g mb ob mp i:Nat} {os:List Wd} {w:World} (h:Inv ws B g mb ob mp os (i+1) w) (hi:i<(begs ws).length) (hos:nums os=begs ws) (x:Sw) (hx:x.Good w) (hxs:x.st=(make ws).getD i St.no) :
 Calls Tryz.prog 68 #[.pointer (some ⟨mb,0,none⟩),.int .i64 (i:Int),.agg #[.bool x.fin,.slice x.a x.n x.cap]] w fun e w'=>e=.returned (.tuple #[])/\Inv ws B g mb ob mp os i w'/\cB B mb ob mp w w':=by
 obtain ⟨ns,L,cs,v,hM,hT,uw⟩:=h;have hN:(begs ws).length<=6001:=by have:=(Ba hc).1;rwa [iM] at this
 have aaU:os.length=(begs ws).length:=by rw [<-hos,nums_length]
 obtain ⟨q,hq⟩:∃q,(begs ws)[i]=q:=⟨_,rfl⟩;have hqd:(begs ws).getD i []=q:=by rw [<-hq];simp [hi]
 have hqm:q∈begs ws:=by rw [<-hq];exact List.getElem_mem _
 have hkl:=Ph ws (i+1) omg
 have hxe:x.fin=decide (q∈ws)/\x.arcs=aP (begs ws) q:=by
  have hi':i<(make ws).length:=by rw [iM];exact hi
  have h1:(make ws).getD i St.no=(make ws)[i]:=by simp [hi']
  rw [h1,AB hi',hq] at hxs;exact ⟨congrArg St.final hxs,congrArg St.arcs hxs⟩
 have hst:(⟨x.fin,x.arcs.map fun a=>(a.1,((num ws ((begs ws).getD a.2.toNat []):Nat):Int))⟩:St)=stN ws q:=by
  rw [hxe.1,hxe.2];rfl
 have hbq:(os.getD i Wd.no).zs=q:=by rw [<-MK,hos,hqd]
 have iI:os.getD i Wd.no∈os:=by rw [gdq,geg omg,Option.getD_some];exact List.getElem_mem _
 have hbn:(os.getD i Wd.no).n=q.length:=by rw [<-hbq];exact ((hM.words _ iI).1).symm
 have hto:∀a∈x.arcs,0<=a.2/\a.2<((begs ws).length:Int)/\ns.getD a.2.toNat 0=((num ws ((begs ws).getD a.2.toNat []):Nat):Int):=by
  intro a ha;rw [hxe.2] at ha;obtain ⟨k,hk,h1,h2⟩:=mY.1 ha;have hik:=IP (wh ws) hi hk hq h1;rw [h2,Int.toNat_natCast];exact ⟨by omega,by omega,hT.nums.2 k omg hk⟩
 have hbig:x.n<=2000000:=by
  have h1:=DL (begs ws) q;rw [<-hxe.2,hx.1] at h1;omega
 have hnm:kG ⟨x.fin,x.arcs.map fun a=>(a.1,((num ws ((begs ws).getD a.2.toNat []):Nat):Int))⟩:=by rw [hst];exact akP hc hqm
 have Lb:L.length=(aI ws (i+1)).length:=by rw [hT.names,List.length_map]
 have hshort:∀y∈os,y.n<=1000:=by
  intro y hy;have h1:y.zs∈begs ws:=by rw [<-hos];exact List.mem_map.2 ⟨y,hy,rfl⟩
  have h2:=IW hs h1;have h3:=(hM.words y hy).1;omega
 have hLn:∀k,k<L.length->L.getD k St.no=stN ws ((aI ws (i+1)).getD k Kd.no).F:=fun k hk=>by rw [hT.names];exact akN omg
 have Gg:∀k:Nat,num ws q=k->(ns.set i (k:Int)).length=(begs ws).length/\∀j,i<=j->j<(begs ws).length->(ns.set i (k:Int)).getD j 0=(num ws ((begs ws).getD j []):Int):=by
  intro k hk;refine ⟨by rw [List.length_set];exact hT.nums.1,fun j h1 h2=>?_⟩;by_cases hij:i=j
  ·subst hij;rw [hqd,hk];simp [hT.nums.1,hi]
  ·have e:(ns.set i (k:Int)).getD j 0=ns.getD j 0:=by simp [gdq,List.getElem?_set_ne hij]
   rw [e];exact hT.nums.2 j omg h2
 cases hf:dL (aI ws (i+1)) (ends ws q) with
 | some k =>
   obtain ⟨hkk,aB,mU⟩:=akG hi hq hf
   have hmem:(⟨x.fin,x.arcs.map fun a=>(a.1,((num ws ((begs ws).getD a.2.toNat []):Nat):Int))⟩:St)∈L:=by
    rw [hst,<-(JJ hs hr hqm hkk).2 hf,<-hLn k omg,gdq,geg omg,Option.getD_some];exact List.getElem_mem _
   refine (akB B g mb ob mp _ i os ns L cs v x (fun t=>((num ws ((begs ws).getD t.toNat []):Nat):Int)) w hM hi ⟨aaU,hT.nums.1,by rw [hT.len,Lb]⟩ hN hx hto hbig hnm omg hshort hmem).mono ?_;rintro e w' ⟨rfl,k',v',c',hk',hLk,hM',⟨c1,c2,c3,c4,c5⟩,hK⟩
   have apK:k'=k:=by
    rw [hst,hLn k' hk'] at hLk;have h1:=(JJ hs hr hqm (show k'<(aI ws (i+1)).length by omega)).1 hLk;rw [hf] at h1;exact (Option.some.inj h1).symm
   subst apK;rw [hbq] at c3;rw [hbn] at c2;obtain ⟨d1,d2,d3,d4⟩:=hT.each k' hkk
   have hF:stN ws (if lessL q ((aI ws (i+1)).getD k' Kd.no).F=true then q else ((aI ws (i+1)).getD k' Kd.no).F)=stN ws ((aI ws (i+1)).getD k' Kd.no).F:=by
    split
    ·exact ((JJ hs hr hqm hkk).2 hf).symm
    ·rfl
   refine ⟨rfl,⟨_,_,_,_,hM',⟨Gg k' aB,?_,by rw [List.length_set,mU,List.length_set,hT.len],fun j hj=>?_⟩,fun y hy=>?_⟩,hK⟩
   ·rw [mU,List.map_set];simp only [];rw [hF,hT.names];refine (List.ext_getElem smp fun j h1 h2=>?_);by_cases hjk:k'=j
    ·subst hjk;rw [List.getElem_set_self];have h3:k'<(aI ws (i+1)).length:=hkk;simp [h3]
    ·rw [List.getElem_set_ne hjk]
   ·rw [mU,List.length_set] at hj;by_cases hjk:k'=j
    ·subst hjk;have e1:(cs.set k' c').getD k' Cz.no=c':=by simp [hT.len,hj]
     have e2:(aI ws i).getD k' Kd.no=⟨((aI ws (i+1)).getD k' Kd.no).E,max ((aI ws (i+1)).getD k' Kd.no).L q.length,if lessL q ((aI ws (i+1)).getD k' Kd.no).F=true then q else ((aI ws (i+1)).getD k' Kd.no).F⟩:=by rw [mU];simp [hj]
     rw [e1,e2];refine ⟨by rw [c1,d1],by rw [c2,d2],by rw [c3,d3],?_⟩;simp only [];rw [hF,c4,d4]
    ·have e1:(cs.set k' c').getD j Cz.no=cs.getD j Cz.no:=by simp [gdq,List.getElem?_set_ne hjk]
     have e2:(aI ws i).getD j Kd.no=(aI ws (i+1)).getD j Kd.no:=by rw [mU];simp [gdq,List.getElem?_set_ne hjk]
     rw [e1,e2];exact hT.each j hj
   ·rcases List.mem_or_eq_of_mem_set hy with hy|rfl
    ·exact uw y hy
    ·rcases c5 with c5|c5
     ·exact ⟨_,iI,c5⟩
     ·rw [c5];exact uw _ (nu (by rw [hT.len];exact hkk))
 | none =>
   obtain ⟨mU,aB⟩:=akF hi hq hf
   have hmem:(⟨x.fin,x.arcs.map fun a=>(a.1,((num ws ((begs ws).getD a.2.toNat []):Nat):Int))⟩:St)∉L:=by
    rw [hst];intro hm;obtain ⟨k,hk,hke⟩:=List.getElem_of_mem hm;have h1:L.getD k St.no=stN ws q:=by rw [<-hke];simp [hk]
    rw [hLn k hk] at h1;rw [(JJ hs hr hqm (show k<(aI ws (i+1)).length by omega)).1 h1] at hf;cases hf
   refine (akC B g mb ob mp _ i os ns L cs v x (fun t=>((num ws ((begs ws).getD t.toNat []):Nat):Int)) w hM hi ⟨aaU,hT.nums.1,by rw [hT.len,Lb]⟩ hN hx hto hbig hnm omg hshort hmem).mono ?_;rintro e w' ⟨rfl,v',c',hM',⟨c1,c2,c3,c4,c5⟩,hK⟩;rw [hbq] at c3;rw [hbn] at c2;rw [hst] at c4;rw [hst] at hM';refine ⟨rfl,⟨_,_,_,_,hM',⟨Gg _ (by rw [aB,Lb]),?_,by rw [mU,List.length_append,List.length_append,hT.len];rfl,fun j hj=>?_⟩,fun y hy=>?_⟩,hK⟩
   ·rw [mU,List.map_append,hT.names];rfl
   ·rw [mU,List.length_append,List.length_singleton] at hj;by_cases hjl:j<(aI ws (i+1)).length
    ·have e1:(cs++[c']).getD j Cz.no=cs.getD j Cz.no:=by rw [gdq,List.getElem?_append_left (by rw [hT.len];exact hjl),<-gdq]
     have e2:(aI ws i).getD j Kd.no=(aI ws (i+1)).getD j Kd.no:=by rw [mU,gdq,List.getElem?_append_left hjl,<-gdq]
     rw [e1,e2];exact hT.each j hjl
    ·obtain rfl:j=(aI ws (i+1)).length:=omg;have e1:(cs++[c']).getD (aI ws (i+1)).length Cz.no=c':=by rw [<-hT.len];simp
     have e2:(aI ws i).getD (aI ws (i+1)).length Kd.no=⟨ends ws q,q.length,q⟩:=by rw [mU];simp
     rw [e1,e2];exact ⟨by rw [c1,Lb],c2,c3,c4⟩
   ·rcases map1 hy with hy|hy
    ·exact uw y hy
    ·rw [msg hy];exact ⟨_,iI,c5⟩
end
section
open Go.RowKit Go.Shelf Tri Daw
attribute [local go_sem] Oper.semAt_some

theorem Mr.keep {S:Nat->Prop} {w w':World} {B g mb ob mp N:Nat} {os:List Wd} {ns:LIn} {L:List St} {cs:List Cz} {v:Value} (h:Mr w B g mb ob mp N os ns L cs v) (hk:ae S w w') (hS:S mb/\S ob/\S mp/\S g) (hos:∀x∈os,∀b off,x.a=some ⟨b,off,none⟩->S b)
 (hfa:∀x∈cs,∃y∈os,x.fa=y.a) (hv:∀r,v.ownBlock=some r->S r) (hcs:∀x∈cs,∀r,x.st.s.ownBlock=some r->S r):Mr w' B g mb ob mp N os ns L cs v:=by
 obtain ⟨l1,l2,l3,l4⟩:=h.lt
 refine ⟨⟨l1,l2,l3,Nat.le_trans l4 hk.size⟩,h.ne,h.gfar,hk.heap h.box hS.1,fun k hk'=>hk.cell (h.begs k hk') hS.2.2.2,fun x hx=>Sl.keep (h.words x hx) hk (hos x hx),h.far,tC h.of hk (fun r e=>by
  have:ob=r:=by simpa [Value.ownBlock] using e
  rw [<-this];exact hS.2.1),h.ofw,h.map.block (hk.block mp omg hS.2.2.1),tC h.row hk hv,fun x hx=>?_⟩
 have hx1:=h.each x hx;refine ⟨Sl.keep hx1.first hk (fun b off e=>?_),hx1.far,hx1.long,tC hx1.arcs hk (hcs x hx),hx1.wfs⟩;obtain ⟨y,hy,e'⟩:=hfa x hx;exact hos y hy b off (by rw [<-e'];exact e)
theorem Mr.rebase {w:World} {B B' g mb ob mp N:Nat} {os:List Wd} {ns:LIn} {L:List St} (h:Mr w B g mb ob mp N os ns L [] (.slice none 0 0)) (hB:B<=B'/\B'<=w.heap.size):Mr w B' g mb ob mp N os ns L [] (.slice none 0 0):=by
 obtain ⟨l1,l2,l3,l4⟩:=h.lt;have hf:∀b,Far B mb ob mp b->Far B' mb ob mp b:=fun b ⟨f1,f2⟩=>⟨by omega,f2⟩;exact ⟨⟨by omega,by omega,by omega,hB.2⟩,h.ne,hf _ h.gfar,h.box,h.begs,h.words,fun x hx b off e=>hf _ (h.far x hx b off e),h.of,h.ofw,h.map,World.ownsRow_nil _ _ _ _,fun x hx=>by cases hx⟩

def Ym (ws:LLI) (ys:List Sw) (w:World) (B g mb ob mp:Nat) (os:List Wd) (tell:Value) (pre:List (Bp ys)) (O:Nat->Prop) (W:World):Prop :=
 Boxed W w.heap.size 106 tell/\O mb/\O ob/\O mp/\cB B mb ob mp w W /\
  ((pre=[]/\∃ns,Mr W B g mb ob mp (begs ws).length os ns [] [] (.slice none 0 0)/\xL ws (begs ws).length ns [] []) \/
   ∃B',w.heap.size+2<=B'/\(∀k,B'<=k->O k)/\Inv ws B' g mb ob mp os ((begs ws).length-pre.length) W)
theorem akR (ws:LLI) (ys:List Sw) (w:World) (B g mb ob mp base:Nat) (os:List Wd) (tell:Value) (hB:B<=w.heap.size) (hbase:w.heap.size<base) (hg:g<B) (hos:∀x∈os,∀b off,x.a=some ⟨b,off,none⟩->b<B):Stable base (Ym ws ys w B g mb ob mp os tell):=by
 rintro pre O W W' ⟨h1,h2,h3,h4,h5,h6⟩ hk;have hS:(mb<base\/O mb)/\(ob<base\/O ob)/\(mp<base\/O mp)/\(g<base\/O g):=⟨.inr h2,.inr h3,.inr h4,.inl omg⟩;have nP:∀x∈os,∀b off,x.a=some ⟨b,off,none⟩->(b<base\/O b):=fun x hx b off e=>.inl (by have:=hos x hx b off e;omega);refine ⟨hk.boxed h1 (.inl hbase),h2,h3,h4,h5.trans ⟨hk.os,hk.tape,hk.output,hk.size,fun k hk1 _ _ _=>hk.block k (by have:=h5.size;omega) (.inl omg)⟩,?_⟩;rcases h6 with ⟨e,ns,hM,hT⟩|⟨B',hB',hO,ns,L,cs,v,hM,hT,uw⟩
 ·exact .inl ⟨e,ns,hM.keep hk hS nP smp (by simp [Value.ownBlock]) smp,hT⟩
 ·exact .inr ⟨B',hB',hO,ns,L,cs,v,hM.keep hk hS nP uw (fun r e=>.inr (hO r (hM.row.lt r e).1)) (fun x hx r e=>.inr (hO r ((hM.each x hx).arcs.lt r e).1)),hT,uw⟩
theorem akS {ws:LLI} (hs:Tri.Short ws) (hr:aM ws) (hc:check (make ws)=true) (B g mb ob mp:Nat) (os:List Wd) (ns:LIn) (a:OAd) (n cap:Nat) (ys:List Sw) (W0 w:World) (hy:Ss W0 a n cap ys) (hys:sts ys=make ws) (hb0:Below W0.heap.size W0 w)
 (hW0:W0.heap.size<=mb/\W0.heap.size<=ob/\W0.heap.size<=mp) (hM:Mr w B g mb ob mp (begs ws).length os ns [] [] (.slice none 0 0)) (hT:xL ws (begs ws).length ns [] []) (hos:nums os=begs ws) :
 Calls Tryz.prog 67 #[.slice a n cap,.func (.func 68) #[.pointer (some ⟨mb,0,none⟩)] #[]] w fun e w'=>e=.returned (.tuple #[])/\(∃B',B<=B'/\Inv ws B' g mb ob mp os 0 w')/\cB B mb ob mp w w':=by
 have hyl:ys.length=(begs ws).length:=by rw [<-fq,hys,iM]
 have hyn:ys.length=n:=hy.1;have hN:(begs ws).length<=6001:=by have:=(Ba hc).1;rwa [iM] at this
 have hpos:0<(begs ws).length:=Az ws
 have aaW:∀(F:Fence) (m:Nat),F=Fence.wide->∀{B:Nat} {i:Nat} {w:World},Inv ws B g mb ob mp os (i+1) w->i<(begs ws).length->∀x:Sw,x.Good w->x.st=(make ws).getD i St.no ->
  CallsIn F m Tryz.prog 68 #[.pointer (some ⟨mb,0,none⟩),.int .i64 (i:Int),.agg #[.bool x.fin,.slice x.a x.n x.cap]] w fun e w'=>e=.returned (.tuple #[])/\Inv ws B g mb ob mp os i w'/\cB B mb ob mp w w':=by
  intro F m hF B i w h hi x hx hxs;subst hF;exact callsIn_wide.2 (akQ hs hr hc h hi hos x hx hxs)
 obtain ⟨hl1,hl2,hl3,hl4⟩:=hM.lt;have hgB:=hM.gfar.1;have nD:∀x∈os,∀b off,x.a=some ⟨b,off,none⟩->b<B:=fun x hx b off e=>(hM.far x hx b off e).1;refine (callsIn_wide (n:=20)).1 ?_;obtain ⟨F,hF⟩:∃F,F=Fence.wide:=⟨_,rfl⟩;have hfn:∀f,F.fn f:=by subst hF;exact fun _=>trivial
 have hro:F.round=none:=by subst hF;rfl
 have hd:F.depth=none:=by subst hF;rfl
 have Sg:=fun (m:Nat)=>@aaW F m hF;rw [<-hF];clear hF aaW;refine callsIn_of_wp_marks Tryz.func67 rfl (hfn _) ?_ hro;simp only [Tryz.ntmps67,List.size_toArray,List.length_cons,List.length_nil,Nat.reduceAdd,Nat.reduceSub,Array.replicate_succ,Array.replicate_zero,List.push_toArray,List.append_toArray,List.nil_append,List.cons_append];have HM:=hdq hM;have HT:=hdq hT;have HY:=hdq hy;have HB0:=hdq hb0;have rM:=hdq hys;clear hM hT hy hb0 hys
 gi_wp2_with (gi_at_call 112;refine (Oj F _ (hfn _) hro _ _ _ _).mono ?_;rintro e w' ⟨rfl,rfl⟩)
 obtain ⟨tell,Si⟩:∃tell:Value,tell=.func (.func 68) #[.pointer (some ⟨mb,0,none⟩)] #[]:=⟨_,rfl⟩;have bO:=Boxed.new w 106 tell;rw [Si] at bO;obtain ⟨w1,hw1⟩:∃w1,w1=(w.alloc (.cells #[.func (.func 68) #[.pointer (some ⟨mb,0,none⟩)] #[]] 106)).alloc (.cells #[.slice a n cap] 22):=⟨_,rfl⟩;have z1:w1.heap.size=w.heap.size+2:=by rw [hw1];simp
 have k1:∀T,ae T w w1:=fun T=>by rw [hw1];exact (ae.alloc T w _).trans (ae.alloc T _ _)
 have b1:Boxed w1 w.heap.size 106 tell:=by
  rw [hw1,Si];exact (ae.alloc (fun _=>True) _ _).boxed bO trivial
 have bl:w1.cell? ⟨w.heap.size+1,0,none⟩=some (.slice a n cap):=by
  have h:=han (w.alloc (.cells #[.func (.func 68) #[.pointer (some ⟨mb,0,none⟩)] #[]] 106)) (.cells #[.slice a n cap] 22);rw [World.size_alloc] at h;rw [hw1,af h];rfl
 have oN:Below w.heap.size w w1:=(k1 (fun _=>True)).below lrf (fun _ _=>trivial);have hM1:=hdq (HM.out.below oN);rw [<-hw1]
 refine Oh hro (fun h=>by rw [hd] at h;cases h) (gf:=148) (lb:=#[.pointer (some ⟨w.heap.size+1,0,none⟩)]) rfl (hfn _) (enters_of Tryz.func148 krf rfl)
  (encs:=bpv (ys:=ys)) (Rd:=fun k=>k<W0.heap.size\/k=w.heap.size+1) (T:=nZ ys) (S:=fun xs=>nZ ys xs/\xs.length=n) (Sp:=fun _=>True) (N:=n) (w0:=w1)
  (fun l J Jx O W hW hO _ _ hY h0=>Oi F _ (hfn _) hro omg l (w.heap.size+1) a n cap ys W0 HY.out omg J Jx hY (fun k=>k<W0.heap.size\/k=w.heap.size+1) (fun _ h=>.inl h) (.inr rfl) O W
   (by rintro k (h|rfl)<;>(have:=hW.size;omega)) (fun k hk=>(hO k hk).1) ((HB0.out.trans (oN.mono HB0.out.size)).trans (hW.below (by have:=HB0.out.size;omega) (fun k h=>.inl h))) (hW.cell bl (.inr rfl)) h0)
  (ae.refl _ _) (by rintro k (h|rfl)<;>omega) (fun _=>rfl)
  (Ym ws ys w B g mb ob mp os tell) (fun _ _ _ _=>False) (akR ws ys w B g mb ob mp w1.heap.size os tell hl4 omg hgB nD) (fun _ _ _ _ _ h _=>h)
  (fun k=>k=mb\/k=ob\/k=mp) (by rintro k (rfl|rfl|rfl)<;>(refine ⟨?_,by omega⟩;rintro (h|h)<;>omega))
  ⟨b1,.inl rfl,.inr (.inl rfl),.inr (.inr rfl),cB.grown (uL oN) hl4 (fun r e=>by cases e),.inl ⟨rfl,ns,hM1.out,HT.out⟩⟩
  (fun x bx=>{ tmps:=#[.slice a n cap,.func (.func 68) #[.pointer (some ⟨mb,0,none⟩)] #[],undef,.pointer (some ⟨w.heap.size,0,none⟩),.int .i64 (x.1.1:Int),.pointer (some ⟨bx,0,none⟩),.slice a n cap,.func (.func 148) #[] #[.pointer (some ⟨w.heap.size+1,0,none⟩)],.int .i64 (x.1.1:Int),.agg #[.bool x.1.2.fin,.slice x.1.2.a x.1.2.n x.1.2.cap],undef,undef,undef,undef],defers:=[] })
  (fun x=>.cells #[.bool x.1.2.fin,.slice x.1.2.a x.1.2.n x.1.2.cap] 58) ?assign ?body ?done ?stop
 case assign =>
  intro l x W K hK;simp only [bpv]
  gi_wp2
  exact hK
 case body =>
  rintro l2 pre x O X bx hTx ⟨h1,h2,h3,h4,h5,h6⟩ hlt hsz hbx
  have hi:x.1.1+pre.length+1=(begs ws).length:=by
   have:=hTx pre.length smp;rw [List.getElem_append_right lrf] at this;simp only [Nat.sub_self,List.getElem_cons_zero] at this;omega
  have hinv:∃B',w.heap.size+2<=B'/\(∀k,k<X.heap.size->¬O k->k<B')/\(∀k,B'<=k->O k\/X.heap.size<=k)/\Inv ws B' g mb ob mp os (x.1.1+1) X:=by
   rcases h6 with ⟨e,ns',hM',hT'⟩|⟨B',hB',Ac,hI'⟩
   ·subst e;have e1:x.1.1+1=(begs ws).length:=by simpa using hi
    refine ⟨X.heap.size,by omega,fun k hk _=>hk,fun k hk=>.inr hk,?_⟩;rw [e1];exact ⟨ns',[],[],_,hM'.rebase ⟨by have:=h5.size;omega,Nat.le_refl _⟩,hT',by simp⟩
   ·refine ⟨B',hB',fun k hk hn=>?_,fun k hk=>.inl (Ac k hk),?_⟩
    ·rcases Nat.lt_or_ge k B' with h|h
     ·exact h
     ·exact absurd (Ac k h) hn
    ·have e1:(begs ws).length-pre.length=x.1.1+1:=omg;rw [e1] at hI';exact hI'
  obtain ⟨B',hB',hOB,hBO,hI⟩:=hinv
  have hxg:x.1.2.Good X:=by
   have hm:x.1.2∈ys:=by
    rw [<-x.2.2,gdq,geg x.2.1,Option.getD_some];exact List.getElem_mem _
   exact (HY.out.2.2.2.1 _ hm).below ((HB0.out.trans ((h5.below ⟨by have:=HB0.out.size;omega,hW0⟩).mono lrf))) lrf
  have hxs:x.1.2.st=(make ws).getD x.1.1 St.no:=by rw [<-rM.out,ic,x.2.2]
  obtain ⟨⟨⟨i,⟨fin,sa,sn,sc,arcs⟩⟩,hx2⟩,hxe⟩:∃y,y=x:=⟨x,rfl⟩;have ag:=hdq hxe;subst hxe;simp only at hi hI hxg hxs hbx ⊢;have hcall:=fun m=>(Sg m hI omg ⟨fin,sa,sn,sc,arcs⟩ hxg hxs).inRound l2;have ct:=h1.cell;rw [Si] at ct;have c0:X.cell? ⟨bx,0,none⟩=some (.bool fin):=by rw [af hbx];rfl
  have c1:X.cell? ⟨bx,1,none⟩=some (.slice sa sn sc):=by rw [af hbx];rfl
  have HI:=hdq hI;have EX:=hdq hcall;have H1:=hdq h1;clear hI hcall hbx h1 hxg hxs h6 Sg
  gi_wp2_with (gi_at_call 68;refine (EX.out _).mono ?_;rintro e w' ⟨rfl,hI',hK'⟩)
  have hkeep:ae (fun k=>¬O k) X w':=⟨hK'.os,hK'.tape,hK'.output,hK'.size,fun k hk hn=>hK'.block k (hOB k hk hn) (fun e=>hn (e▸h2)) (fun e=>hn (e▸h3)) (fun e=>hn (e▸h4))⟩;have htO:Boxed w' w.heap.size 106 tell:=(hK'.block w.heap.size omg omg omg omg).trans H1.out;have hKB:cB B mb ob mp X w':=⟨hK'.os,hK'.tape,hK'.output,hK'.size,fun k h1 h2 h3 h4=>hK'.block k omg h2 h3 h4⟩;refine ⟨fun k=>O k\/X.heap.size<=k,hkeep,fun k h=>h,htO,.inl h2,.inl h3,.inl h4,h5.trans hKB,.inr ⟨B',hB',hBO,?_⟩⟩;have e1:(begs ws).length-(pre++[(⟨(i,⟨fin,sa,sn,sc,arcs⟩),hx2⟩:Bp ys)]).length=i:=by rw [List.length_append,List.length_singleton];omega
  rw [e1];exact hI'
 case done =>
  rintro D xs O X hD ui ⟨hxs,hxl⟩ ⟨h1,h2,h3,h4,h5,h6⟩ hK
  have hlast:∃B',w.heap.size+2<=B'/\(∀k,B'<=k->O k)/\Inv ws B' g mb ob mp os 0 X:=by
   rcases h6 with ⟨e,_⟩|⟨B',hB',Ac,hI'⟩
   ·subst e;simp at hxl;omega
   ·have e1:(begs ws).length-xs.length=0:=omg;rw [e1] at hI';exact ⟨B',hB',Ac,hI'⟩
  obtain ⟨B',hB',Ac,ns',L,cs,v,hM',hT',uw⟩:=hlast;have kD:ae (fun k=>k<w1.heap.size\/O k) X (X.putObj D (.deferred none)):=ae.putObj _ _ _ (by rintro (h|h);omega;exact ui h);have hM2:=hM'.keep kD ⟨.inr h2,.inr h3,.inr h4,.inl omg⟩ (fun x hx b off e=>.inl (by have:=nD x hx b off e;omega)) uw (fun r e=>.inr (Ac r (hM'.row.lt r e).1)) (fun x hx r e=>.inr (Ac r ((hM'.each x hx).arcs.lt r e).1));have hK2:cB B mb ob mp X (X.putObj D (.deferred none)):=⟨kD.os,kD.tape,kD.output,kD.size,fun k h1 _ _ _=>kD.block k (by have:=h5.size;omega) (.inl omg)⟩;have HR:=hdq (And.intro hM2 (And.intro hT' (And.intro uw (h5.trans hK2))));clear hM2 hM' hT' uw h6 h5 hK2 Sg
  gi_wp2
  refine ⟨by simp,.inl ⟨_,_,rfl,run_takeDeferred hK,?_⟩⟩;refine ⟨_,results_none rfl _ _ _,rfl,⟨B',by omega,_,_,_,_,HR.out.1,HR.out.2.1,HR.out.2.2.1⟩,HR.out.2.2.2⟩
 case stop =>
  rintro D c pre U X _ _ _ h _;exact h.elim
end
section
open Go.RowKit Go.Maps Tri Daw

def kindOf (ws:LLI) (x:Cz):Kd:=(jN ws).getD x.num Kd.no
theorem Ec {ws:LLI} {ns:LIn} {L:List St} {cs:List Cz} (hT:xL ws 0 ns L cs) {x:Cz} (hx:x∈cs):x.num<(jN ws).length/\x.long=(kindOf ws x).L/\x.first=(kindOf ws x).F/\x.st.st=stN ws (kindOf ws x).F:=by
 obtain ⟨j,hj,he⟩:=List.getElem_of_mem hx;have hj':j<(aI ws 0).length:=by rw [<-hT.len];exact hj
 obtain ⟨h1,h2,h3,h4⟩:=hT.each j hj';have e:cs.getD j Cz.no=x:=by rw [<-he];simp [hj]
 rw [e] at h1 h2 h3 h4;unfold kindOf jN;rw [h1];exact ⟨hj',h2,h3,h4⟩
theorem akT {ws:LLI} {ns:LIn} {L:List St} {cs:List Cz} (hT:xL ws 0 ns L cs):cs.map (kindOf ws)=jN ws:=by
 refine List.ext_getElem (by rw [List.length_map,hT.len];rfl) fun j h1 h2=>?_;have hj:j<cs.length:=by simpa using h1
 obtain ⟨n1,_⟩:=hT.each j (by rw [<-hT.len];exact hj);have e:cs.getD j Cz.no=cs[j]:=by simp [hj]
 rw [e] at n1;rw [List.getElem_map];unfold kindOf;rw [n1,ni h2]
theorem akU {ws:LLI} (hs:Tri.Short ws) (hr:aM ws) {ns:LIn} {L:List St} {cs cs':List Cz} (hT:xL ws 0 ns L cs) (hp:cs'.Perm cs) (hso:cs'.Pairwise fun a b=>clt b a=false) {P:Int->Int} (hP:∀k,k<cs.length->P ((cs'.getD k Cz.no).num:Int)=(k:Int)):cs'.map (OZ P)=bL ws:=by
 have hK:cs'.map (kindOf ws)=kinds ws:=by
  refine akJ ?_ ?_
  ·rw [<-akT hT];exact hp.map _
  ·rw [List.pairwise_map];refine List.Pairwise.imp_of_mem ?_ hso;intro a b ha hb h;obtain ⟨_,a2,a3,_⟩:=Ec hT (hp.mem_iff.1 ha);obtain ⟨_,b2,b3,_⟩:=Ec hT (hp.mem_iff.1 hb);unfold clt at h;unfold dw;rw [<-a2,<-b2,<-a3,<-b3];exact h
 have hlen:cs'.length=(kinds ws).length:=by rw [<-hK,List.length_map]
 have hcl:cs.length=cs'.length:=hp.length_eq.symm
 have hat:∀k,k<cs'.length->(kinds ws).getD k Kd.no=kindOf ws (cs'.getD k Cz.no):=by
  intro k hk;rw [<-hK];simp [hk]
 have hPc:∀p∈begs ws,P (num ws p:Int)=(cls ws p:Int):=by
  intro p hp';obtain ⟨n1,_⟩:=yS hp';have hj:num ws p<cs.length:=by rw [hT.len];exact n1
  obtain ⟨e1,_⟩:=hT.each (num ws p) n1;have hm:cs.getD (num ws p) Cz.no∈cs':=hp.mem_iff.2 (nu hj);obtain ⟨k,hk,he⟩:=List.getElem_of_mem hm;have e2:cs'.getD k Cz.no=cs.getD (num ws p) Cz.no:=by rw [<-he];simp [hk]
  have h1:=hP k omg;rw [e2,e1] at h1;rw [h1];have h2:=hat k hk;unfold kindOf at h2;rw [e2,e1] at h2;rw [akK hp' omg h2]
 refine List.ext_getElem (by rw [List.length_map,Oy,hlen]) fun k h1 h2=>?_;have hk:k<cs'.length:=by simpa using h1
 have hm:cs'.getD k Cz.no∈cs:=hp.mem_iff.1 (nu hk);obtain ⟨m1,m2,m3,m4⟩:=Ec hT hm;have hko:=(Bb ws).1 _ (yM m1);have hd:=akM hs hr (i:=k) (q:=(kindOf ws (cs'.getD k Cz.no)).F) (P:=P) omg hko.1 (by rw [hat k hk];exact hko.2.1.symm) hPc;rw [<-m4] at hd;have e3:cs'[k]=cs'.getD k Cz.no:=by simp [hk]
 have e4:(bL ws).getD k St.no=(bL ws)[k]:=by simp [h2]
 rw [List.getElem_map,e3,<-e4,<-hd];rfl

def iZ (W:World) (g N lo hi:Nat) (os:List Wd):Prop:=Ws W (some ⟨g,0,none⟩) N N os/\(lo<=g/\g<hi)/\(∀x∈os,∀b off,x.a=some ⟨b,off,none⟩->lo<=b/\b<hi)/\hi<=W.heap.size
theorem iZ.below {W W':World} {g N lo hi:Nat} {os:List Wd} (h:iZ W g N lo hi os) (hb:Below W.heap.size W W'):iZ W' g N lo hi os:=⟨h.1.below hb lrf,h.2.1,h.2.2.1,Nat.le_trans h.2.2.2 hb.size⟩
theorem NameMap.below {W W':World} {mp:Nat} {l:List St} (h:NameMap W mp l) (hb:Below W.heap.size W W'):NameMap W' mp l:=h.block (hb.block mp h.lt)
theorem akV {W:World} {g N lo hi mb ob mp:Nat} {os:List Wd} (hC:iZ W g N lo hi os) (hS:W.ownsRow ob 3 1 (.slice (some ⟨ob,0,none⟩) N N) N (ay (List.replicate N 0))) (Lc:NameMap W mp []) {u0 u1 u2 u3:Value} (hL:W.heap[mb]?=some (.cells #[u0,u1,u2,u3] 104 (0,0)))
 (ho:mb<lo\/hi<=mb) (h2:ob<lo\/hi<=ob) (h3:mp<lo\/hi<=mp) (h4:mb≠ob/\mb≠mp/\ob≠mp) :
 Mr ((((W.setCell ⟨mb,0,none⟩ (.slice (some ⟨g,0,none⟩) N N)).setCell ⟨mb,1,none⟩ (.slice (some ⟨ob,0,none⟩) N N)).setCell ⟨mb,2,none⟩ (.map (some mp))).setCell ⟨mb,3,none⟩ (.slice none 0 0)) W.heap.size g mb ob mp N os (List.replicate N 0) [] [] (.slice none 0 0):=by
 obtain ⟨hws,hg,hup,hhi⟩:=hC;have hmb:=(hltq hL);have aQ:=(hS.lt ob rfl).2;have hmp:=Lc.lt;obtain ⟨Wn,Sj⟩:∃Wn,Wn=(((W.setCell ⟨mb,0,none⟩ (.slice (some ⟨g,0,none⟩) N N)).setCell ⟨mb,1,none⟩ (.slice (some ⟨ob,0,none⟩) N N)).setCell ⟨mb,2,none⟩ (.map (some mp))).setCell ⟨mb,3,none⟩ (.slice none 0 0):=⟨_,rfl⟩
 have hgr:W.grownBy Wn (some mb):=by
  rw [Sj];exact (((dC W ⟨mb,0,none⟩ _).trans (dC _ ⟨mb,1,none⟩ _)).trans (dC _ ⟨mb,2,none⟩ _)).trans (dC _ ⟨mb,3,none⟩ _)
 have kL:Wn.heap[mb]?=some (.cells #[.slice (some ⟨g,0,none⟩) N N,.slice (some ⟨ob,0,none⟩) N N,.map (some mp),.slice none 0 0] 104 (0,0)):=by
  rw [Sj,heap_setCell_same _ _ _ _ _ _ (heap_setCell_same _ _ _ _ _ _ (heap_setCell_same _ _ _ _ _ _ (heap_setCell_same _ _ _ _ _ _ hL)))];rfl
 have Gd:∀b,lo<=b/\b<hi->Far W.heap.size mb ob mp b:=fun b hb=>⟨by omega,by omega,by omega,by omega⟩;have hne:∀b,lo<=b/\b<hi->some b≠(some mb:Option Nat):=fun b hb e=>by simp only [sij] at e;omega
 rw [<-Sj];refine ⟨⟨hmb,aQ,hmp,hgr.size⟩,h4,Gd g hg,kL,fun k hk=>?_,fun x hx=>Sl.kept (hws.2.2.2.1 x hx) hgr (fun b off e=>hne b (hup x hx b off e)),fun x hx b off e=>Gd b (hup x hx b off e),Joins.ownsRow_le (hS.kept hgr (.inr (by simp only [Value.ownBlock,ne_eq,sij];omega))) (Nat.zero_le _),fun z hz=>by rw [(List.mem_replicate.1 hz).2];decide,Lc.kept hgr (by simp only [ne_eq,sij];omega),World.ownsRow_nil _ _ _ _,by simp⟩;refine hgr.cell ?_ (hne g hg);rcases hws.2.2.2.2 with h0|⟨b,off,e,hc⟩
 ·omega
 ·simp only [sij,Addr.mk.injEq,and_true] at e;obtain ⟨rfl,rfl⟩:=e;have:=hc k hk
  rwa [Nat.zero_add] at this
theorem told_start (ws:LLI):xL ws (begs ws).length (List.replicate (begs ws).length 0) [] []:=by
 refine ⟨⟨by simp,fun j h1 h2=>by omega⟩,by rw [JH];rfl,by rw [JH];rfl,fun j hj=>by rw [JH] at hj;simp at hj⟩
theorem akW {ws:LLI} (hc:check (make ws)=true) {B g mb ob mp:Nat} {os:List Wd} {w:World} (h:Inv ws B g mb ob mp os 0 w) :
 ∃ns L cs cb cc,Mr w B g mb ob mp (begs ws).length os ns L cs (.slice (some ⟨cb,0,none⟩) cs.length cc)/\xL ws 0 ns L cs/\1<=cs.length/\cs.length<=7000/\(cs.length<=cc/\cc<=maxLen)/\(∀j,j<cs.length->(cs.getD j Cz.no).num=j)/\(∀x∈cs,∀a∈x.st.arcs,0<=a.2/\a.2<(cs.length:Int))/\∀x∈cs,x.st.n<=2000000:=by
 obtain ⟨ns,L,cs,v,hM,hT,_⟩:=h;have hN:(begs ws).length<=6001:=by have:=(Ba hc).1;rwa [iM] at this
 have hk:=Ph ws 0 (Nat.zero_le _)
 have hpos:0<cs.length:=by
  rw [hT.len];have h0:(begs ws)[0]'(Az ws)∈begs ws:=List.getElem_mem _;have:=(yS h0).1;unfold jN at this;omega
 have hcl:=hT.len;obtain ⟨ca,cc,rfl,_⟩:=qI hM.row;obtain ⟨cb,rfl⟩:=nY hM.row hpos
 have hcap:cs.length<=cc/\cc<=maxLen:=by
  rcases hM.row.2 with ⟨h1,_⟩|⟨g',cap,cur,h1,_,_,h2,h3,_⟩
  ·simp at h1
  ·simp only [Value.slice.injEq] at h1;obtain ⟨_,_,rfl⟩:=h1;exact ⟨h2,h3⟩
 refine ⟨ns,L,cs,cb,cc,hM,hT,hpos,by omega,hcap,fun j hj=>(hT.each j omg).1,fun x hx a ha=>?_,fun x hx=>?_⟩
 ·obtain ⟨m1,_,_,m4⟩:=Ec hT hx;have e:x.st.arcs=(stN ws (kindOf ws x).F).arcs:=congrArg St.arcs m4;rw [e] at ha;obtain ⟨h1,h2⟩:=Eb.1 ha;have h3:=(yS h1).1;unfold jN at h3;omega
 ·obtain ⟨m1,_,_,m4⟩:=Ec hT hx;have e:x.st.arcs=(stN ws (kindOf ws x).F).arcs:=congrArg St.arcs m4;have h1:=(hM.each x hx).good.1;rw [e] at h1;have h2:=DL (begs ws) (kindOf ws x).F;simp only [stN,List.length_map] at h1;omega
end
end Go.Proofs.YtkiamgcpcneggaaGreat
