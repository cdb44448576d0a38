import Derived.Test.YtkiamgcpcneggaaGreatPackW
import Derived.Test.YtkiamgcpcneggaaGreatPackAH
set_option linter.all false
set_option maxRecDepth 100000
set_option maxHeartbeats 12800000
namespace Go.Proofs.YtkiamgcpcneggaaGreat
section
open Go.RowKit Go.Shelf
attribute [local go_sem] Oper.semAt_some

abbrev Bi (zs:LIn):={ x:Nat × Int // x.1<zs.length/\zs.getD x.1 0=x.2 }
def mr (zs:LIn) (l:List (Bi zs)):Prop:=∀j,∀h:j<l.length,(l[j]).1.1+j+1=zs.length
theorem mr.add {zs:LIn} {l:List (Bi zs)} (h:mr zs l) (x:Bi zs) (hx:x.1.1+l.length+1=zs.length):mr zs (l++[x]):=by
 intro j hj;by_cases hl:j<l.length
 ·rw [List.getElem_append_left hl];exact h j hl
 ·have:j=l.length:=by simp at hj;omega
  subst this;simpa using hx
theorem mr.last {zs:LIn} {l:List (Bi zs)} {x:Bi zs} (h:mr zs (l++[x])):x.1.1+l.length+1=zs.length:=by
 have:=h l.length smp;rw [List.getElem_append_right lrf] at this;simpa using this
def biv {zs:LIn} (x:Bi zs):Array Value:=#[.int .i64 (x.1.1:Int),.int .i64 x.1.2]
theorem ajn (F:Fence) (n:Nat) (h7:F.fn 171) (hro:F.round=none) (hd:F.depth=none) (l B1:Nat) (a:OAd) (len cap:Nat) (zs:LIn) (W:World) (hs:Sl .i64 W a len cap zs) (hlm:len<=1000000)
 (J Jx:List (Bi zs)->(Nat->Prop)->World->Prop)
 (hY:∀pre x O W,mr zs (pre++[x])->J pre O W->pre.length<len->YieldAt F (n-1) Tryz.prog l (biv x) W (yP J Jx (pre++[x]) O W))
 (Rd:Nat->Prop) (Fw:∀b off,a=some ⟨b,off,none⟩->Rd b) (uh:Rd B1)
 (O:Nat->Prop) (zA:∀k,Rd k->k<W.heap.size) (hO:∀k,O k->¬Rd k)
 (c1:W.cell? ⟨B1,0,none⟩=some (.slice a len cap)) (h0:J [] O W) :
 CallsIn F n Tryz.prog 171 #[.func (.yield l) #[] #[],.pointer (some ⟨B1,0,none⟩)] W fun e W'=>(∃v,e=.returned v) /\
  ∃O',(∃xs:List (Bi zs),(mr zs xs/\xs.length=len)/\J xs O' W')\/(∃pre,True/\Jx pre O' W'):=by
 have hstep:∀(O1 O3:Nat->Prop) (A B:World),ae Rd W A->(∀k,O1 k->¬Rd k)->ae (fun k=>¬O1 k) A B->(∀k,O3 k->O1 k\/A.heap.size<=k/\k<B.heap.size)->ae Rd W B/\(∀k,O3 k->¬Rd k):=by
  intro O1 O3 A B hA h1 hB h3;refine ⟨hA.trans (hB.mono fun k _ hr ho=>h1 k ho hr),fun k hk hr=>?_⟩;rcases h3 k hk with h|h
  ·exact h1 k h hr
  ·have:=zA k hr;have:=hA.size;omega
 have hnc:=hs.2.1;have hcm:=hs.2.2.1;unfold maxLen at hcm;have HS:=hdq hs;have iR:Hid (zs.length=len):=hdq hs.1;have HY:=hdq hY;have zI:=hdq Fw;have HR1:=hdq uh;have zB:=hdq hstep;clear hs hY Fw uh zA hstep;refine callsIn_of_wp Tryz.func171 rfl h7 ?_ hro;simp only [Tryz.ntmps171,List.size_toArray,List.length_cons,List.length_nil,Nat.reduceAdd,Nat.reduceSub,Array.replicate_succ,Array.replicate_zero,List.push_toArray,List.append_toArray,List.nil_append,List.cons_append]
 gi_wp2
 gi_loopw [3] (fun ix wr=>∃(i:Nat) (pre:List (Bi zs)) (O1:Nat->Prop),i<=len/\pre.length+i=len/\ix=.int .i64 ((i:Int)-1)/\Hid (mr zs pre)/\Hid (J pre O1 wr)/\Hid (ae Rd W wr)/\Hid (∀k,O1 k->¬Rd k)) (fun ix _=>(intOf ix+1).toNat)
 case atStart=>exact ⟨len,[],O,Nat.le_refl _,by simp,by go_num,(by intro j hj;simp at hj),h0,ae.refl _ _,hO⟩
 case round =>
  obtain ⟨i',pre,O1,hil,hpl,rfl,ES,HJ,HK,gV⟩:=hrel;have hk1:=HK.out.cell c1 HR1.out;by_cases hpos:0<i'
  ·obtain ⟨i,rfl⟩:∃i,i'=i+1:=⟨i'-1,by omega⟩;obtain ⟨b,o,rfl,hb1,hc0⟩:=(HS.out.keep HK.out zI.out).at omg;have hc1:=hc0 i omg;obtain ⟨z,hz⟩:∃z,zs.getD i 0=z:=⟨_,rfl⟩;rw [hz] at hc1;have hi1:((i+1:Nat):Int)-1=(i:Int):=omg;rw [hi1];have hi0:(0:Int)<=(i:Int):=omg;have anR:(i:Int)<(len:Int):=omg;obtain ⟨x,hxe⟩:∃x:Bi zs,x.1=(i,z):=⟨⟨(i,z),by show i<zs.length;rw [iR.out];omega,hz⟩,rfl⟩;have hbk:mr zs (pre++[x]):=ES.out.add x (by rw [hxe,iR.out];show i+pre.length+1=len;omega);have hxv:biv x=#[.int .i64 (i:Int),.int .i64 z]:=by unfold biv;rw [hxe]
   obtain ⟨fn,tmps,assign,body,hy,hR⟩:=HY.out pre x O1 wr hbk HJ.out omg;rw [hxv] at hy;have Qp:=hdq hbk;clear hc0 hz hxe hxv hbk hb1
   gi_wp2
   refine hR.mono ?_;rintro e W3 ⟨O3,hk3,ho3,(⟨rfl,hJ3⟩|⟨rfl,hJx3⟩)⟩;all_goals have hst:=zB.out O1 O3 _ _ HK.out gV.out hk3 ho3
   ·gi_wp2
    go_roundw
    case rel=>exact ⟨i,pre++[x],O3,by omega,by simp;omega,by go_num,Qp.out,hJ3,hst.1,hst.2⟩
    case measure=>simp [intOf]
   ·gi_wp2
    refine bodyPost_ret (results_none rfl _ _ _) rfl ?_;exact ⟨⟨_,rfl⟩,O3,.inr ⟨pre++[x],trivial,hJx3⟩⟩
  ·obtain rfl:i'=0:=omg
   gi_wp2
   go_end0;exact ⟨⟨_,rfl⟩,O1,.inl ⟨pre,⟨ES.out,by omega⟩,HJ.out⟩⟩
theorem Xv (F:Fence) (n:Nat) (h5:F.fn 145) (hro:F.round=none) (a:OAd) (len cap:Nat) (w:World) :
 CallsIn F n Tryz.prog 145 #[.slice a len cap] w fun e w'=>e=.returned (.func (.func 171) #[] #[.pointer (some ⟨w.heap.size,0,none⟩)])/\w'=w.alloc (.cells #[.slice a len cap] 51):=by
 refine callsIn_of_wp Tryz.func145 rfl h5 ?_ hro;simp only [Tryz.ntmps145,List.size_toArray,List.length_cons,List.length_nil,Nat.reduceAdd,Nat.reduceSub,Array.replicate_succ,Array.replicate_zero,List.push_toArray,List.append_toArray,List.nil_append,List.cons_append]
 gi_wp2
 go_ret;exact ⟨rfl,rfl⟩
theorem Xw (F:Fence) (n:Nat) (hfn:∀f,F.fn f) (hro:F.round=none) (hd:F.depth=none) (B1:Nat) (a:OAd) (len cap:Nat) (zs:LIn) (w:World) (hs:Sl .i64 w a len cap zs) (hlm:len<=1000000)
 (Rd:Nat->Prop) (Fw:∀b off,a=some ⟨b,off,none⟩->Rd b) (uh:Rd B1) (Kz:∀k,Rd k->k<w.heap.size) (c1:w.cell? ⟨B1,0,none⟩=some (.slice a len cap)) :
 Oz F n Tryz.prog 171 #[.pointer (some ⟨B1,0,none⟩)] (biv (zs:=zs)) Rd (mr zs) (fun _ _=>True) (fun xs=>mr zs xs/\xs.length=len) (fun _=>True) len w:=by
 intro l J Jx O W hW hO _ _ hY h0;exact ajn F n (hfn _) hro hd l B1 a len cap zs W (hs.keep hW Fw) hlm J Jx (fun pre x O W hT hj hl=>hY pre x O W hT trivial hj hl) Rd Fw uh O (fun k hk=>Nat.lt_of_lt_of_le (Kz k hk) hW.size) (fun k hk=>(hO k hk).1) (hW.cell c1 uh) h0
end
section
theorem z23 {P:Prop} (h:P:=by
 refine ⟨(aae.out.keep hK7).mono fun k' h=>?_,hroom,HJ.out _ _ _ _ h3 ((ae.of_below az).mono fun k' hk' _=>hk'),?_,fun k' h h'=>?_,fun h=>?_,fun h=>?_,by omega,by omega,fun k' h=>?_,fun k' h=>?_⟩
 ·rw [hK'];exact ⟨.inl h,by have:=(QA k' h).1;omega⟩
 ·rw [KA.out,<-KC.out,<-hL0.out];exact Oq HC.out k (by rw [fw.out];omega) (by rw [jg.out];omega)
 ·rw [hK'] at h';rcases h'.1 with e|e
  ·have e9:=e;rw [gu.out] at e9;rcases h5 k' h with e2|e2
   ·exact e9.1.elim (fun e=>(HO.out k' e2).1 e) (fun e=>by have:=(HO.out k' e2).2;omega)
   ·omega
  ·rcases h5 k' h with e2|e2
   ·have:=(HO.out k' e2).2;omega
   ·omega
 ·rw [hK'] at h;exact h.1.elim (fun e=>(QA R e).2 rfl) (fun e=>by omega)
 ·exact (h5 R h).elim (fun e=>by have:=(HO.out R e).2;omega) (fun e=>by omega)
 ·rw [hK'] at h;exact h.2
 ·exact (h5 k' h).elim (fun e=>by have:=(HO.out k' e).2;omega) (fun e=>by omega)):P:=h
theorem z24 {P:Prop} (h:P:=by
 rintro D xsd U X hD ui ⟨KD,aok⟩ ⟨O1,jH,q,h1,h2,h3,h4,h5,h6,h7,h8⟩ hK;have hL9:nums jH=fE l 0 zs:=by rw [h2,aok,Nat.sub_self,hL0.out]
 have kD:ae (fun k=>k<W.heap.size\/O1 k) X (X.putObj D (.deferred none)):=ae.putObj _ _ _ (by rintro (h|h);omega;exact ui ((h1 D).2 (.inl h)));have hJ9:=HJ.out _ _ _ _ h3 kD;have xB:=hdq (And.intro hL9 hJ9);clear h1 h2 h3 h4 h5 h6 hL9 kD hJ9
 gi_wp2
 refine ⟨by simp,.inl ⟨_,_,rfl,run_takeDeferred hK,?_⟩⟩
 exact ⟨_,results_none rfl _ _ _,⟨_,rfl⟩,O1,.inl ⟨jH,xB.out.1,xB.out.2⟩⟩):P:=h
theorem z25 {P:Prop} (h:P:=by
 refine ⟨hak,?_⟩;rcases bS.2.2.2.2 with h0|⟨b',off,ha,hcs⟩
 ·exact .inl h0
 ·by_cases hz:ak=0
  ·exact .inl hz
  ·refine .inr ⟨b',off,ha,?_,hcs⟩;obtain ⟨g,asD,aol,e2,hB2',oQ,_⟩:=hown.2.resolve_left (by rintro ⟨_,h⟩;exact hz h);simp only [Value.slice.injEq] at e2;have e3:=e2.1;rw [ha] at e3;simp only [sij,Addr.mk.injEq] at e3;rw [hK']
   exact ⟨.inr (by rw [e3.1];exact hB2'),by rw [e3.1];exact (hltq oQ)⟩):P:=h
theorem z26 {P:Prop} (h:P:=by
 refine (QB.out.keep rR.out (fun b' off e=>⟨HDN.out b' off e,?_⟩)).keep h4 (fun b' off e=>?_)
 ·obtain ⟨b2,aom,e2,hlt2,_⟩:=QB.out.at omg;rw [e] at e2;simp only [sij,Addr.mk.injEq] at e2;omega
 ·have:=HDN.out b' off e;obtain ⟨b2,aom,e2,hlt2,_⟩:=QB.out.at omg;rw [e] at e2;simp only [sij,Addr.mk.injEq] at e2
  exact ⟨fun h=>by have:=(HO.out b' h).2;omega,by omega⟩):P:=h
theorem z27 {P:Prop} (h:P:=by
 rintro D c pre U X hD ui-⟨rfl,O1,fB,h1,h2⟩ hK;have kD:ae (fun k=>k<W.heap.size\/O1 k) X (X.putObj D (.deferred none)):=ae.putObj _ _ _ (by rintro (h|h);omega;exact ui (h1 D h));have xB:=hdq (kJ.out _ _ _ _ h2 kD);clear h1 h2 kD
 gi_wp2
 refine ⟨by simp,.inl ⟨_,_,rfl,run_takeDeferred hK,?_⟩⟩
 exact ⟨_,results_none rfl _ _ _,⟨_,rfl⟩,O1,.inr ⟨fB,trivial,xB.out⟩⟩):P:=h
theorem z28 {P:Prop} (h:P:=by
 obtain ⟨O1,jH,q,h1,h2,h3,h4,h5,h6,h7,h8⟩:=xC.out;intro k h;rw [KE] at h;have h':=(h1 k).1 h;rcases h' with h' | h'
 ·rcases h5 k h' with h9|h9
  ·have:=(HO.out k h9).2;exact ⟨by rintro (e|e)<;>omega,by omega⟩
  ·exact ⟨by rintro (e|e)<;>omega,by omega⟩
 ·exact ⟨by rintro (e|e)<;>omega,by omega⟩):P:=h
theorem z29 {P:Prop} (h:P:=by
 have h9:zs.take q=zs.take k++(zs.take q).drop k:=by
  have:=List.take_append_drop k (zs.take q);rw [List.take_take,Nat.min_eq_left omg] at this;exact this.symm
 rw [h9] at h6
 exact h6.cut.keep (ae.of_below az) (by obtain ⟨cur,hcc,_⟩:=h6.obj;exact (hltq hcc))):P:=h
theorem z30 {P:Prop} (h:P:=by
 have aon:=hdq (vB.out rfl);clear BS vB
 gi_wp2
 obtain ⟨fB,hX⟩:=aon.out
 exact ⟨fun k=>O9 k\/k=R,lM.out,fun k h=>h.elim (fun h=>(mI.out k h).imp (fun h=>(HU.out k).2 (.inl h)) id) (fun h=>.inl ((HU.out k).2 (.inr h))),rfl,O9,fB,fun k h=>.inl h,hX⟩):P:=h
theorem z31 {P:Prop} (h:P:=by
 have h:=(yK HC.out zs (i:=0) omg k (by rw [Int.natCast_zero,jg.out];omega)).1;rw [Int.natCast_zero] at h;have e:=hx2.2;rw [rM.out,gdq,List.getElem?_take_of_lt omg,<-gdq] at e
 exact ⟨uI.toNat,by omega⟩):P:=h
theorem z32 {P:Prop} (h:P:=by
 have h:=(yK HC.out zs (i:=0) omg k (by rw [Int.natCast_zero,jg.out];omega)).2
 rw [Int.natCast_zero,oG] at h;omega):P:=h
theorem z33 {P:Prop} (h:P:=by
 have h:=Jv HC.out zs (i:=0) omg k (by rw [Int.natCast_zero,jg.out];omega)
 rw [Int.natCast_zero,oG] at h;omega):P:=h
theorem z34 {P:Prop} (h:P:=by
 have e:=hx2.2
 rwa [rM.out,gdq,List.getElem?_take_of_lt omg,<-gdq] at e):P:=h
open Go.RowKit Go.Shelf Tri Wlk
attribute [local go_sem] Oper.semAt_some
attribute [local go_sem] run_store_func

theorem Sl.cut {w:World} {b:OAd} {m cap:Nat} {zs:LIn} (h:Sl .i64 w b m cap zs) {k:Nat} (hk:k<=m):Sl .i64 w b k cap (zs.take k):=by
 obtain ⟨h1,h2,h3,h4,h5⟩:=h;refine ⟨by rw [List.length_take];omega,by omega,h3,fun z hz=>h4 z (List.mem_of_mem_take hz),?_⟩;rcases h5 with h5|⟨g,off,ha,hc⟩
 ·exact .inl omg
 ·exact .inr ⟨g,off,ha,fun i hi=>by rw [hc i omg];simp [hi]⟩
theorem Xx {F:Fence} {n:Nat} {w:World} {ops:Array Oper} {o:Oper} {act:Act} {K:Act->World->Prop} {Q:Exit->Act->World->Prop} {E:Prop} (hw:Region.wanted o (yielded ops act.tmps)=true) (x y:Operand) (N:Nat) (hN:N<=1000000)
 (ho:o.op=.makeSlice 51 x y) (hx:act.eval x=.int .i64 0) (hy:act.eval y=.int .i64 (N:Int)) (h:∀g w',g=w.heap.size->Room g N [] w'->(∀S,ae S w w')->K (act.put o.dst (.slice (some ⟨g,0,none⟩) 0 N)) w') :
 if Region.wanted o (yielded ops act.tmps)=true then o.wpIn F n Tryz.prog act w K Q else E:=by
 rw [if_pos hw];obtain ⟨i0,hi,hz0,hz1,hz2⟩:=info_parts nW;obtain ⟨w',hrun,r1,r2⟩:=run_make_own (P:=Tryz.prog) w w.heap.size 51 3 i0 (.int .i64 0) 1 Tryz.underlying51 hi hz0 hz1 .i64 .i64 N (by rw [hz2];omega) (by unfold maxLen;omega) lrf;unfold Oper.wpIn;refine ⟨by simp [Oper.about,ho],?_⟩;rw [Oper.semAt_plain F _ _ (by rw [ho];intro c hc';cases hc')];simp [execOp,ho,hx,hy,hrun,Result.andThen];exact h _ w' rfl ⟨r1,by simp⟩ (fun S=>ae.of_grownBy r2 fun r e=>by cases e)
theorem OC {F:Fence} {n:Nat} {w:World} {ops:Array Oper} {o:Oper} {act:Act} {K:Act->World->Prop} {Q:Exit->Act->World->Prop} {E:Prop} (hw:Region.wanted o (yielded ops act.tmps)=true)
 (ho:o.op=.alloc 51) (h:∀g w',g=w.heap.size->w'.heap[g]?=some (.cells #[.slice none 0 0] 51 (0,0))->(∀S,ae S w w')->K (act.put o.dst (.pointer (some ⟨g,0,none⟩))) w') :
 if Region.wanted o (yielded ops act.tmps)=true then o.wpIn F n Tryz.prog act w K Q else E:=by
 rw [if_pos hw];unfold Oper.wpIn;refine ⟨by simp [Oper.about,ho],?_⟩;rw [Oper.semAt_plain F _ _ (by rw [ho];intro c hc;cases hc)];simp only [execOp,ho];go_simp;exact h _ _ rfl (han w _) (fun S=>ae.alloc S w _)
theorem OD {F:Fence} {m:Nat} {w:World} {ops:Array Oper} {o:Oper} {act:Act} {K:Act->World->Prop} {Q:Exit->Act->World->Prop} {E:Prop} (hw:Region.wanted o (yielded ops act.tmps)=true) (s x:Operand)
 (ho:o.op=.call { callee:=.builtin .append,args:=#[s,x],argTypes:=#[51,51] }) (R n:Nat) (hs:act.eval s=.slice (some ⟨R,0,none⟩) 0 n) (hroom:Room R n [] w)
 (b:OAd) (k c:Nat) (ts:LIn) (hx:act.eval x=.slice b k c) (ht:Sl .i64 w b k c ts) (hnil:b=none->c=0) (hfit:k<=n)
 (h:∀w',Room R n ts w'->ae (fun b=>b≠R) w w'->K (act.put o.dst (.slice (some ⟨R,0,none⟩) k n)) w') :
 if Region.wanted o (yielded ops act.tmps)=true then o.wpIn F m Tryz.prog act w K Q else E:=by
 rw [if_pos hw];obtain ⟨i0,hi,hz0,hz1,hz2⟩:=info_parts nW;have hlen:=ht.1
 cases b with
 | none =>
   obtain rfl:=hnil rfl;obtain rfl:k=0:=by have:=ht.2.1;omega
   obtain rfl:ts=[]:=List.eq_nil_of_length_eq_zero hlen;have hrun:=Uk (P:=Tryz.prog) (w:=w) R 51 o.type 3 i0 1 0 Tryz.underlying51 hi _ 0 [] hroom.1;unfold Oper.wpIn;refine ⟨?_,?_⟩
   ·simp [Oper.about,ho,resolve,Target.leads,Sem.run_pure]
   ·rw [Oper.semAt_plain F _ _ (by rw [ho];intro c hc';cases hc')];simp [execOp,ho,resolve,invoke,builtin,hs,hx,hrun,Result.andThen];exact h w hroom (ae.refl _ _)
 | some ad =>
   obtain ⟨w',hrun,r1,r2⟩:=run_append_fits (P:=Tryz.prog) w R 51 o.type 3 i0 1 Tryz.underlying51 hi hz1 R 0 n [] hroom.1 ad k c (ay ts) (by simp [ay,hlen]) (fun j u hj=>by
    have hjl:j<ts.length:=by
     rcases Nat.lt_or_ge j ts.length with hlt|hge
     ·exact hlt
     ·simp [ay,List.getElem?_eq_none hge] at hj
    obtain ⟨g,off,e,_,hc⟩:=ht.at omg;simp only [sij] at e;subst e;have:=hc j omg;rw [show (⟨g,off,none⟩:Addr).add j=⟨g,off+j,none⟩ from by simp [Addr.add],this];simp [ay,hjl] at hj
    rw [<-hj];simp [hjl]) (ints_oneCell .i64 ts) omg
   unfold Oper.wpIn;refine ⟨?_,?_⟩
   ·simp [Oper.about,ho,resolve,Target.leads,Sem.run_pure]
   ·rw [Oper.semAt_plain F _ _ (by rw [ho];intro c hc';cases hc')];simp only [Nat.zero_add,List.nil_append] at hrun r1;simp [execOp,ho,resolve,invoke,builtin,hs,hx,hrun,Result.andThen];exact h w' ⟨by rw [hlen];exact r1,ht.2.2.2.1⟩ (ae.of_grownBy r2 fun r e=>by simp only [sij] at e;subst e;exact fun h=>h rfl)

theorem Jv {l:List St} (hc:check l=true):∀(w:LIn) {i:Nat},i<l.length->∀k,k<(Wlk.along l (i:Int) w).length->(i:Int)+k<=(Wlk.along l (i:Int) w).getD k 0
 | [],i,hi,k,hk=>by
   unfold Wlk.along at hk ⊢;obtain rfl:k=0:=by simpa using hk
   simp
 | s::w,i,hi,k,hk=>by
   unfold Wlk.along at hk ⊢
   cases k with
   | zero=>simp
   | succ k =>
     rw [List.getD_cons_succ];split at hk
     ·rename_i hs;rw [if_pos hs];have:=step_lt hc hi hs;obtain ⟨u,hu⟩:∃u:Nat,(Tri.step l (i:Int) s).1=(u:Int):=⟨(Tri.step l (i:Int) s).1.toNat,by omega⟩;rw [hu] at hk this ⊢;have:=Jv hc w (i:=u) omg k (by simpa using hk);omega
     ·simp at hk
theorem ajo {l:List St} {B:Nat} {wn wr:World} {wa:OAd} {n wc:Nat} {outs:List Sw} (h:Al B wn wa n wc outs) (hmp:outs.map Sw.arcs=(List.range n).map fun j=>goes l j (-1)) (hpos:0<n) (sb so:Nat)
 (hfin:∀i,i<n->wr.cell? ⟨sb,so+i*2,none⟩=some (.bool (l.getD i St.no).final)) (K:Nat->Prop) (hKs:K sb) (hK:∀k,B<=k->k<wn.heap.size->K k) (hkeep:ae (fun k=>B<=k/\k<wn.heap.size) wn wr) :
 ∃wb,wa=some ⟨wb,0,none⟩/\n<=wc/\wc<=maxLen/\xx K l n sb so wb 0 wr:=by
 obtain ⟨wb,cap',cur,e,hB,hh,h1,h2,_⟩:=h.row.2.resolve_left (by rintro ⟨_,h⟩;omega);simp only [Value.slice.injEq,true_and] at e;obtain ⟨rfl,rfl⟩:=e;have hwb:=(hltq hh);refine ⟨wb,rfl,h1,h2,hfin,fun i hi=>?_,hKs,hK wb hB hwb⟩;have hlen:=h.len;have hx:outs[i]'omg∈outs:=List.getElem_mem _;obtain ⟨x,hxe⟩:∃x,x=outs[i]'omg:=⟨_,rfl⟩;rw [<-hxe] at hx
 have tV:x.arcs=goes l i (-1):=by
  have:=congrArg (fun t=>t[i]?) hmp;simp only [List.getElem?_map,geg (show i<outs.length by omega),List.getElem?_range hi,Option.map_some,<-hxe] at this;simpa using this
 have hown:=h.own x hx;have bS:=Ars.of_owns hown (h.wfs x hx) (h.lens x hx);refine ⟨x.a,x.n,x.cap,?_,bS.2.1,bS.2.2.1,?_,?_⟩
 ·refine hkeep.cell ?_ ⟨hB,hwb⟩;rw [Nat.zero_add,h.row.cellAt i omg];simp [show i<outs.length by omega,<-hxe,Sw.s]
 ·rw [<-tV];exact h.lens x hx
 ·rcases bS.2.2.2.2 with h0|⟨b,off,ha,hc⟩
  ·exact .inl h0
  ·by_cases hz:x.n=0
   ·exact .inl hz
   ·obtain ⟨g,cap2,aol,e2,hB2,oQ,_⟩:=hown.2.resolve_left (by rintro ⟨_,h⟩;exact hz h)
    have hbg:b=g:=by
     simp only [Sw.s,Value.slice.injEq] at e2;rw [ha] at e2;have:=e2.1;simp only [sij,Addr.mk.injEq] at this;exact this.1
    subst hbg;have hb2:=(hltq oQ);refine .inr ⟨b,off,ha,hK b hB2 hb2,fun i hi=>?_⟩;rw [<-tV];exact ⟨hkeep.cell (hc i hi).1 ⟨hB2,hb2⟩,hkeep.cell (hc i hi).2 ⟨hB2,hb2⟩⟩
theorem xx.mono {K K':Nat->Prop} {l:List St} {n sb so wb wo:Nat} {W:World} (h:xx K l n sb so wb wo W) (hk:∀k,K k->K' k):xx K' l n sb so wb wo W :=
 ⟨h.fin,fun i hi=>by
  obtain ⟨a,k,c,h1,h2,h3,h4,h5⟩:=h.way i hi;refine ⟨a,k,c,h1,h2,h3,h4,?_⟩;rcases h5 with h5|⟨b,off,ha,hb,hc⟩
  ·exact .inl h5
  ·exact .inr ⟨b,off,ha,hk b hb,hc⟩,hk _ h.ks,hk _ h.kw⟩
def wJ (J:qg) (l:List St) (zs:LIn) (O:Nat->Prop) (R len j0 m:Nat) (wr:World) (k:Nat) (U:Nat->Prop) (X:World):Prop :=
 ∃(O1:Nat->Prop) (jH:List Wd) (q:Nat),(∀k,U k↔O1 k\/k=R)/\nums jH=mq l zs (j0-k)/\J jH O1 X/\ae (fun k=>¬O k/\k≠R) wr X/\(∀k,O1 k->O k\/wr.heap.size<=k/\k<X.heap.size)/\Room R len (zs.take q) X/\j0-k<=q+1/\q<=m
theorem Jw {J:qg} {l:List St} {zs:LIn} {O:Nat->Prop} {R len j0 m:Nat} {wr:World} {k:Nat} {U:Nat->Prop} {X X':World} {base base':Nat} (hJ:Stable base J) (hb:base<=base') (hw:wr.heap.size<=base') (hR:R<base') (h:wJ J l zs O R len j0 m wr k U X) (hk:ae (fun k=>k<base'\/U k) X X'):wJ J l zs O R len j0 m wr k U X':=by
 obtain ⟨O1,jH,q,h1,h2,h3,h4,h5,h6,h7,h8⟩:=h;refine ⟨O1,jH,q,h1,h2,hJ _ _ _ _ h3 (hk.mono fun k _ h=>h.elim (fun h=>.inl omg) (fun h=>.inr ((h1 k).2 (.inl h)))),h4.trans' hk fun k hk' h=>⟨h,.inl omg⟩,fun k h=>(h5 k h).imp id fun h=>⟨h.1,Nat.lt_of_lt_of_le h.2 hk.size⟩,h6.keep hk (.inl hR),h7,h8⟩
def Jy (Jx:qg) (c:Code) (U:Nat->Prop) (X:World):Prop:=c=.ret/\∃(O1:Nat->Prop) (fB:List Wd),(∀k,O1 k->U k)/\Jx fB O1 X
theorem Xy {Jx:qg} {c:Code} {U:Nat->Prop} {X X':World} {base base':Nat} (hJ:Stable base Jx) (hb:base<=base') (h:Jy Jx c U X) (hk:ae (fun k=>k<base'\/U k) X X'):Jy Jx c U X':=by
 obtain ⟨hc,O1,fB,h1,h2⟩:=h;exact ⟨hc,O1,fB,h1,hJ _ _ _ _ h2 (hk.mono fun k _ h=>h.elim (fun h=>.inl omg) (fun h=>.inr (h1 k h)))⟩
def Jz (len y:Nat) (zs:LIn) (wl:World) (R rb:Nat) (wr:World):Prop :=
 wl.heap.size<=R/\wl.heap.size<=rb/\R≠rb/\Room R len (zs.take y) wr/\wr.heap[rb]?=some (.cells #[.slice (some ⟨R,0,none⟩) y len] 51 (0,0))/\Below wl.heap.size wl wr

theorem ajp (F:Fence) (hF:F=Fence.wide) (n:Nat) {l:List St} (hc:check l=true) (a b:OAd) (len cap m cap2:Nat) (xs:List Sw) (zs:LIn) (W0 w:World) (hx:Ss W0 a len cap xs) (hxs:sts xs=l) (hz:Sl .i64 W0 b m cap2 zs) (hnil:b=none->cap2=0) (B1 B2:Nat)
 (Rd:Nat->Prop) (hR0:∀k,k<W0.heap.size->Rd k) (uh:Rd B1) (hR2:Rd B2) (Kz:∀k,Rd k->k<w.heap.size) (hb:Below W0.heap.size W0 w) (c1:w.cell? ⟨B1,0,none⟩=some (.slice a len cap)) (c2:w.cell? ⟨B2,0,none⟩=some (.slice b m cap2)) :
 Oz F n Tryz.prog 142 #[.pointer (some ⟨B1,0,none⟩),.pointer (some ⟨B2,0,none⟩)] (fun x:Wd=>#[x.v]) Rd (fun p=>nums p <+: fE l 0 zs) wI (fun p=>nums p=fE l 0 zs) (fun _=>True) (fE l 0 zs).length w:=by
 intro yl J Jx O W hW hO hJ hJx hY h0;have hfn:∀f,F.fn f:=by subst hF;exact fun _=>trivial
 have hro:F.round=none:=by subst hF;rfl
 have hd:F.depth=none:=by subst hF;rfl
 have hlen:l.length=len:=by rw [<-hxs,fq];exact hx.1
 have hsz:=jo hc;have Fx:len<=6001:=omg;obtain ⟨sb,so,rfl,aak,aal⟩:=hx.at omg
 have aW:Hid (∀i,i<len->W0.cell? ⟨sb,so+i*2,none⟩=some (.bool (l.getD i St.no).final)):=hdq fun i hi=>by
  rw [<-hxs,ic];exact (aal i hi).1
 clear aal;have iA:=hdq hlen;have hcp:=hx.2.1;have hcm:=hx.2.2.1;have hmc:=hz.2.1;have hmm:=hz.2.2.1;unfold maxLen at hcm hmm;have bW:Below W0.heap.size W0 W:=hb.trans (hW.below hb.size hR0);have d1:=hW.cell c1 uh;have d2:=hW.cell c2 hR2;have BU:=bW.size;have hB1:B1<W.heap.size:=bQ d1;have hB2:B2<W.heap.size:=bQ d2;have HX:=hdq hx;have HZ:=hdq hz;have Fy:=hdq hxs;have fw:Hid (zs.length=m):=hdq hz.1;have HNT:Hid (∀(k:Nat) (X:World),Ss X (some ⟨sb,so,none⟩) len cap xs->CallsIn F k Tryz.prog 143 #[.slice (some ⟨sb,so,none⟩) len cap,.func (.yield yl) #[] #[]] X fun e w'=>∃(da wa:OAd) (dc wc:Nat) (ds:LIn) (outs:List Sw),e=.returned (.agg #[.slice (some ⟨sb,so,none⟩) len cap,.slice da len dc,.slice wa len wc,.func (.yield yl) #[] #[]])/\Sl .i64 w' da len dc ds/\(∀b off,da=some ⟨b,off,none⟩->X.heap.size<=b)/\(∀j,j<len->ds.getD j 0=dp (wds l j))/\Al X.heap.size w' wa len wc outs/\outs.map Sw.arcs=(List.range len).map (fun j=>goes l j (-1))/\Below X.heap.size X w'):=hdq fun k X h=>by subst hF;exact callsIn_wide.2 (ajl hc (some ⟨sb,so,none⟩) len cap yl xs X h hxs)
 have fG:Hid (∀(k:Nat) (X:World),Ss X (some ⟨sb,so,none⟩) len cap xs->Sl .i64 X b m cap2 zs->CallsIn F k Tryz.prog 56 #[.slice (some ⟨sb,so,none⟩) len cap,.slice b m cap2] X fun e w'=>∃a' k c',e=.returned (.slice a' k c')/\(Wlk.along l 0 zs).length=k/\w'.ownsRow X.heap.size 3 1 (.slice a' k c') k (ay (Wlk.along l 0 zs))/\Below X.heap.size X w'):=hdq fun k X h h'=>by subst hF;exact callsIn_wide.2 (aiv hc (some ⟨sb,so,none⟩) b len cap m cap2 xs zs X h hxs h')
 have HRW:=hdq (fun k (hk:Rd k)=>Nat.lt_of_lt_of_le (Kz k hk) hW.size)
 have BP:Hid (∀(k u:Nat) (s:Int) (da wa:OAd) (dc wc:Nat) (ds:LIn) (X:World),u<len->Ss X (some ⟨sb,so,none⟩) len cap xs->Sl .i64 X da len dc ds->(∀j,j<len->ds.getD j 0=dp (wds l j))->CallsIn F k Tryz.prog 147 #[.agg #[.slice (some ⟨sb,so,none⟩) len cap,.slice da len dc,.slice wa len wc,.func (.yield yl) #[] #[]],.int .i64 (u:Int),.int .i64 s] X
  fun e w'=>∃aa ak ac,e=.returned (.slice aa ak ac)/\(goes l u s).length=ak/\w'.ownsRow X.heap.size 95 2 (.slice aa ak ac) ak (aL (goes l u s))/\Below X.heap.size X w'):=hdq fun k u s da wa dc wc ds X hu h1 h2 h3=>by
  subst hF;refine callsIn_wide.2 ((Xq hc u omg s xs hxs (some ⟨sb,so,none⟩) da wa len cap len dc len wc yl ds X h1 h2 hlen.symm (fun j hj=>h3 j omg)).mono ?_);rintro e w' ⟨a',c',rfl,g1,g2⟩;exact ⟨a',_,c',rfl,rfl,g1,g2⟩
 have ai:=hdq bW;have xD:Hid (∀X,Below W.heap.size W X->X.cell? ⟨B1,0,none⟩=some (.slice (some ⟨sb,so,none⟩) len cap)/\X.cell? ⟨B2,0,none⟩=some (.slice b m cap2)):=hdq fun X h=>⟨by rw [h.cell (p:=⟨B1,0,none⟩) hB1];exact d1,by rw [h.cell (p:=⟨B2,0,none⟩) hB2];exact d2⟩;have HO:=hdq hO;have HJ:=hdq hJ;have kJ:=hdq hJx;have HY:=hdq hY;have H0:=hdq h0;have QC:Hid (∀(m:Nat) (pre:List Wd) (x:Wd) (O:Nat->Prop) (W1:World),nums (pre++[x]) <+: fE l 0 zs->wI x W1->J pre O W1->YieldAt F m Tryz.prog yl #[x.v] W1 (yP J Jx (pre++[x]) O W1)):=hdq fun m pre x O W1 h1 h2 h3=>anu.anyDepth hd m (hY pre x O W1 h1 h2 h3 (by have:=h1.length_le;rw [nums_length,List.length_append,List.length_singleton] at this;omega));have hmx:Tryz.prog.follows .mixedOrders=true:=krf;have HC:=hdq hc;clear hF hx hz hxs hb c1 c2 hW hO hJ hJx hY h0 bW Kz hc;refine callsIn_of_wp_marks Tryz.func142 rfl (hfn _) ?_ hro;simp only [Tryz.ntmps142,List.size_toArray,List.length_cons,List.length_nil,Nat.reduceAdd,Nat.reduceSub,Array.replicate_succ,Array.replicate_zero,List.push_toArray,List.append_toArray,List.nil_append,List.cons_append]
 gi_wp2_with (first
  | (gi_at_call 143;refine (HNT.out _ _ (HX.out.below ai.out lrf)).mono ?_;rintro e wn ⟨da,wa,dc,wc,ds,outs,rfl,hds,hdn,hdv,hal,hmp,hbn⟩;have HDN:=hdq hdn;clear hdn;have QB:=hdq hds;have Fg:=hdq hdv;have vC:=hdq hal;have bq:=hdq hmp;have fP:=hdq hbn;clear hds hdv hal hmp hbn;have e1:=(xD.out _ (fP.out.alloc fP.out.size (.cells #[.slice (some ⟨sb,so,none⟩) len cap,.slice da len dc,.slice wa len wc,.func (.yield yl) #[] #[]] 188))).1;have e2:=(xD.out _ (fP.out.alloc fP.out.size (.cells #[.slice (some ⟨sb,so,none⟩) len cap,.slice da len dc,.slice wa len wc,.func (.yield yl) #[] #[]] 188))).2)
  | (gi_at_call 56;refine (fG.out _ _ (HX.out.below (ai.out.trans ((fP.out.alloc fP.out.size _).mono BU)) lrf) (HZ.out.below (ai.out.trans ((fP.out.alloc fP.out.size _).mono BU)) lrf)).mono ?_;rintro e wl ⟨ya,yk,yc,rfl,hyk,xe,hbl⟩;have jg:=hdq hyk;have xE:=hdq xe;have kM:=hdq hbl;clear hyk xe hbl))
 rename_i Kr hKr;obtain ⟨y,rfl⟩:∃y,yk=y+1:=⟨yk-1,by have:=Om l 0 zs;have:=jg.out;omega⟩
 have hym:y<=m:=by
  have h1:=jg.out;have h2:=DV l zs 0;have h3:=fw.out
  cases hwk:walk l 0 zs with
  | none=>have:=h2.2 hwk;omega
  | some t=>have:=(h2.1 t hwk).1;omega
 have hyl:y<len:=by
  have h1:=Jv HC.out zs (i:=0) omg y (by rw [Int.natCast_zero,jg.out];omega);have h2:=(yK HC.out zs (i:=0) omg y (by rw [Int.natCast_zero,jg.out];omega)).2;omega
 have hb2:Below W.heap.size W wl:=(fP.out.alloc fP.out.size _).trans (kM.out.mono (by have:=fP.out.size;simp;omega));have HB2:=hdq hb2
 have hrest:∀(R rb:Nat) (wr:World),Jz len y zs wl R rb wr->Kr { tmps:=#[.func (.yield yl) #[] #[],.pointer (some ⟨B1,0,none⟩),.pointer (some ⟨B2,0,none⟩),undef,.pointer (some ⟨wn.heap.size,0,none⟩),.slice ya (y+1) yc,.pointer (some ⟨rb,0,none⟩),undef,undef,.slice (some ⟨sb,so,none⟩) len cap,.func (.yield yl) #[] #[],.agg #[.slice (some ⟨sb,so,none⟩) len cap,.slice da len dc,.slice wa len wc,.func (.yield yl) #[] #[]],.slice (some ⟨sb,so,none⟩) len cap,.slice b m cap2,.slice ya (y+1) yc,
  .slice (some ⟨sb,so,none⟩) len cap,.int .i64 (len:Int),.slice (some ⟨R,0,none⟩) 0 len,.slice b m cap2,.slice ya (y+1) yc,.int .i64 ((y:Int)+1),.int .i64 (y:Int),.slice b y cap2,.slice (some ⟨R,0,none⟩) y len,undef,undef,undef,undef,undef,undef,undef,undef,undef,undef,undef,undef,undef,undef,undef,undef,undef,undef,undef,undef,undef,undef,undef,undef,undef,undef,undef,undef,undef,undef,undef,undef,undef,undef,undef,undef,undef,undef,undef],defers:=[] } wr:=by
  rintro R rb wr ⟨q1,q2,q3,q4,q5,q6⟩;refine hKr _ _ ?_;clear hKr;have hbr:Below W.heap.size W wr:=HB2.out.trans (q6.mono HB2.out.size);have hzr:=hbr.size
  have hTB:wr.heap[wn.heap.size]?=some (.cells #[.slice (some ⟨sb,so,none⟩) len cap,.slice da len dc,.slice wa len wc,.func (.yield yl) #[] #[]] 188 (0,0)):=by
   have h1:=han wn (.cells #[.slice (some ⟨sb,so,none⟩) len cap,.slice da len dc,.slice wa len wc,.func (.yield yl) #[] #[]] 188);have h2:=(kM.out.block wn.heap.size smp).trans h1;exact (q6.block wn.heap.size (hltq h2)).trans h2
  obtain ⟨K,KF⟩:∃K:Nat->Prop,K=fun k=>(Rd k\/W.heap.size<=k)/\k<wr.heap.size/\k≠R:=⟨_,rfl⟩;have hwn:wn.heap.size<wl.heap.size:=by have:=kM.out.size;simp at this;omega
  have hKn:ae (fun k=>W.heap.size<=k/\k<wn.heap.size) wn wr:=(ae.alloc _ wn _).trans' ((kM.out.mono lrf).trans (q6.mono kM.out.size) |> ae.of_below) fun k hk h=>⟨h,by simp;omega⟩
  obtain ⟨wb,rfl,QD,QE,aan⟩:=ajo vC.out bq.out omg sb so (fun i hi=>by
   have:=aW.out i hi
   rw [(ai.out.trans (hbr.mono BU)).cell (p:=⟨sb,so+i*2,none⟩) (by show sb<_;exact aak)];exact this) K (by rw [KF];exact ⟨.inl (hR0 sb aak),by omega,by have:=HB2.out.size;omega⟩) (fun k h1 h2=>by rw [KF];exact ⟨.inr h1,by have:=q6.size;omega,by omega⟩) hKn
  obtain ⟨yb,rfl,_⟩:=ait xE.out jg.out (show y<y+1 by omega) rfl
  have xe:wr.ownsRow (wn.heap.size+1) 3 1 (.slice (some ⟨yb,0,none⟩) (y+1) yc) (y+1) (ay (Wlk.along l 0 zs)):=by
   have h:=ownsRow_below xE.out q6 lrf
   rwa [World.size_alloc] at h
  have hyb:=(xe.lt yb rfl);have BV:=hdq xe;have aae:=hdq aan;have QF:=hdq hTB;have zH:=hdq q4;have Fz:=hdq q5;have zJ:=hdq hbr;have gu:=hdq KF;have rR:=hdq hKn;have hL0:Hid (mq l zs 0=fE l 0 zs):=told_start l zs;have hdl:Hid (∃db,da=some ⟨db,0,none⟩\/True):=hdq ⟨0,.inr trivial⟩
  have BX:Hid (∀X,Below W.heap.size W X->J [] O X):=hdq fun X hX=>HJ.out _ _ _ _ H0.out ((ae.of_below hX).mono fun k hk h=>by
   rcases h with h|h
   ·exact h
   ·exact (HO.out k h).2)
  have aop:Hid (∀(X:World) (pre:List Wd) (sg:LIn) (ws:LLI),ae (fun k=>¬O k/\k≠R) wr X->Below W.heap.size W X->Room R len sg X->J pre O X->nums pre++ws <+: fE l 0 zs->nI W.heap.size K l len sb so wb 0 R J (fE l 0 zs) pre sg ws O X):=hdq fun X pre sg ws hk hb hr hj ht=>by
   refine ⟨aae.out.keep (hk.mono fun k _ h=>?_),hr,hj,ht,fun k h h'=>?_,?_,?_,hb.size,by have:=HB2.out.size;omega,?_,fun k h=>Nat.lt_of_lt_of_le (HO.out k h).2 hb.size⟩
   ·rw [gu.out] at h;refine ⟨fun h'=>?_,h.2.2⟩;rcases h.1 with h1|h1
    ·exact (HO.out k h').1 h1
    ·have:=(HO.out k h').2;omega
   ·rw [gu.out] at h';rcases h'.1 with h1|h1
    ·exact (HO.out k h).1 h1
    ·have:=(HO.out k h).2;omega
   ·rw [gu.out];exact fun h=>h.2.2 rfl
   ·intro h;have:=(HO.out R h).2;have:=HB2.out.size;omega
   ·intro k h;rw [gu.out] at h;exact Nat.lt_of_lt_of_le h.2.1 hk.size
  have iT:Hid (∀i,i<len->yR F W.heap.size K l len sb so cap wb 0 wc len dc yl da R J Jx (fE l 0 zs) i):=hdq fun i hi=>Ju F hfn hro hd HC.out W.heap.size K len sb so cap wb 0 wc len dc yl da R J Jx (fE l 0 zs) iA.out.symm Fx ⟨hcp,by unfold maxLen;exact hcm⟩ ⟨QD,QE⟩ HJ.out QC.out len i hi omg;clear q4 q5 hbr hKn hTB xe aan KF
  cases hwk:walk l 0 zs with
  | none =>
    have hle:=(DV l zs 0).2 hwk;have asF:y+1<=m:=by have:=jg.out;have:=fw.out;omega
    have hgt:decide ((y:Int)+1>(m:Int))=false:=decide_eq_false omg;have hgn:¬m<y+1:=omg;have hgi:¬(m:Int)<(y:Int)+1:=omg;have hmin:min ((y:Int)+1) (m:Int)=(y:Int)+1:=omg;have aoq:(y:Int)+1<=(yc:Int):=by obtain ⟨g,cap',cur,e,_,_,h1,_⟩:=BV.out.2.resolve_left (by rintro ⟨_,h⟩;omega);simp only [Value.slice.injEq] at e;omega
    have hyj:y+1<=y+1:=Nat.le_refl _;have BZ:Below W.heap.size W wr.drew:=zJ.out.trans (aG (Below.refl _ _) ⟨1,rfl⟩);have aor:(wr.drew).heap.size=wr.heap.size:=rfl;obtain ⟨O8,aao⟩:∃O8:Nat->Prop,O8=O:=⟨_,rfl⟩;obtain ⟨w8,hw8⟩:∃w8,w8=wr.drew:=⟨_,rfl⟩
    have xC:Hid (wJ J l zs O R len (y+1) m wr 0 (fun k=>O8 k\/k=R) w8):=hdq (by
     rw [hw8,aao]
     exact ⟨O,[],y,fun _=>Iff.rfl,by rw [Nat.sub_zero,told_none (by rw [jg.out];exact Nat.le_refl _)];rfl,BX.out _ BZ,ae.drew _ wr,fun k h=>.inl h,zH.out.keep (ae.drew (fun _=>True) wr) trivial,by omega,by omega⟩)
    have aos:wr.heap.size<=w8.heap.size:=by rw [hw8];exact Nat.le_refl _
    have QG:=(xD.out _ BZ).2;clear aao aor BZ
    gi_wp2
    refine Og (S:=(fun w'=>w'.cell? ⟨B2,0,none⟩=some (.slice b m cap2))) krf (by first|((exact QG))|((try dsimp only);(exact QG))) (fun hHeld=>?_);refine t_f hfn 0 ?_;refine t_f hfn 1 ?_;refine t_f hfn 2 ?_;refine t_f hfn 3 ?_;refine t_f hfn 4 ?_;refine t_f hfn 5 ?_;refine u_f hfn 6 ?_;refine u_f hfn 7 ?_;refine u_f hfn 8 ?_;refine u_f hfn 9 ?_;refine u_f hfn 10 ?_;refine u_f hfn 11 ?_;refine u_f hfn 12 ?_;refine u_f hfn 13 ?_;refine u_f hfn 14 ?_;refine t_f hfn 15 ?_;refine mo krf ?_ _;simp only [AX];clear hHeld;rw [<-hw8] at QG ⊢;clear hw8
    gi_wp2_with (gi_at_call 145;refine (Xv F _ (hfn _) hro _ _ _ _).mono ?_;rintro e w9 ⟨rfl,rfl⟩)
    obtain ⟨ys,hys⟩:∃ys,ys=(Wlk.along l 0 zs).take (y+1):=⟨_,rfl⟩;have QH:ys.length=y+1:=by rw [hys,List.length_take,jg.out];omega
    have aot:R<wr.heap.size:=by obtain ⟨cur,hcc,_⟩:=zH.out.obj;exact (hltq hcc)
    obtain ⟨X5,rT⟩:∃X5,X5=w8.alloc (.cells #[.slice (some ⟨yb,0,none⟩) (y+1) yc] 51):=⟨_,rfl⟩;obtain ⟨xb,hxb⟩:∃xb,xb=w8.heap.size:=⟨_,rfl⟩;have zX5:X5.heap.size=xb+1:=by rw [rT,hxb];simp
    have hk5:∀S,ae S w8 X5:=fun S=>by rw [rT];exact ae.alloc S w8 _
    have ze:X5.cell? ⟨xb,0,none⟩=some (.slice (some ⟨yb,0,none⟩) (y+1) yc):=by rw [rT,hxb,af (han w8 _)];rfl
    have zK:=Jw (base':=X5.heap.size) HJ.out omg omg omg xC.out (hk5 _);have KG:W.heap.size<=yb/\yb<wl.heap.size:=⟨by have h1:=(xE.out.lt yb rfl).1;have:=fP.out.size;simp at h1;omega,(xE.out.lt yb rfl).2⟩;obtain ⟨U0,KE⟩:∃U0:Nat->Prop,U0=fun k=>O8 k\/k=R:=⟨_,rfl⟩;rw [<-KE] at zK
    have QI:∀k,U0 k->¬(k=xb\/k=yb)/\k<X5.heap.size:=by
     exact z28
    have QJ:Sl .i64 X5 (some ⟨yb,0,none⟩) (y+1) yc ys:=by
     have h1:Sl .i64 wr (some ⟨yb,0,none⟩) (y+1) yc (Wlk.along l 0 zs):=Sl.of_owns BV.out (fun z hz=>by
      obtain ⟨i,hi,rfl⟩:=List.getElem_of_mem hz;have h:=yK HC.out zs (i:=0) omg i (by rw [Int.natCast_zero];exact hi);rw [Int.natCast_zero,gdq,geg hi,Option.getD_some] at h
      exact WalkArith.wf_i64 omg) jg.out
     have h2:=h1.cut (k:=y+1) omg;rw [<-hys] at h2;obtain ⟨O1,jH,q,_,_,_,h4,_⟩:=xC.out;exact (h2.keep h4 (fun b' off e=>by simp only [sij,Addr.mk.injEq] at e;obtain ⟨rfl,_⟩:=e;exact ⟨fun h=>by have:=(HO.out yb h).2;omega,by omega⟩)).keep (hk5 (fun _=>True)) (fun _ _ _=>trivial)
    rw [<-rT,<-hxb];clear rT hk5;have QK:=hdq zK;have rM:=hdq hys;have QL:=hdq QH;have hRb:R<X5.heap.size:=omg;have aap:wr.heap.size<=xb:=omg;clear zK hys xC hxb
    refine OA hro (fun h=>by rw [hd] at h;cases h) (gf:=171) (lb:=#[.pointer (some ⟨xb,0,none⟩)]) rfl (hfn _) (enters_of Tryz.func171 krf rfl)
     (encs:=biv (zs:=ys)) (Rd:=fun k=>k=xb\/k=yb) (T:=mr ys) (At:=fun _ _=>True) (S:=fun xs=>mr ys xs/\xs.length=y+1) (Sp:=fun _=>True) (N:=y+1) (w0:=X5)
     (Xw F (n-1) hfn hro hd xb (some ⟨yb,0,none⟩) (y+1) yc ys X5 QJ omg (fun k=>k=xb\/k=yb) (fun b' off e=>by simp only [sij,Addr.mk.injEq] at e;exact .inr e.1.symm) (.inl rfl) (by rintro k (rfl|rfl)<;>omega) ze)
     (fun _ _ _ _ _ h _=>trivial) (ae.refl _ _) (by rintro k (rfl|rfl)<;>omega) (fun _=>rfl)
     (fun pre U X=>wJ J l zs O R len (y+1) m wr pre.length U X) (fun c pre U X=>Jy Jx c U X) (fun _ _ _ _ h hk=>Jw HJ.out omg omg hRb h hk) (fun _ _ _ _ _ h hk=>Xy kJ.out omg h hk)
     U0 QI QK.out
     (fun x=>{ tmps:=#[.func (.yield yl) #[] #[],.pointer (some ⟨B1,0,none⟩),.pointer (some ⟨B2,0,none⟩),undef,.pointer (some ⟨wn.heap.size,0,none⟩),.slice (some ⟨yb,0,none⟩) (y+1) yc,.pointer (some ⟨rb,0,none⟩),.int .i64 (x.1.1:Int),.int .i64 x.1.2,.slice (some ⟨sb,so,none⟩) len cap,.func (.yield yl) #[] #[],.agg #[.slice (some ⟨sb,so,none⟩) len cap,.slice da len dc,.slice (some ⟨wb,0,none⟩) len wc,.func (.yield yl) #[] #[]],.slice (some ⟨sb,so,none⟩) len cap,.slice b m cap2,.slice (some ⟨yb,0,none⟩) (y+1) yc,.slice (some ⟨sb,so,none⟩) len cap,.int .i64 (len:Int),.slice (some ⟨R,0,none⟩) 0 len,.slice b m cap2,.slice (some ⟨yb,0,none⟩) (y+1) yc,.int .i64 ((y:Int)+1),.int .i64 (y:Int),.slice b y cap2,.slice (some ⟨R,0,none⟩) y len,.slice (some ⟨yb,0,none⟩) (y+1) yc,.int .i64 ((y:Int)+1),.slice b m cap2,.int .i64 (m:Int),.bool false,.bool false,undef,undef,undef,undef,undef,undef,undef,undef,undef,.bool false,.slice (some ⟨yb,0,none⟩) (y+1) yc,.slice (some ⟨yb,0,none⟩) (y+1) yc,.int .i64 ((y:Int)+1),.slice b m cap2,.int .i64 (m:Int),.int .i64 ((y:Int)+1),.slice (some ⟨yb,0,none⟩) (y+1) yc,.func (.func 171) #[] #[.pointer (some ⟨xb,0,none⟩)],.int .i64 (x.1.1:Int),.int .i64 x.1.2,undef,undef,undef,undef,undef,undef,undef,undef,undef,undef,undef,undef,undef],defers:=[] }) ?assign ?body ?done ?stop
    case assign =>
     intro l2 x X K' hK';simp only [biv]
     gi_wp2
     exact hK'
    case body =>
     rintro l2 pre x U X hTx-⟨O1,jH,q,h1,h2,h3,h4,h5,h6,h7,h8⟩ hlt hsz2;have hlast:=hTx.last;obtain ⟨⟨⟨k,uI⟩,hx2⟩,hxe⟩:∃y,y=x:=⟨x,rfl⟩;subst hxe;simp only at hlast hx2 ⊢;rw [QL.out] at hlast
     obtain ⟨u,rfl⟩:∃u:Nat,uI=(u:Int):=by
      exact z31
     have oG:(Wlk.along l 0 zs).getD k 0=(u:Int):=by
      exact z34
     have FB:u<len:=by
      exact z32
     have hku:k<=u:=by
      exact z33
     have yX:k<m:=omg;obtain ⟨s,hs⟩:∃s,s=zs.getD k 0:=⟨_,rfl⟩;have hno:∀k',W.heap.size<=k'->k'<wr.heap.size->k'≠R->¬O1 k'/\k'≠R:=fun k' e1 e2 e3=>⟨fun h=>(h5 k' h).elim (fun h=>by have:=(HO.out k' h).2;omega) (fun h=>by omega),e3⟩
     have zL:∀k',Rd k'->¬O1 k'/\k'≠R:=fun k' e1=>by
      have hz:k'<W.heap.size:=HRW.out k' e1;exact ⟨fun h=>(h5 k' h).elim (fun h=>(HO.out k' h).1 e1) (fun h=>by omega),by omega⟩
     have zM:Below W0.heap.size W0 X:=(ai.out.trans (zJ.out.mono BU)).trans (h4.below omg (fun k' hk'=>⟨fun h=>(HO.out k' h).1 (hR0 k' hk'),by omega⟩));obtain ⟨gb,go,rfl,hgb,hgc⟩:=HZ.out.at omg;have zN:=hgc k yX;rw [<-hs] at zN;have FC:X.cell? ⟨gb,go+k,none⟩=some (.int .i64 s):=by rw [zM.cell (p:=⟨gb,go+k,none⟩) hgb];exact zN
     have QM:W.heap.size<=wn.heap.size:=fP.out.size;have aow:wl.heap.size<=wr.heap.size:=q6.size
     have aH:Hid (∀w',ae (fun k'=>¬O1 k'/\k'≠R) X w'->w'.cell? ⟨wn.heap.size,0,none⟩=some (.slice (some ⟨sb,so,none⟩) len cap)/\w'.cell? ⟨wn.heap.size,1,none⟩=some (.slice da len dc)/\w'.cell? ⟨wn.heap.size,2,none⟩=some (.slice (some ⟨wb,0,none⟩) len wc)/\w'.cell? ⟨wn.heap.size,3,none⟩=some (.func (.yield yl) #[] #[])/\w'.cell? ⟨B2,0,none⟩=some (.slice (some ⟨gb,go,none⟩) m cap2)/\w'.cell? ⟨gb,go+k,none⟩=some (.int .i64 s)/\w'.cell? ⟨rb,0,none⟩=some (.slice (some ⟨R,0,none⟩) y len)):=hdq fun w' hk=>by
      have g1:=(h4.trans' hk (U:=fun k'=>k'=wn.heap.size) fun k' hk' e=>by subst e;have:=hno wn.heap.size QM omg omg;exact ⟨⟨fun h=>by have:=(HO.out _ h).2;omega,this.2⟩,this⟩).heap QF.out rfl;have g2:=(h4.trans' hk (U:=fun k'=>k'=rb) fun k' hk' e=>by have e':k'=rb:=e;rw [e'];have:=hno rb omg omg (fun e=>q3 e.symm);exact ⟨⟨fun h=>by have:=(HO.out _ h).2;omega,this.2⟩,this⟩).heap Fz.out rfl;have g3:=(h4.trans' hk (U:=fun k'=>k'=B2) fun k' hk' e=>by have e':k'=B2:=e;rw [e'];have:=zL B2 hR2;exact ⟨⟨fun h=>(HO.out _ h).1 hR2,this.2⟩,this⟩).cell (xD.out _ zJ.out).2 rfl;exact ⟨by rw [af g1];rfl,by rw [af g1];rfl,by rw [af g1];rfl,by rw [af g1];rfl,g3,hk.cell FC (zL gb (hR0 gb hgb)),by rw [af g2];rfl⟩
     have FD:Sl .i64 X da len dc ds:=by
      exact z26
     have QN:Hid (∀m',CallsIn (F.inRound l2) m' Tryz.prog 147 #[.agg #[.slice (some ⟨sb,so,none⟩) len cap,.slice da len dc,.slice (some ⟨wb,0,none⟩) len wc,.func (.yield yl) #[] #[]],.int .i64 (u:Int),.int .i64 s] X.drew
      fun e w'=>∃aa ak ac,e=.returned (.slice aa ak ac)/\(goes l u s).length=ak/\w'.ownsRow X.drew.heap.size 95 2 (.slice aa ak ac) ak (aL (goes l u s))/\Below X.drew.heap.size X.drew w'):=hdq fun m'=>by
      refine (BP.out m' u s da (some ⟨wb,0,none⟩) dc wc ds X.drew omg ((HX.out.below zM lrf).drew) (FD.drew) Fg.out).inRound l2
     have KC:=hdq (Oo HC.out (w:=zs) (k:=k) (s:=s) (u:=u) (by rw [jg.out];omega) (by rw [fw.out];exact yX) hs.symm oG);have KA:Hid (nums jH=mq l zs (k+1)):=hdq (by rw [h2];congr 1;omega);have HU:=hdq h1;have nJ:=hdq h4;have gV:=hdq h5
     have QO:Hid (∀(w7:World) (aa:OAd) (ak ac:Nat),Below X.heap.size X w7->(goes l u s).length=ak->w7.ownsRow X.drew.heap.size 95 2 (.slice aa ak ac) ak (aL (goes l u s))->∀m',CallsIn (F.inRound l2) m' Tryz.prog 146 #[.agg #[.slice (some ⟨sb,so,none⟩) len cap,.slice da len dc,.slice (some ⟨wb,0,none⟩) len wc,.func (.yield yl) #[] #[]],.slice aa ak ac,.slice (some ⟨R,0,none⟩) k len] w7
      (DX R len J Jx jH (zs.take k) ((byA l (goes l u s)).map (zs.take k++·)) O1 w7)):=hdq fun w7 aa ak ac az hak hown m'=>by
      have hgz:∀z∈goes l u s,(Lit.int .i64 z.1).wf=true/\(Lit.int .i64 z.2).wf=true:=fun z hz=>by
       obtain ⟨e1,e2,e3⟩:=(ik HC.out (by rw [iA.out];exact FB)).1 z (tu hz).1;have:=(Utf.lX _).1 e1;rw [iA.out] at e3;exact ⟨WalkArith.wf_i64 omg,WalkArith.wf_i64 omg⟩
      have bS:=Ars.of_owns hown hgz hak;obtain ⟨K',hK'⟩:∃K':Nat->Prop,K'=fun k'=>(K k'\/X.heap.size<=k')/\k'<w7.heap.size:=⟨_,rfl⟩;have xq:=az.size;have hzX:=h4.size
      have hrow:yQ K' w7 aa ak (goes l u s):=by
       exact z25
      have QA:∀k',K k'->k'<wr.heap.size/\k'≠R:=fun k' h=>by rw [gu.out] at h;exact h.2
      have hK7:ae K wr w7:=(h4.trans ((ae.of_below az).mono fun k' hk' _=>hk')).mono fun k' hk' h=>by
       rw [gu.out] at h;exact ⟨fun h'=>h.1.elim (fun e=>(HO.out k' h').1 e) (fun e=>by have:=(HO.out k' h').2;omega),h.2.2⟩
      have hall:∀i,i<len->yR F W.heap.size K' l len sb so cap wb 0 wc len dc yl da R J Jx (fE l 0 zs) i:=fun i hi=>Ju F hfn hro hd HC.out W.heap.size K' len sb so cap wb 0 wc len dc yl da R J Jx (fE l 0 zs) iA.out.symm Fx ⟨hcp,by unfold maxLen;exact hcm⟩ ⟨QD,QE⟩ HJ.out QC.out len i hi omg
      have hroom:Room R len (zs.take k) w7:=by
       exact z29
      have hin:nI W.heap.size K' l len sb so wb 0 R J (fE l 0 zs) jH (zs.take k) ((byA l (goes l u s)).map (zs.take k++·)) O1 w7:=by
       exact z23
      have hcall:=OB F hfn hro hd HC.out W.heap.size K' len sb so cap wb 0 wc len dc yl da R J Jx (fE l 0 zs) iA.out.symm Fx HJ.out u FB (goes l u s) (fun a ha=>(tu ha).1) (fun u' _ h=>hall u' h) m' aa ak ac jH (zs.take k) O1 w7 (by rw [List.length_take];omega) bS.2.1 bS.2.2.1 hrow hin;rw [List.length_take,fw.out,Nat.min_eq_left omg] at hcall;unfold tv at hcall;exact hcall.inRound l2
     have hki:(k:Int)<(m:Int):=omg;have hk0:(0:Int)<=(k:Int):=omg;have hkl:(k:Int)<=(len:Int):=omg;have aO:∀f,(F.inRound l2).fn f:=hfn;clear h1 h2 h3 h4 h5 h6 hgc zN FC FD zM hno zL hs oG hTx
     gi_wp2
     refine uH (S:=(fun w'=>w'.cell? ⟨wn.heap.size,0,none⟩=some (.slice (some ⟨sb,so,none⟩) len cap)/\w'.cell? ⟨wn.heap.size,1,none⟩=some (.slice da len dc)/\w'.cell? ⟨wn.heap.size,2,none⟩=some (.slice (some ⟨wb,0,none⟩) len wc)/\w'.cell? ⟨wn.heap.size,3,none⟩=some (.func (.yield yl) #[] #[])/\w'.cell? ⟨B2,0,none⟩=some (.slice (some ⟨gb,go,none⟩) m cap2)/\w'.cell? ⟨gb,go+k,none⟩=some (.int .i64 s)/\w'.cell? ⟨rb,0,none⟩=some (.slice (some ⟨R,0,none⟩) y len))) krf (by first|((first|exact bP|exact bI|exact aH.out _ (ae.drew _ X)))|((try dsimp only);(first|exact bP|exact bI|exact aH.out _ (ae.drew _ X)))) (fun hHeld=>?_);refine t_f aO 0 ?_;refine t_f aO 1 ?_;refine t_f aO 2 ?_;refine t_f aO 3 ?_;refine t_f aO 4 ?_;refine t_f aO 5 ?_;refine t_f aO 6 ?_;refine t_f aO 8 ?_;refine t_f aO 9 ?_;refine t_f aO 10 ?_;refine r_f aO 7 (fun K hK=>?_);go_simp
     gi_at_call 147
     refine (QN.out _).mono ?_;rintro e w7 ⟨aa,ak,ac,rfl,hak,hown,iF⟩;have az:Below X.heap.size X w7:=(aG (Below.refl _ _) ⟨1,rfl⟩:Below X.heap.size X X.drew).trans iF;have bI:=aH.out w7 ((ae.of_below az).mono fun k hk _=>hk);have QP:=hdq hown;have QQ:=hdq hak;clear hown hak
     gi_wp2_with fail
     refine k_h hK (by first|((first|exact bP|exact bI|exact aH.out _ (ae.drew _ X)))|(dsimp only;(first|exact bP|exact bI|exact aH.out _ (ae.drew _ X)))) (fun hHeld=>?_);clear hK K;refine r_f aO 11 (fun K hK=>?_);go_simp
     gi_at_call 146
     refine (QO.out w7 aa ak ac az QQ.out QP.out _).mono ?_;rintro e vD ⟨b9,O9,rfl,zO,FE,FH,FI,xG⟩;have bP:=aH.out vD (((ae.of_below az).mono fun k hk _=>hk).trans (zO.mono fun k _ h=>h));have FJ:ae (fun k=>¬U k) X vD:=((ae.of_below az).mono fun k hk _=>hk).trans (zO.mono fun k _ h=>⟨fun h'=>h ((HU.out k).2 (.inl h')),fun h'=>h ((HU.out k).2 (.inr h'))⟩);have lM:=hdq FJ;have mI:Hid (∀k,O9 k->O1 k\/X.heap.size<=k/\k<vD.heap.size):=hdq fun k h=>(FE k h).imp id fun h=>⟨by have:=az.size;omega,h.2⟩;have xB:=hdq FH;have BS:=hdq FI;have vB:=hdq xG;clear zO FJ FE FH FI xG
     gi_wp2_with fail
     refine k_h hK (by first|((first|exact bP|exact bI|exact aH.out _ (ae.drew _ X)))|(dsimp only;(first|exact bP|exact bI|exact aH.out _ (ae.drew _ X)))) (fun hHeld=>?_);clear hK K;refine t_f aO 12 ?_;refine mo krf ?_ _;clear hHeld;cases b9
     ·exact z30
     ·obtain ⟨QR,Bu,FK⟩:=BS.out rfl;clear BS vB;have dX:Hid (wJ J l zs O R len (y+1) m wr (pre++[(⟨(k,(u:Int)),hx2⟩:Bi ys)]).length (fun k=>O9 k\/k=R) vD):=hdq ⟨O9,QR,k,fun _=>Iff.rfl,by rw [Bu,KA.out,<-KC.out,List.length_append,List.length_singleton,show y+1-(pre.length+1)=k by omega],FK,nJ.out.trans' lM.out fun k' hk' h=>⟨h,fun h'=>((HU.out k').1 h').elim (fun h''=>(gV.out k' h'').elim h.1 (fun h3=>by omega)) h.2⟩,fun k' h=>(mI.out k' h).elim (fun h=>(gV.out k' h).imp id fun h=>⟨h.1,by have:=lM.out.size;omega⟩) (fun h=>.inr ⟨by have:=nJ.out.size;omega,h.2⟩),xB.out,by rw [List.length_append,List.length_singleton];omega,by omega⟩;clear Bu FK
      gi_wp2
      exact ⟨fun k=>O9 k\/k=R,lM.out,fun k h=>h.elim (fun h=>(mI.out k h).imp (fun h=>(HU.out k).2 (.inl h)) id) (fun h=>.inl ((HU.out k).2 (.inr h))),dX.out⟩
    case done =>
     exact z24
    case stop =>
     exact z27
  | some t =>
    obtain ⟨t1,t2⟩:=WT HC.out zs (i:=0) omg t (by simpa using hwk);obtain ⟨u,rfl⟩:∃u:Nat,t=(u:Int):=⟨t.toNat,by omega⟩;obtain ⟨g1,g2⟩:=(DV l zs 0).1 _ hwk;have Ko:y=m:=by have:=jg.out;have:=fw.out;omega
    subst Ko;have hun:u<len:=omg
    have hyu:y<=u:=by
     have h1:=Jv HC.out zs (i:=0) omg y (by rw [Int.natCast_zero,jg.out];omega);rw [Int.natCast_zero,<-fw.out,g2,fw.out] at h1;omega
    have hzt:zs.take y=zs:=by rw [<-fw.out];exact List.take_length
    have hgt:decide ((y:Int)+1>(y:Int))=true:=decide_eq_true omg;have hgn:y<y+1:=omg;have hgi:(y:Int)<(y:Int)+1:=omg
    have cy:wr.cell? ⟨yb,y,none⟩=some (.int .i64 (u:Int)):=by
     rw [BV.out.cellAt y omg];rw [fw.out] at g2;unfold ay;rw [List.getElem?_map,geg (by rw [jg.out];omega)];rw [gdq,geg (by rw [jg.out];omega)] at g2;simpa using g2
    have aH:Hid (∀w',ae (fun k=>¬O k/\k≠R) wr w'->w'.cell? ⟨wn.heap.size,0,none⟩=some (.slice (some ⟨sb,so,none⟩) len cap)/\w'.cell? ⟨wn.heap.size,1,none⟩=some (.slice da len dc)/\w'.cell? ⟨wn.heap.size,2,none⟩=some (.slice (some ⟨wb,0,none⟩) len wc)/\w'.cell? ⟨wn.heap.size,3,none⟩=some (.func (.yield yl) #[] #[])/\w'.cell? ⟨B2,0,none⟩=some (.slice b y cap2)/\w'.cell? ⟨yb,y,none⟩=some (.int .i64 (u:Int))/\w'.cell? ⟨rb,0,none⟩=some (.slice (some ⟨R,0,none⟩) y len)):=hdq fun w' hk=>by
     have hno:∀k,W.heap.size<=k->k≠R->¬O k/\k≠R:=fun k h1 h2=>⟨fun h=>by have:=(HO.out k h).2;omega,h2⟩;have hz2:=HB2.out.size;have g1:=hk.heap QF.out (hno _ (by have:=fP.out.size;omega) omg);have g2:=hk.heap Fz.out (hno _ omg (fun e=>q3 e.symm));have g3:=hk.cell (xD.out _ zJ.out).2 (show ¬O B2/\B2≠R from ⟨fun h=>(HO.out _ h).1 hR2,by omega⟩);exact ⟨by rw [af g1];rfl,by rw [af g1];rfl,by rw [af g1];rfl,by rw [af g1];rfl,g3,hk.cell cy (hno _ (by have:=fP.out.size;omega) (by have:=(ownsRow_below xE.out q6 lrf).lt yb rfl;have:=(xE.out.lt yb rfl).2;omega)),by rw [af g2];rfl⟩
    have BZ:Below W.heap.size W wr.drew:=zJ.out.trans (aG (Below.refl _ _) ⟨1,rfl⟩)
    have aas:nums ([]:List Wd)++(told l u).map (zs++·) <+: fE l 0 zs:=by
     rw [<-hL0.out,<-WV zs u hwk,show nums ([]:List Wd)=[] from rfl,List.nil_append];exact Oq HC.out _ lrf omg
    have QS:=hdq (fun (k:Nat)=>iT.out u hun k [] zs O wr.drew (by rw [fw.out];exact hyu) (aop.out wr.drew [] zs _ (ae.drew _ _) BZ ((hzt▸zH.out).keep (ae.drew (fun _=>True) _) trivial) (BX.out _ BZ) aas));rw [fw.out] at QS;unfold tv at QS;have asG:y<y+1:=omg;have hmin:min ((y:Int)+1) (y:Int)=(y:Int):=omg;have aox:=BV.out;have aoq:(y:Int)<=(yc:Int):=by obtain ⟨g,cap',cur,e,_,_,h1,_⟩:=BV.out.2.resolve_left (by rintro ⟨_,h⟩;omega);simp only [Value.slice.injEq] at e;omega
    clear aox;clear cy g1 g2 t1 t2 aas
    gi_wp2
    refine Og (S:=(fun w'=>w'.cell? ⟨wn.heap.size,0,none⟩=some (.slice (some ⟨sb,so,none⟩) len cap)/\w'.cell? ⟨wn.heap.size,1,none⟩=some (.slice da len dc)/\w'.cell? ⟨wn.heap.size,2,none⟩=some (.slice (some ⟨wb,0,none⟩) len wc)/\w'.cell? ⟨wn.heap.size,3,none⟩=some (.func (.yield yl) #[] #[])/\w'.cell? ⟨B2,0,none⟩=some (.slice b y cap2)/\w'.cell? ⟨yb,y,none⟩=some (.int .i64 (u:Int))/\w'.cell? ⟨rb,0,none⟩=some (.slice (some ⟨R,0,none⟩) y len))) krf (by first|((first|exact bP|exact aH.out _ (ae.drew _ wr)))|((try dsimp only);(first|exact bP|exact aH.out _ (ae.drew _ wr)))) (fun hHeld=>?_);refine t_f hfn 0 ?_;refine t_f hfn 1 ?_;refine t_f hfn 2 ?_;refine t_f hfn 3 ?_;refine t_f hfn 4 ?_;refine t_f hfn 5 ?_;refine t_f hfn 6 ?_;refine t_f hfn 7 ?_;refine t_f hfn 8 ?_;refine t_f hfn 9 ?_;refine t_f hfn 10 ?_;refine t_f hfn 11 ?_;refine t_f hfn 12 ?_;refine r_f hfn 13 (fun K hK=>?_);go_simp
    gi_at_call 144
    refine (QS.out _).mono ?_;rintro e w8 ⟨b8,O8,rfl,fM,qC,mD,rP,rQ⟩;have bP:=aH.out w8 ((ae.drew _ wr).trans fM);have kz:=hdq fM;have qy:=hdq qC;have nC:=hdq mD;have vw:=hdq rP;have vz:=hdq rQ;clear fM qC mD rP rQ
    gi_wp2_with fail
    refine k_h hK (by first|((first|exact bP|exact aH.out _ (ae.drew _ wr)))|(dsimp only;(first|exact bP|exact aH.out _ (ae.drew _ wr)))) (fun hHeld=>?_);clear hK K;refine t_f hfn 14 ?_;refine t_f hfn 15 ?_;refine mo krf ?_ _;simp only [AX];clear hHeld;cases b8
    ·have vB:=hdq (vz.out rfl);clear vw vz
     gi_wp2
     obtain ⟨fB,hX⟩:=vB.out;exact ⟨_,results_none rfl _ _ _,⟨_,rfl⟩,O8,.inr ⟨fB,trivial,hX⟩⟩
    ·obtain ⟨Ky,oW,En⟩:=vw.out rfl;clear vw vz;have xC:Hid (wJ J l zs O R len y y wr 0 (fun k=>O8 k\/k=R) w8):=hdq ⟨O8,Ky,y,fun _=>Iff.rfl,by rw [oW,Nat.sub_zero,show nums ([]:List Wd)=[] from rfl,List.nil_append,<-WV zs u hwk,fw.out],En,(ae.drew _ wr).trans kz.out,qy.out,by rw [hzt];exact nC.out,by omega,Nat.le_refl _⟩;have aos:wr.heap.size<=w8.heap.size:=kz.out.size;have hyj:y<=y+1:=omg;clear oW En kz qy nC
     gi_wp2_with (gi_at_call 145;refine (Xv F _ (hfn _) hro _ _ _ _).mono ?_;rintro e w9 ⟨rfl,rfl⟩)
     obtain ⟨ys,hys⟩:∃ys,ys=(Wlk.along l 0 zs).take (y):=⟨_,rfl⟩;have QH:ys.length=y:=by rw [hys,List.length_take,jg.out];omega
     have aot:R<wr.heap.size:=by obtain ⟨cur,hcc,_⟩:=zH.out.obj;exact (hltq hcc)
     obtain ⟨X5,rT⟩:∃X5,X5=w8.alloc (.cells #[.slice (some ⟨yb,0,none⟩) (y) yc] 51):=⟨_,rfl⟩;obtain ⟨xb,hxb⟩:∃xb,xb=w8.heap.size:=⟨_,rfl⟩;have zX5:X5.heap.size=xb+1:=by rw [rT,hxb];simp
     have hk5:∀S,ae S w8 X5:=fun S=>by rw [rT];exact ae.alloc S w8 _
     have ze:X5.cell? ⟨xb,0,none⟩=some (.slice (some ⟨yb,0,none⟩) (y) yc):=by rw [rT,hxb,af (han w8 _)];rfl
     have zK:=Jw (base':=X5.heap.size) HJ.out omg omg omg xC.out (hk5 _);have KG:W.heap.size<=yb/\yb<wl.heap.size:=⟨by have h1:=(xE.out.lt yb rfl).1;have:=fP.out.size;simp at h1;omega,(xE.out.lt yb rfl).2⟩;obtain ⟨U0,KE⟩:∃U0:Nat->Prop,U0=fun k=>O8 k\/k=R:=⟨_,rfl⟩;rw [<-KE] at zK
     have QI:∀k,U0 k->¬(k=xb\/k=yb)/\k<X5.heap.size:=by
      exact z28
     have QJ:Sl .i64 X5 (some ⟨yb,0,none⟩) (y) yc ys:=by
      have h1:Sl .i64 wr (some ⟨yb,0,none⟩) (y+1) yc (Wlk.along l 0 zs):=Sl.of_owns BV.out (fun z hz=>by
       obtain ⟨i,hi,rfl⟩:=List.getElem_of_mem hz;have h:=yK HC.out zs (i:=0) omg i (by rw [Int.natCast_zero];exact hi);rw [Int.natCast_zero,gdq,geg hi,Option.getD_some] at h
       exact WalkArith.wf_i64 omg) jg.out
      have h2:=h1.cut (k:=y) omg;rw [<-hys] at h2;obtain ⟨O1,jH,q,_,_,_,h4,_⟩:=xC.out;exact (h2.keep h4 (fun b' off e=>by simp only [sij,Addr.mk.injEq] at e;obtain ⟨rfl,_⟩:=e;exact ⟨fun h=>by have:=(HO.out yb h).2;omega,by omega⟩)).keep (hk5 (fun _=>True)) (fun _ _ _=>trivial)
     rw [<-rT,<-hxb];clear rT hk5;have QK:=hdq zK;have rM:=hdq hys;have QL:=hdq QH;have hRb:R<X5.heap.size:=omg;have aap:wr.heap.size<=xb:=omg;clear zK hys xC hxb
     refine OA hro (fun h=>by rw [hd] at h;cases h) (gf:=171) (lb:=#[.pointer (some ⟨xb,0,none⟩)]) rfl (hfn _) (enters_of Tryz.func171 krf rfl)
      (encs:=biv (zs:=ys)) (Rd:=fun k=>k=xb\/k=yb) (T:=mr ys) (At:=fun _ _=>True) (S:=fun xs=>mr ys xs/\xs.length=y) (Sp:=fun _=>True) (N:=y) (w0:=X5)
      (Xw F (n-1) hfn hro hd xb (some ⟨yb,0,none⟩) (y) yc ys X5 QJ omg (fun k=>k=xb\/k=yb) (fun b' off e=>by simp only [sij,Addr.mk.injEq] at e;exact .inr e.1.symm) (.inl rfl) (by rintro k (rfl|rfl)<;>omega) ze)
      (fun _ _ _ _ _ h _=>trivial) (ae.refl _ _) (by rintro k (rfl|rfl)<;>omega) (fun _=>rfl)
      (fun pre U X=>wJ J l zs O R len (y) y wr pre.length U X) (fun c pre U X=>Jy Jx c U X) (fun _ _ _ _ h hk=>Jw HJ.out omg omg hRb h hk) (fun _ _ _ _ _ h hk=>Xy kJ.out omg h hk)
      U0 QI QK.out
      (fun x=>{ tmps:=#[.func (.yield yl) #[] #[],.pointer (some ⟨B1,0,none⟩),.pointer (some ⟨B2,0,none⟩),undef,.pointer (some ⟨wn.heap.size,0,none⟩),.slice (some ⟨yb,0,none⟩) (y+1) yc,.pointer (some ⟨rb,0,none⟩),.int .i64 (x.1.1:Int),.int .i64 x.1.2,.slice (some ⟨sb,so,none⟩) len cap,.func (.yield yl) #[] #[],.agg #[.slice (some ⟨sb,so,none⟩) len cap,.slice da len dc,.slice (some ⟨wb,0,none⟩) len wc,.func (.yield yl) #[] #[]],.slice (some ⟨sb,so,none⟩) len cap,.slice b y cap2,.slice (some ⟨yb,0,none⟩) (y+1) yc,.slice (some ⟨sb,so,none⟩) len cap,.int .i64 (len:Int),.slice (some ⟨R,0,none⟩) 0 len,.slice b y cap2,.slice (some ⟨yb,0,none⟩) (y+1) yc,.int .i64 ((y:Int)+1),.int .i64 (y:Int),.slice b y cap2,.slice (some ⟨R,0,none⟩) y len,.slice (some ⟨yb,0,none⟩) (y+1) yc,.int .i64 ((y:Int)+1),.slice b y cap2,.int .i64 (y:Int),.bool true,.bool true,.agg #[.slice (some ⟨sb,so,none⟩) len cap,.slice da len dc,.slice (some ⟨wb,0,none⟩) len wc,.func (.yield yl) #[] #[]],.slice (some ⟨yb,0,none⟩) (y+1) yc,.slice b y cap2,.int .i64 (y:Int),.pointer (some ⟨yb,y,none⟩),.int .i64 (u:Int),.slice (some ⟨R,0,none⟩) y len,.bool true,.bool false,.bool false,.slice (some ⟨yb,0,none⟩) (y+1) yc,.slice (some ⟨yb,0,none⟩) (y+1) yc,.int .i64 ((y:Int)+1),.slice b y cap2,.int .i64 (y:Int),.int .i64 ((y:Int)),.slice (some ⟨yb,0,none⟩) (y) yc,.func (.func 171) #[] #[.pointer (some ⟨xb,0,none⟩)],.int .i64 (x.1.1:Int),.int .i64 x.1.2,undef,undef,undef,undef,undef,undef,undef,undef,undef,undef,undef,undef,undef],defers:=[] }) ?assign ?body ?done ?stop
     case assign =>
      intro l2 x X K' hK';simp only [biv]
      gi_wp2
      exact hK'
     case body =>
      rintro l2 pre x U X hTx-⟨O1,jH,q,h1,h2,h3,h4,h5,h6,h7,h8⟩ hlt hsz2;have hlast:=hTx.last;obtain ⟨⟨⟨k,uI⟩,hx2⟩,hxe⟩:∃y,y=x:=⟨x,rfl⟩;subst hxe;simp only at hlast hx2 ⊢;rw [QL.out] at hlast
      obtain ⟨u,rfl⟩:∃u:Nat,uI=(u:Int):=by
       exact z31
      have oG:(Wlk.along l 0 zs).getD k 0=(u:Int):=by
       exact z34
      have FB:u<len:=by
       exact z32
      have hku:k<=u:=by
       exact z33
      have yX:k<y:=omg;obtain ⟨s,hs⟩:∃s,s=zs.getD k 0:=⟨_,rfl⟩;have hno:∀k',W.heap.size<=k'->k'<wr.heap.size->k'≠R->¬O1 k'/\k'≠R:=fun k' e1 e2 e3=>⟨fun h=>(h5 k' h).elim (fun h=>by have:=(HO.out k' h).2;omega) (fun h=>by omega),e3⟩
      have zL:∀k',Rd k'->¬O1 k'/\k'≠R:=fun k' e1=>by
       have hz:k'<W.heap.size:=HRW.out k' e1;exact ⟨fun h=>(h5 k' h).elim (fun h=>(HO.out k' h).1 e1) (fun h=>by omega),by omega⟩
      have zM:Below W0.heap.size W0 X:=(ai.out.trans (zJ.out.mono BU)).trans (h4.below omg (fun k' hk'=>⟨fun h=>(HO.out k' h).1 (hR0 k' hk'),by omega⟩));obtain ⟨gb,go,rfl,hgb,hgc⟩:=HZ.out.at omg;have zN:=hgc k yX;rw [<-hs] at zN;have FC:X.cell? ⟨gb,go+k,none⟩=some (.int .i64 s):=by rw [zM.cell (p:=⟨gb,go+k,none⟩) hgb];exact zN
      have QM:W.heap.size<=wn.heap.size:=fP.out.size;have aow:wl.heap.size<=wr.heap.size:=q6.size
      have aH:Hid (∀w',ae (fun k'=>¬O1 k'/\k'≠R) X w'->w'.cell? ⟨wn.heap.size,0,none⟩=some (.slice (some ⟨sb,so,none⟩) len cap)/\w'.cell? ⟨wn.heap.size,1,none⟩=some (.slice da len dc)/\w'.cell? ⟨wn.heap.size,2,none⟩=some (.slice (some ⟨wb,0,none⟩) len wc)/\w'.cell? ⟨wn.heap.size,3,none⟩=some (.func (.yield yl) #[] #[])/\w'.cell? ⟨B2,0,none⟩=some (.slice (some ⟨gb,go,none⟩) y cap2)/\w'.cell? ⟨gb,go+k,none⟩=some (.int .i64 s)/\w'.cell? ⟨rb,0,none⟩=some (.slice (some ⟨R,0,none⟩) y len)):=hdq fun w' hk=>by
       have g1:=(h4.trans' hk (U:=fun k'=>k'=wn.heap.size) fun k' hk' e=>by subst e;have:=hno wn.heap.size QM omg omg;exact ⟨⟨fun h=>by have:=(HO.out _ h).2;omega,this.2⟩,this⟩).heap QF.out rfl;have g2:=(h4.trans' hk (U:=fun k'=>k'=rb) fun k' hk' e=>by have e':k'=rb:=e;rw [e'];have:=hno rb omg omg (fun e=>q3 e.symm);exact ⟨⟨fun h=>by have:=(HO.out _ h).2;omega,this.2⟩,this⟩).heap Fz.out rfl;have g3:=(h4.trans' hk (U:=fun k'=>k'=B2) fun k' hk' e=>by have e':k'=B2:=e;rw [e'];have:=zL B2 hR2;exact ⟨⟨fun h=>(HO.out _ h).1 hR2,this.2⟩,this⟩).cell (xD.out _ zJ.out).2 rfl;exact ⟨by rw [af g1];rfl,by rw [af g1];rfl,by rw [af g1];rfl,by rw [af g1];rfl,g3,hk.cell FC (zL gb (hR0 gb hgb)),by rw [af g2];rfl⟩
      have FD:Sl .i64 X da len dc ds:=by
       exact z26
      have QN:Hid (∀m',CallsIn (F.inRound l2) m' Tryz.prog 147 #[.agg #[.slice (some ⟨sb,so,none⟩) len cap,.slice da len dc,.slice (some ⟨wb,0,none⟩) len wc,.func (.yield yl) #[] #[]],.int .i64 (u:Int),.int .i64 s] X.drew
       fun e w'=>∃aa ak ac,e=.returned (.slice aa ak ac)/\(goes l u s).length=ak/\w'.ownsRow X.drew.heap.size 95 2 (.slice aa ak ac) ak (aL (goes l u s))/\Below X.drew.heap.size X.drew w'):=hdq fun m'=>by
       refine (BP.out m' u s da (some ⟨wb,0,none⟩) dc wc ds X.drew omg ((HX.out.below zM lrf).drew) (FD.drew) Fg.out).inRound l2
      have KC:=hdq (Oo HC.out (w:=zs) (k:=k) (s:=s) (u:=u) (by rw [jg.out];omega) (by rw [fw.out];exact yX) hs.symm oG);have KA:Hid (nums jH=mq l zs (k+1)):=hdq (by rw [h2];congr 1;omega);have HU:=hdq h1;have nJ:=hdq h4;have gV:=hdq h5
      have QO:Hid (∀(w7:World) (aa:OAd) (ak ac:Nat),Below X.heap.size X w7->(goes l u s).length=ak->w7.ownsRow X.drew.heap.size 95 2 (.slice aa ak ac) ak (aL (goes l u s))->∀m',CallsIn (F.inRound l2) m' Tryz.prog 146 #[.agg #[.slice (some ⟨sb,so,none⟩) len cap,.slice da len dc,.slice (some ⟨wb,0,none⟩) len wc,.func (.yield yl) #[] #[]],.slice aa ak ac,.slice (some ⟨R,0,none⟩) k len] w7
       (DX R len J Jx jH (zs.take k) ((byA l (goes l u s)).map (zs.take k++·)) O1 w7)):=hdq fun w7 aa ak ac az hak hown m'=>by
       have hgz:∀z∈goes l u s,(Lit.int .i64 z.1).wf=true/\(Lit.int .i64 z.2).wf=true:=fun z hz=>by
        obtain ⟨e1,e2,e3⟩:=(ik HC.out (by rw [iA.out];exact FB)).1 z (tu hz).1;have:=(Utf.lX _).1 e1;rw [iA.out] at e3;exact ⟨WalkArith.wf_i64 omg,WalkArith.wf_i64 omg⟩
       have bS:=Ars.of_owns hown hgz hak;obtain ⟨K',hK'⟩:∃K':Nat->Prop,K'=fun k'=>(K k'\/X.heap.size<=k')/\k'<w7.heap.size:=⟨_,rfl⟩;have xq:=az.size;have hzX:=h4.size
       have hrow:yQ K' w7 aa ak (goes l u s):=by
        exact z25
       have QA:∀k',K k'->k'<wr.heap.size/\k'≠R:=fun k' h=>by rw [gu.out] at h;exact h.2
       have hK7:ae K wr w7:=(h4.trans ((ae.of_below az).mono fun k' hk' _=>hk')).mono fun k' hk' h=>by
        rw [gu.out] at h;exact ⟨fun h'=>h.1.elim (fun e=>(HO.out k' h').1 e) (fun e=>by have:=(HO.out k' h').2;omega),h.2.2⟩
       have hall:∀i,i<len->yR F W.heap.size K' l len sb so cap wb 0 wc len dc yl da R J Jx (fE l 0 zs) i:=fun i hi=>Ju F hfn hro hd HC.out W.heap.size K' len sb so cap wb 0 wc len dc yl da R J Jx (fE l 0 zs) iA.out.symm Fx ⟨hcp,by unfold maxLen;exact hcm⟩ ⟨QD,QE⟩ HJ.out QC.out len i hi omg
       have hroom:Room R len (zs.take k) w7:=by
        exact z29
       have hin:nI W.heap.size K' l len sb so wb 0 R J (fE l 0 zs) jH (zs.take k) ((byA l (goes l u s)).map (zs.take k++·)) O1 w7:=by
        exact z23
       have hcall:=OB F hfn hro hd HC.out W.heap.size K' len sb so cap wb 0 wc len dc yl da R J Jx (fE l 0 zs) iA.out.symm Fx HJ.out u FB (goes l u s) (fun a ha=>(tu ha).1) (fun u' _ h=>hall u' h) m' aa ak ac jH (zs.take k) O1 w7 (by rw [List.length_take];omega) bS.2.1 bS.2.2.1 hrow hin;rw [List.length_take,fw.out,Nat.min_eq_left omg] at hcall;unfold tv at hcall;exact hcall.inRound l2
      have hki:(k:Int)<(y:Int):=omg;have hk0:(0:Int)<=(k:Int):=omg;have hkl:(k:Int)<=(len:Int):=omg;have aO:∀f,(F.inRound l2).fn f:=hfn;clear h1 h2 h3 h4 h5 h6 hgc zN FC FD zM hno zL hs oG hTx
      gi_wp2
      refine uH (S:=(fun w'=>w'.cell? ⟨wn.heap.size,0,none⟩=some (.slice (some ⟨sb,so,none⟩) len cap)/\w'.cell? ⟨wn.heap.size,1,none⟩=some (.slice da len dc)/\w'.cell? ⟨wn.heap.size,2,none⟩=some (.slice (some ⟨wb,0,none⟩) len wc)/\w'.cell? ⟨wn.heap.size,3,none⟩=some (.func (.yield yl) #[] #[])/\w'.cell? ⟨B2,0,none⟩=some (.slice (some ⟨gb,go,none⟩) y cap2)/\w'.cell? ⟨gb,go+k,none⟩=some (.int .i64 s)/\w'.cell? ⟨rb,0,none⟩=some (.slice (some ⟨R,0,none⟩) y len))) krf (by first|((first|exact bP|exact bI|exact aH.out _ (ae.drew _ X)))|((try dsimp only);(first|exact bP|exact bI|exact aH.out _ (ae.drew _ X)))) (fun hHeld=>?_);refine t_f aO 0 ?_;refine t_f aO 1 ?_;refine t_f aO 2 ?_;refine t_f aO 3 ?_;refine t_f aO 4 ?_;refine t_f aO 5 ?_;refine t_f aO 6 ?_;refine t_f aO 8 ?_;refine t_f aO 9 ?_;refine t_f aO 10 ?_;refine r_f aO 7 (fun K hK=>?_);go_simp
      gi_at_call 147
      refine (QN.out _).mono ?_;rintro e w7 ⟨aa,ak,ac,rfl,hak,hown,iF⟩;have az:Below X.heap.size X w7:=(aG (Below.refl _ _) ⟨1,rfl⟩:Below X.heap.size X X.drew).trans iF;have bI:=aH.out w7 ((ae.of_below az).mono fun k hk _=>hk);have QP:=hdq hown;have QQ:=hdq hak;clear hown hak
      gi_wp2_with fail
      refine k_h hK (by first|((first|exact bP|exact bI|exact aH.out _ (ae.drew _ X)))|(dsimp only;(first|exact bP|exact bI|exact aH.out _ (ae.drew _ X)))) (fun hHeld=>?_);clear hK K;refine r_f aO 11 (fun K hK=>?_);go_simp
      gi_at_call 146
      refine (QO.out w7 aa ak ac az QQ.out QP.out _).mono ?_;rintro e vD ⟨b9,O9,rfl,zO,FE,FH,FI,xG⟩;have bP:=aH.out vD (((ae.of_below az).mono fun k hk _=>hk).trans (zO.mono fun k _ h=>h));have FJ:ae (fun k=>¬U k) X vD:=((ae.of_below az).mono fun k hk _=>hk).trans (zO.mono fun k _ h=>⟨fun h'=>h ((HU.out k).2 (.inl h')),fun h'=>h ((HU.out k).2 (.inr h'))⟩);have lM:=hdq FJ;have mI:Hid (∀k,O9 k->O1 k\/X.heap.size<=k/\k<vD.heap.size):=hdq fun k h=>(FE k h).imp id fun h=>⟨by have:=az.size;omega,h.2⟩;have xB:=hdq FH;have BS:=hdq FI;have vB:=hdq xG;clear zO FJ FE FH FI xG
      gi_wp2_with fail
      refine k_h hK (by first|((first|exact bP|exact bI|exact aH.out _ (ae.drew _ X)))|(dsimp only;(first|exact bP|exact bI|exact aH.out _ (ae.drew _ X)))) (fun hHeld=>?_);clear hK K;refine t_f aO 12 ?_;refine mo krf ?_ _;clear hHeld;cases b9
      ·exact z30
      ·obtain ⟨QR,Bu,FK⟩:=BS.out rfl;clear BS vB;have dX:Hid (wJ J l zs O R len (y) y wr (pre++[(⟨(k,(u:Int)),hx2⟩:Bi ys)]).length (fun k=>O9 k\/k=R) vD):=hdq ⟨O9,QR,k,fun _=>Iff.rfl,by rw [Bu,KA.out,<-KC.out,List.length_append,List.length_singleton,show y-(pre.length+1)=k by omega],FK,nJ.out.trans' lM.out fun k' hk' h=>⟨h,fun h'=>((HU.out k').1 h').elim (fun h''=>(gV.out k' h'').elim h.1 (fun h3=>by omega)) h.2⟩,fun k' h=>(mI.out k' h).elim (fun h=>(gV.out k' h).imp id fun h=>⟨h.1,by have:=lM.out.size;omega⟩) (fun h=>.inr ⟨by have:=nJ.out.size;omega,h.2⟩),xB.out,by rw [List.length_append,List.length_singleton];omega,by omega⟩;clear Bu FK
       gi_wp2
       exact ⟨fun k=>O9 k\/k=R,lM.out,fun k h=>h.elim (fun h=>(mI.out k h).imp (fun h=>(HU.out k).2 (.inl h)) id) (fun h=>.inl ((HU.out k).2 (.inr h))),dX.out⟩
     case done =>
      exact z24
     case stop =>
      exact z27

 have fC:=hdq hrest;have hw1:IntKind.i64.wrap (y:Int)=(y:Int):=by rw [IntKind.wrap_i64];omega
 have uk:(y:Int)<=(cap2:Int):=omg;have hy0:(0:Int)<=(y:Int):=omg;have HS2:Hid (∀c,Below wl.heap.size wl c->c.cell? ⟨B1,0,none⟩=some (.slice (some ⟨sb,so,none⟩) len cap)/\c.cell? ⟨B2,0,none⟩=some (.slice b m cap2)):=hdq fun c h=>xD.out c (HB2.out.trans (h.mono HB2.out.size));have HZ2:Hid (∀c,Below wl.heap.size wl c->Sl .i64 c b y cap2 (zs.take y)):=hdq fun c h=>(HZ.out.below (ai.out.trans ((HB2.out.trans (h.mono HB2.out.size)).mono BU)) lrf).cut hym;have hbd:Below wl.heap.size wl wl.drew:=aG (Below.refl _ _) ⟨1,rfl⟩;clear hrest hKr e1 e2;refine Og (S:=(fun w'=>w'.cell? ⟨B1,0,none⟩=some (.slice (some ⟨sb,so,none⟩) len cap)/\w'.cell? ⟨B2,0,none⟩=some (.slice b m cap2))) krf (by first|((first|exact gy|exact gD|exact gF|exact gL|exact HS2.out _ hbd))|((try dsimp only);(first|exact gy|exact gD|exact gF|exact gL|exact HS2.out _ hbd))) (fun hHeld=>?_);refine t_f hfn 0 ?_;refine t_f hfn 1 ?_;refine t_f hfn 3 ?_;refine t_f hfn 4 ?_;refine t_f hfn 5 ?_;refine t_f hfn 6 ?_;refine t_f hfn 7 ?_;refine Jl hfn 2 9 (fun K hK=>?_) (fun K hK=>?_)
 ·refine Xx rfq _ (.tmp 16) len omg rfq rfq rfq ?_;intro R wM hRe QT KH;have qE:Below wl.heap.size wl wM:=hbd.trans ((KH (fun _=>True)).below hbd.size (fun _ _=>trivial));have hRl:wl.heap.size<=R:=by rw [hRe];exact hbd.size
  have FL:=QT;clear hRe;have gL:=HS2.out _ qE;refine k_h hK (by first|((first|exact gy|exact gD|exact gF|exact gL|exact HS2.out _ hbd))|(dsimp only;(first|exact gy|exact gD|exact gF|exact gL|exact HS2.out _ hbd))) (fun hHeld=>?_);clear hK K;refine Jl hfn 8 9 (fun K hK=>?_) (fun K hK=>?_)
  ·refine OD rfq (.tmp 17) (.tmp 22) rfq R len rfq FL b y cap2 (zs.take y) rfq (HZ2.out _ qE) hnil omg ?_;intro wA Ca rO;have um:Below wl.heap.size wl wA:=qE.trans (rO.below qE.size (fun k hk=>by omega));have gD:=HS2.out _ um;refine k_h hK (by first|((first|exact gy|exact gD|exact gF|exact gL|exact HS2.out _ hbd))|(dsimp only;(first|exact gy|exact gD|exact gF|exact gL|exact HS2.out _ hbd))) (fun hHeld=>?_);clear hK K;refine r_f hfn 9 (fun K hK=>?_);refine OC rfq rfq ?_;intro rb wB xH xI hkB;have qF:Below wl.heap.size wl wB:=um.trans ((hkB (fun _=>True)).below um.size (fun _ _=>trivial));have hrl:wl.heap.size<=rb:=by rw [xH];exact um.size
   have QU:=Ca.keep (hkB (fun _=>True)) trivial;have hne:R≠rb:=by obtain ⟨cur,hcc,_⟩:=Ca.obj;have:=(hltq hcc);omega
   clear xH;have gF:=HS2.out _ qF;have hcb:wB.cell? ⟨rb,0,none⟩=some (.slice none 0 0):=(by rw [af xI];rfl);have Fp:wB.frozen? ⟨rb,0,none⟩=false:=frozen_of_row wB _ 0 _ _ xI;have rU:Jz len y zs wl R rb (wB.setCell ⟨rb,0,none⟩ (.slice (some ⟨R,0,none⟩) y len)):=⟨hRl,hrl,hne,QU.keep (ae.setCell _ ⟨rb,0,none⟩ _ (S:=fun k=>k≠rb) (fun h=>h rfl)) hne,(by rw [heap_setCell_same _ _ _ _ _ _ xI];rfl),qF.setCell (p:=⟨rb,0,none⟩) hrl _⟩;have gy:=HS2.out _ rU.2.2.2.2.2;have ag:=hdq rU;clear rU;refine k_h hK (by first|((first|exact gy|exact gD|exact gF|exact gL|exact HS2.out _ hbd))|(dsimp only;(first|exact gy|exact gD|exact gF|exact gL|exact HS2.out _ hbd))) (fun hHeld=>?_);clear hK K;refine r_f hfn 10 (fun K hK=>?_);go_simp;refine k_h hK (by first|((first|exact gy|exact gD|exact gF|exact gL|exact HS2.out _ hbd))|(dsimp only;(first|exact gy|exact gD|exact gF|exact gL|exact HS2.out _ hbd))) (fun hHeld=>?_);clear hK K;refine mo krf ?_ _;simp only [AX];clear hHeld;exact fC.out _ _ _ ag.out
  ·refine OC rfq rfq ?_;intro rb wB xH xI hkB;have qF:Below wl.heap.size wl wB:=qE.trans ((hkB (fun _=>True)).below qE.size (fun _ _=>trivial));have hrl:wl.heap.size<=rb:=by rw [xH];exact qE.size
   have QU:=FL.keep (hkB (fun _=>True)) trivial;have hne:R≠rb:=by obtain ⟨cur,hcc,_⟩:=FL.obj;have:=(hltq hcc);omega
   clear xH;have gF:=HS2.out _ qF;refine k_h hK (by first|((first|exact gy|exact gD|exact gF|exact gL|exact HS2.out _ hbd))|(dsimp only;(first|exact gy|exact gD|exact gF|exact gL|exact HS2.out _ hbd))) (fun hHeld=>?_);clear hK K;refine r_f hfn 8 (fun K hK=>?_);refine OD rfq (.tmp 17) (.tmp 22) rfq R len rfq QU b y cap2 (zs.take y) rfq (HZ2.out _ qF) hnil omg ?_;intro wA Ca rO;have um:Below wl.heap.size wl wA:=qF.trans (rO.below qF.size (fun k hk=>by omega));have zP:=rO.heap xI omg;have gD:=HS2.out _ um;have hcb:wA.cell? ⟨rb,0,none⟩=some (.slice none 0 0):=(by rw [af zP];rfl);have Fp:wA.frozen? ⟨rb,0,none⟩=false:=frozen_of_row wA _ 0 _ _ zP;have rU:Jz len y zs wl R rb (wA.setCell ⟨rb,0,none⟩ (.slice (some ⟨R,0,none⟩) y len)):=⟨hRl,hrl,hne,Ca.keep (ae.setCell _ ⟨rb,0,none⟩ _ (S:=fun k=>k≠rb) (fun h=>h rfl)) hne,(by rw [heap_setCell_same _ _ _ _ _ _ zP];rfl),um.setCell (p:=⟨rb,0,none⟩) hrl _⟩;have gy:=HS2.out _ rU.2.2.2.2.2;have ag:=hdq rU;clear rU;refine k_h hK (by first|((first|exact gy|exact gD|exact gF|exact gL|exact HS2.out _ hbd))|(dsimp only;(first|exact gy|exact gD|exact gF|exact gL|exact HS2.out _ hbd))) (fun hHeld=>?_);clear hK K;refine r_f hfn 10 (fun K hK=>?_);go_simp;refine k_h hK (by first|((first|exact gy|exact gD|exact gF|exact gL|exact HS2.out _ hbd))|(dsimp only;(first|exact gy|exact gD|exact gF|exact gL|exact HS2.out _ hbd))) (fun hHeld=>?_);clear hK K;refine mo krf ?_ _;simp only [AX];clear hHeld;exact fC.out _ _ _ ag.out
 ·refine OC rfq rfq ?_;intro rb wB xH xI hkB;have qF:Below wl.heap.size wl wB:=hbd.trans ((hkB (fun _=>True)).below hbd.size (fun _ _=>trivial));have hrl:wl.heap.size<=rb:=by rw [xH];exact hbd.size
  clear xH;have gF:=HS2.out _ qF;refine k_h hK (by first|((first|exact gy|exact gD|exact gF|exact gL|exact HS2.out _ hbd))|(dsimp only;(first|exact gy|exact gD|exact gF|exact gL|exact HS2.out _ hbd))) (fun hHeld=>?_);clear hK K;refine r_f hfn 2 (fun K hK=>?_);refine Xx rfq _ (.tmp 16) len omg rfq rfq rfq ?_;intro R wM hRe QT KH;have qE:Below wl.heap.size wl wM:=qF.trans ((KH (fun _=>True)).below qF.size (fun _ _=>trivial));have hRl:wl.heap.size<=R:=by rw [hRe];exact qF.size
  have FL:=QT;have aoy:=(KH (fun _=>True)).heap xI trivial;have hne:R≠rb:=by have:=(hltq xI);omega
  clear hRe;have gL:=HS2.out _ qE;refine k_h hK (by first|((first|exact gy|exact gD|exact gF|exact gL|exact HS2.out _ hbd))|(dsimp only;(first|exact gy|exact gD|exact gF|exact gL|exact HS2.out _ hbd))) (fun hHeld=>?_);clear hK K;refine r_f hfn 8 (fun K hK=>?_);refine OD rfq (.tmp 17) (.tmp 22) rfq R len rfq FL b y cap2 (zs.take y) rfq (HZ2.out _ qE) hnil omg ?_;intro wA Ca rO;have um:Below wl.heap.size wl wA:=qE.trans (rO.below qE.size (fun k hk=>by omega));have zP:=rO.heap aoy omg;have gD:=HS2.out _ um;have hcb:wA.cell? ⟨rb,0,none⟩=some (.slice none 0 0):=(by rw [af zP];rfl);have Fp:wA.frozen? ⟨rb,0,none⟩=false:=frozen_of_row wA _ 0 _ _ zP;have rU:Jz len y zs wl R rb (wA.setCell ⟨rb,0,none⟩ (.slice (some ⟨R,0,none⟩) y len)):=⟨hRl,hrl,hne,Ca.keep (ae.setCell _ ⟨rb,0,none⟩ _ (S:=fun k=>k≠rb) (fun h=>h rfl)) hne,(by rw [heap_setCell_same _ _ _ _ _ _ zP];rfl),um.setCell (p:=⟨rb,0,none⟩) hrl _⟩;have gy:=HS2.out _ rU.2.2.2.2.2;have ag:=hdq rU;clear rU;refine k_h hK (by first|((first|exact gy|exact gD|exact gF|exact gL|exact HS2.out _ hbd))|(dsimp only;(first|exact gy|exact gD|exact gF|exact gL|exact HS2.out _ hbd))) (fun hHeld=>?_);clear hK K;refine r_f hfn 10 (fun K hK=>?_);go_simp;refine k_h hK (by first|((first|exact gy|exact gD|exact gF|exact gL|exact HS2.out _ hbd))|(dsimp only;(first|exact gy|exact gD|exact gF|exact gL|exact HS2.out _ hbd))) (fun hHeld=>?_);clear hK K;refine mo krf ?_ _;simp only [AX];clear hHeld;exact fC.out _ _ _ ag.out
end
section
theorem z35 {P:Prop} (h:P:=by
 exact (H6.out.trans (au.mono omg)).trans ((ae.of_grownBy (S:=fun q=>q<w1.heap.size) eP (fun r e h=>by have:=((H2.out.below au).row.lt r e).1;omega)).below omg (fun _ h=>h) |>.setCell (p:=⟨w1.heap.size,0,none⟩) lrf _)):P:=h
theorem z36 {P:Prop} (h:P:=by
 intro r e;rw [zQ.out] at e;rcases Cb with h|h
 ·rw [h] at e;exact .inl (H7.out r e)
 ·rw [h] at e;simp only [sij] at e;exact .inr ⟨by omega,by rw [Cc];have:=(vE.row.lt r (by rw [h,e])).2;omega⟩):P:=h
theorem z37 {P:Prop} (h:P:=by
 rw [zQ.out];exact vE.keep hks (fun r e=>DY vE.row nK JA e) (fun y hy r e=>DY (vE.own y hy) nK ajs e)):P:=h
theorem z38 {P:Prop} (h:P:=by
 rw [zQ.out];exact heap_setCell_same w9 w1.heap.size 0 _ _ (.slice a9 (k+1) c9) nK):P:=h
open Go.RowKit Go.Shelf Tri Wlk
attribute [local go_sem] Oper.semAt_some

theorem Ml.keep {B:Nat} {w w':World} {a:OAd} {L c:Nat} {outs:List Wd} {S:Nat->Prop} (h:Ml B w a L c outs) (hk:ae S w w') (h1:∀r,(Value.slice a L c).ownBlock=some r->S r) (h2:∀x∈outs,∀r,x.v.ownBlock=some r->S r):Ml B w' a L c outs :=
 ⟨tC h.row hk h1,fun x hx=>tC (h.own x hx) hk (h2 x hx),h.wfs,h.lens,h.len,h.nil⟩
theorem Ml.lower {B B':Nat} {w:World} {a:OAd} {L c:Nat} {outs:List Wd} (h:Ml B w a L c outs) (hB:B'<=B):Ml B' w a L c outs :=
 ⟨oh h.row hB,fun x hx=>oh (h.own x hx) hB,h.wfs,h.lens,h.len,h.nil⟩

theorem ajr (F:Fence) (n:Nat) (h5:F.fn 109) (hro:F.round=none) (a b:OAd) (len cap m cap2:Nat) (w:World) :
 CallsIn F n Tryz.prog 109 #[.slice a len cap,.slice b m cap2] w fun e w'=>e=.returned (.func (.func 142) #[] #[.pointer (some ⟨w.heap.size,0,none⟩),.pointer (some ⟨w.heap.size+1,0,none⟩)])/\w'=(w.alloc (.cells #[.slice a len cap] 22)).alloc (.cells #[.slice b m cap2] 51):=by
 refine callsIn_of_wp Tryz.func109 rfl h5 ?_ hro;simp only [Tryz.ntmps109,List.size_toArray,List.length_cons,List.length_nil,Nat.reduceAdd,Nat.reduceSub,Array.replicate_succ,Array.replicate_zero,List.push_toArray,List.append_toArray,List.nil_append,List.cons_append]
 gi_wp2
 go_ret;exact ⟨rfl,rfl⟩

theorem OE {F:Fence} {n:Nat} {w:World} {ops:Array Oper} {o:Oper} {act:Act} {K:Act->World->Prop} {Q:Exit->Act->World->Prop} {E:Prop} (hw:Region.wanted o (yielded ops act.tmps)=true) (x:Operand) (a:OAd) (k c:Nat)
 (ho:o.op=.buildSlice 29 1 #[(0,x)]) (hx:act.eval x=.slice a k c) (h:∀g w',w'.cell? ⟨g,0,none⟩=some (.slice a k c)->Below w.heap.size w w'->K (act.put o.dst (.slice (some ⟨g,0,none⟩) 1 1)) w') :
 if Region.wanted o (yielded ops act.tmps)=true then o.wpIn F n Tryz.prog act w K Q else E:=by
 rw [if_pos hw];unfold Oper.wpIn;refine ⟨by simp [Oper.about,ho],?_⟩;rw [Oper.semAt_plain F _ _ (by rw [ho];intro c hc;cases hc)];simp only [execOp,ho,List.map_toArray,List.map_cons,List.map_nil,hx];go_simp;exact h _ _ (by rw [World.cell?,han];rfl) ((Below.refl _ w).alloc lrf _)
theorem OG {F:Fence} {m:Nat} {w:World} {ops:Array Oper} {o:Oper} {act:Act} {K:Act->World->Prop} {Q:Exit->Act->World->Prop} {E:Prop} (hw:Region.wanted o (yielded ops act.tmps)=true) (s x:Operand)
 (ho:o.op=.call { callee:=.builtin .append,args:=#[s,x],argTypes:=#[29,29] }) (base:Nat) (v:Value) (n:Nat) (outs:List Wd) (hs:act.eval s=v)
 (hown:w.ownsRow base 51 1 v n (vals outs)) (g:Nat) (y:Wd) (hx:act.eval x=.slice (some ⟨g,0,none⟩) 1 1) (h0:w.cell? ⟨g,0,none⟩=some y.v)
 (N:Nat) (hN:n+1=N) (h63:N*24<=140737488355328) (hbase:base<=w.heap.size)
 (h:∀a' c' w',w'.ownsRow base 51 1 (.slice a' N c') N (vals (outs++[y]))->w.grownBy w' v.ownBlock->(a'=none->c'=0)->((Value.slice a' N c').ownBlock=v.ownBlock\/(Value.slice a' N c').ownBlock=some w.heap.size)->K (act.put o.dst (.slice a' N c')) w') :
 if Region.wanted o (yielded ops act.tmps)=true then o.wpIn F m Tryz.prog act w K Q else E:=by
 subst hN;rw [if_pos hw];obtain ⟨i0,hi,hz0,hz1,hz2⟩:=info_parts Dn
 have hnews:∀j u,(vals [y])[j]?=some u->w.cell? ((⟨g,0,none⟩:Addr).add j)=some u:=fun j u hj=>by
  match j,hj with
  | 0,hj=>simp [vals] at hj;rw [<-hj,<-h0];simp [Addr.add]
  | j+1,hj=>simp [vals] at hj
 obtain ⟨v',w',hrun,r1,r2,r3⟩:=run_append_own (P:=Tryz.prog) w base 29 o.type 51 i0 (.slice none 0 0) 1 24 Tryz.underlying29 hi hz0 hz1 hz2 rfl (by decide) v n (vals outs) hown ⟨g,0,none⟩ 1 1 (vals [y]) (by simp [vals]) hnews (Dp [y]) (by unfold maxLen;omega) omg hbase;have hwh:=ajq (P:=Tryz.prog) (w:=w) base 29 o.type 51 i0 (.slice none 0 0) 1 24 Tryz.underlying29 hi hz0 hz1 hz2 rfl (by decide) v n (vals outs) hown ⟨g,0,none⟩ 1 1 (vals [y]) (by simp [vals]) hnews (Dp [y]) (by unfold maxLen;omega) omg hbase v' w' hrun;obtain ⟨a',c',rfl,hnil⟩:=qI r1;unfold Oper.wpIn;refine ⟨?_,?_⟩
 ·simp [Oper.about,ho,resolve,Target.leads,Sem.run_pure]
 ·rw [Oper.semAt_plain F _ _ (by rw [ho];intro c hc';cases hc')];simp [execOp,ho,resolve,invoke,builtin,hs,hx,hrun,Result.andThen];exact h a' c' w' (by rw [II];exact r1) r2 hnil hwh
theorem JA:(51:TypeId)≠29:=by decide
theorem ajs:(3:TypeId)≠29:=by decide
theorem DY {w:World} {B:Nat} {e t:TypeId} {size n ob:Nat} {v u:Value} {l:List Value} (h:w.ownsRow B e size v n l) (hb:Boxed w ob t u) (hne:e≠t) {r:Nat} (hr:v.ownBlock=some r):r≠ob:=by
 intro e';subst e';obtain ⟨cur,hc⟩:=ng h hr;have hb':w.heap[r]?=some (.cells #[u] t (0,0)):=hb;rw [hc] at hb';simp only [sij,Obj.cells.injEq] at hb';exact hne hb'.2.1

def AZ (N ob B:Nat) (w:World) (pre:List Wd) (O:Nat->Prop) (X:World):Prop :=
 ∃(a:OAd) (c:Nat) (outs:List Wd),Boxed X ob 29 (.slice a pre.length c)/\Ml B X a pre.length c outs/\nums outs=nums pre/\pre.length<=N/\O ob/\Below B w X/\(∀r,(Value.slice a pre.length c).ownBlock=some r->O r)/\∀x∈outs,∀r,x.v.ownBlock=some r->O r
def JB (L:LLI) (N ob B:Nat) (w:World) (cc c:Code) (O:Nat->Prop) (X:World):Prop :=
 c=cc/\∃(a:OAd) (k:Nat) (outs:List Wd),Boxed X ob 29 (.slice a N k)/\Ml B X a N k outs/\nums outs=L.take N/\O ob/\Below B w X/\(∀r,(Value.slice a N k).ownBlock=some r->O r)/\∀x∈outs,∀r,x.v.ownBlock=some r->O r
theorem ajt {N ob B:Nat} {w:World} {pre:List Wd} {O:Nat->Prop} {X X':World} {base:Nat} (hB:B<=base) (hw:B<=w.heap.size) (h:AZ N ob B w pre O X) (hk:ae (fun k=>k<base\/O k) X X'):AZ N ob B w pre O X':=by
 obtain ⟨a,c,outs,h1,h2,h3,h4,h5,h6,h7,h8⟩:=h;exact ⟨a,c,outs,hk.boxed h1 (.inr h5),h2.keep hk (fun r e=>.inr (h7 r e)) (fun x hx r e=>.inr (h8 x hx r e)),h3,h4,h5,h6.trans (hk.below (Nat.le_trans hw h6.size) (fun k h=>.inl omg)),h7,h8⟩
theorem aju {L:LLI} {N ob B:Nat} {w:World} {cc c:Code} {O:Nat->Prop} {X X':World} {base:Nat} (hB:B<=base) (hw:B<=w.heap.size) (h:JB L N ob B w cc c O X) (hk:ae (fun k=>k<base\/O k) X X'):JB L N ob B w cc c O X':=by
 obtain ⟨hc,a,k,outs,h1,h2,h3,h5,h6,h7,h8⟩:=h;exact ⟨hc,a,k,outs,hk.boxed h1 (.inr h5),h2.keep hk (fun r e=>.inr (h7 r e)) (fun x hx r e=>.inr (h8 x hx r e)),h3,h5,h6.trans (hk.below (Nat.le_trans hw h6.size) (fun k h=>.inl omg)),h7,h8⟩

theorem ajv {l:List St} (hc:check l=true) (a b:OAd) (len cap m cap2:Nat) (xs:List Sw) (zs:LIn) (N:Nat) (hN:N<=300) (w:World) (hx:Ss w a len cap xs) (hxs:sts xs=l) (hz:Sl .i64 w b m cap2 zs) (hnil:b=none->cap2=0) :
 Calls Tryz.prog 63 #[.slice a len cap,.slice b m cap2,.int .i64 (N:Int)] w fun e w'=>∃a' k c' outs,e=.returned (.tuple #[.slice a' k c',.int .i64 0])/\Ml w.heap.size w' a' k c' outs/\nums outs=(ge l 0 zs).take N/\Below w.heap.size w w':=by
 refine (callsIn_wide (n:=20)).1 ?_;obtain ⟨F,hF⟩:∃F,F=Fence.wide:=⟨_,rfl⟩;have hfn:∀f,F.fn f:=by subst hF;exact fun _=>trivial
 have hro:F.round=none:=by subst hF;rfl
 have hd:F.depth=none:=by subst hF;rfl
 have aC:Hid (∀(k:Nat) (X:World),Ss X a len cap xs->CallsIn F k Tryz.prog 26 #[.slice a len cap] X fun e w'=>e=.returned (.bool true)/\Below X.heap.size X w'):=hdq fun k X h=>by subst hF;exact callsIn_wide.2 (uE a len cap xs true X h (by rw [hxs];exact hc))
 have jT:Hid (∀(k:Nat) (X:World) (x:Wd),wI x X->CallsIn F k Tryz.prog 71 #[x.v] X fun e w'=>∃a' c',e=.returned (.slice a' x.n c')/\w'.ownsRow X.heap.size 3 1 (.slice a' x.n c') x.n (ay x.zs)/\Below X.heap.size X w'):=hdq fun k X x h=>by subst hF;exact callsIn_wide.2 (IK x.a x.n x.cap x.zs X h.1 (fun e=>absurd e h.2.2) (by have:=h.2.1;omega))
 rw [<-hF];have hmx:Tryz.prog.follows .mixedOrders=true:=krf;have HX:=hdq hx;have HZ:=hdq hz;have Fy:=hdq hxs;have HC:=hdq hc;have EG:=hdq hF;have HB0:∀o,Hid (Below w.heap.size w (w.alloc o)):=fun o=>hdq ((Below.refl _ w).alloc lrf o);clear hx hz hxs hc hF;refine callsIn_of_wp_marks Tryz.func63 rfl (hfn _) ?_ hro;simp only [Tryz.ntmps63,List.size_toArray,List.length_cons,List.length_nil,Nat.reduceAdd,Nat.reduceSub,Array.replicate_succ,Array.replicate_zero,List.push_toArray,List.append_toArray,List.nil_append,List.cons_append];have hn0:decide ((N:Int)<0)=false:=decide_eq_false omg;have kN:decide ((N:Int)>300)=false:=decide_eq_false omg;have asH:¬(N:Int)<0:=omg;have asI:¬(300:Int)<(N:Int):=omg
 gi_wp2_with (first
  | (gi_at_call 26;refine (aC.out _ _ (HX.out.alloc _)).mono ?_;rintro e w1 ⟨rfl,hb1⟩;have hbn:w1.cell? ⟨w.heap.size,0,none⟩=some (.int .i64 (N:Int)):=(by rw [hb1.cell (p:=⟨w.heap.size,0,none⟩) smp];rw [af (han w _)];rfl);have HB1:=hdq hb1;clear hb1)
  | (gi_at_call 109;refine (ajr F _ (hfn _) hro _ _ _ _ _ _ _).mono ?_;rintro e w2 ⟨rfl,rfl⟩))
 obtain ⟨wz,hwz⟩:∃wz,wz=((w1.alloc (.cells #[.slice none 0 0] 29)).alloc (.cells #[.slice a len cap] 22)).alloc (.cells #[.slice b m cap2] 51):=⟨_,rfl⟩;have zz:wz.heap.size=w1.heap.size+1+1+1:=by rw [hwz];simp
 have hz1:w.heap.size+1<=w1.heap.size:=by have:=HB1.out.size;simpa using this
 have k1:∀S,ae S w1 wz:=fun S=>by rw [hwz];exact ((ae.alloc S w1 _).trans (ae.alloc S _ _)).trans (ae.alloc S _ _)
 have Km:Boxed wz w1.heap.size 29 (.slice none 0 0):=by
  rw [hwz];exact ((ae.alloc (fun _=>True) _ _).trans (ae.alloc (fun _=>True) _ _)).boxed (Boxed.new w1 29 (.slice none 0 0)) trivial
 have hc1:wz.cell? ⟨w1.heap.size+1,0,none⟩=some (.slice a len cap):=by
  have h:=han (w1.alloc (.cells #[.slice none 0 0] 29)) (.cells #[.slice a len cap] 22);rw [World.size_alloc] at h;rw [hwz,af ((ae.alloc (fun _=>True) _ _).heap h trivial)];rfl
 have hc2:wz.cell? ⟨w1.heap.size+1+1,0,none⟩=some (.slice b m cap2):=by
  have h:=han ((w1.alloc (.cells #[.slice none 0 0] 29)).alloc (.cells #[.slice a len cap] 22)) (.cells #[.slice b m cap2] 51);rw [World.size_alloc,World.size_alloc] at h;rw [hwz,af h];rfl
 have oN:Below w.heap.size w w1:=(HB0 _).out.trans (HB1.out.mono smp);have hbz:Below w1.heap.size w1 wz:=(k1 (fun _=>True)).below lrf (fun _ _=>trivial);have aat:Below w.heap.size w wz:=oN.trans (hbz.mono omg);have hzl:=HX.out.2.2.1;have HN:Hid (∀X,Below w1.heap.size w1 X->X.cell? ⟨w.heap.size,0,none⟩=some (.int .i64 (N:Int))):=hdq fun X h=>by rw [h.cell (p:=⟨w.heap.size,0,none⟩) (by show w.heap.size<w1.heap.size;omega)];exact hbn
 have aoA:=ajp F EG.out (20-1) HC.out a b len cap m cap2 xs zs w wz HX.out Fy.out HZ.out hnil (w1.heap.size+1) (w1.heap.size+1+1) (fun k=>k<wz.heap.size/\k≠w1.heap.size) (fun k hk=>⟨by omega,by omega⟩) ⟨by omega,by omega⟩ ⟨by omega,by omega⟩ (fun k hk=>hk.1) aat hc1 hc2;rw [<-hwz];have aau:=hdq oN;clear hwz aat hc1 hc2 hbn k1 oN
 refine OA hro (fun h=>by rw [hd] at h;cases h) (gf:=142) (lb:=#[.pointer (some ⟨w1.heap.size+1,0,none⟩),.pointer (some ⟨w1.heap.size+1+1,0,none⟩)]) rfl (hfn _) (enters_of Tryz.func142 krf rfl)
  aoA (fun x X b r o h hb=>h.put o hb) (ae.refl _ _) (fun k hk=>hk.1) (fun _=>rfl)
  (fun pre O X=>AZ N w1.heap.size w1.heap.size w1 pre O X) (fun c _ O X=>JB (fE l 0 zs) N w1.heap.size w1.heap.size w1 (.exit 0) c O X) (fun _ _ _ _ h hk=>ajt omg lrf h hk) (fun _ _ _ _ _ h hk=>aju omg lrf h hk)
  (fun k=>k=w1.heap.size) (by rintro k rfl;exact ⟨fun h=>h.2 rfl,by omega⟩)
  ⟨none,0,[],Km,Ml.start _ _,rfl,Nat.zero_le _,rfl,hbz,(fun r e=>by cases e),(fun x hx=>by cases hx)⟩
  (fun x=>{ tmps:=#[.slice a len cap,.slice b m cap2,.int .i64 (N:Int),undef,undef,.pointer (some ⟨w.heap.size,0,none⟩),.slice none 0 0,.int .i64 0,.pointer (some ⟨w1.heap.size,0,none⟩),x.v,.slice a len cap,.bool true,.bool false,.int .i64 (N:Int),.bool false,.bool false,.int .i64 (N:Int),.bool false,.bool false,.slice a len cap,.slice b m cap2,
   .func (.func 142) #[] #[.pointer (some ⟨w1.heap.size+1,0,none⟩),.pointer (some ⟨w1.heap.size+1+1,0,none⟩)],x.v,undef,undef,undef,undef,undef,undef,undef,undef,undef,undef],defers:=[] }) ?assign ?body ?done ?stop
 case assign =>
  intro l2 x X K' hK'
  gi_wp2
  exact hK'
 case body =>
  rintro l2 pre x O X hT hAt ⟨a',c',outs,h1,h2,h3,h4,h5,h6,h7,h8⟩ hlt hsz2;obtain ⟨⟨xa,xn,xc,xz⟩,hxe⟩:∃y,y=x:=⟨x,rfl⟩;have hco:=h1.cell;have hcn:=HN.out X h6;obtain ⟨k,hk⟩:∃k,k=pre.length:=⟨_,rfl⟩;rw [<-hk] at h1 h2 h4 h7 hco;have HT:=hdq hT;have HK:=hdq hk;have H1:=hdq h1;have H2:=hdq h2;have H3:=hdq h3;have H5:=hdq h5;have H6:=hdq h6;have H7:=hdq h7;have H8:=hdq h8;have hzX:wz.heap.size<=X.heap.size:=hsz2;by_cases hkN:k=N
  ·have hkb:((k:Int)==(N:Int))=true:=by simp [hkN]
   have vF:Hid (JB (fE l 0 zs) N w1.heap.size w1.heap.size w1 (.exit 0) (.exit 0) O X):=hdq (by
    rw [hkN] at h1 h2 h7;refine ⟨rfl,a',c',outs,h1,h2,?_,h5,h6,h7,h8⟩;rw [h3];have hp:=List.IsPrefix.trans (show nums pre <+: nums (pre++[x]) from by rw [nums_app];exact List.prefix_append _ _) hT;have:=List.prefix_iff_eq_take.1 hp;rw [nums_length,<-hk,hkN] at this
    exact this)
   clear hT hAt h1 h2 h3 h5 h6 h7 h8 hk hkN hxe
   gi_wp2
   exact ⟨O,ae.refl _ _,fun _ h=>.inl h,vF.out⟩
  ·have hkb:((k:Int)==(N:Int))=false:=by simp;omega
   have hkn:¬(k:Int)=(N:Int):=omg;have iG:=hdq (fun (m':Nat)=>(jT.out m' X.drew x ⟨hAt.1,hAt.2⟩).inRound l2)
   have qp:Hid (∀W,Below X.heap.size X W->W.heap[w1.heap.size]?=some (.cells #[.slice a' k c'] 29 (0,0))/\W.cell? ⟨w1.heap.size,0,none⟩=some (.slice a' k c')):=hdq fun W hW=>by
    have h:W.heap[w1.heap.size]?=_:=(hW.block w1.heap.size omg).trans h1;exact ⟨h,by rw [af h];rfl⟩
   have nG:Below X.heap.size X X.drew:=aG (Below.refl _ _) ⟨1,rfl⟩;have hcd:=(qp.out _ nG).2;have Ki:xn<=10000:=by have:=hAt.2.1;rw [<-hxe] at this;exact this
   have Ce:Hid (∀z∈xz,(Lit.int .i64 z).wf=true):=hdq (by have:=hAt.1.2.2.2.1;rw [<-hxe] at this;exact this);have dF:Hid (xz.length=xn):=hdq (by have:=hAt.1.1;rw [<-hxe] at this;exact this);rw [<-hxe] at iG;have fD:Hid (nums (pre++[x])=nums pre++[xz]):=hdq (by rw [nums_app,<-hxe];rfl);have hk1:(pre++[x]).length=k+1:=by rw [List.length_append,List.length_singleton,hk]
   have zQ:=hdq hk1;obtain ⟨FM,aav⟩:∃FM,FM=pre++[x]:=⟨_,rfl⟩;rw [<-aav] at fD zQ ⊢;subst hxe;have aO:∀f,(F.inRound l2).fn f:=hfn;have QV:k+1<=N:=omg;clear hT hAt h1 h2 h3 h5 h6 h7 h8 hk1 hk aav hkN HT
   gi_wp2
   refine uH (S:=(fun _=>True)) krf (by first|(trivial)|((try dsimp only);trivial)) (fun hHeld=>?_);refine t_f aO 1 ?_;refine Jl aO 0 2 (fun K hK=>?_) (fun K hK=>?_)
   ·go_simp;refine k_h hK (by trivial) (fun hHeld=>?_);clear hK K;refine r_f aO 2 (fun K hK=>?_);go_simp
    gi_at_call 71
    refine (iG.out _).mono ?_;rintro e w7 ⟨a7,c7,rfl,bH,iF⟩;have az:Below X.heap.size X w7:=nG.trans iF;have vg:=(qp.out _ az).2;have aU:=hdq bH;clear bH
    gi_wp2_with fail
    refine k_h hK (by trivial) (fun hHeld=>?_);clear hK K;refine r_f aO 3 (fun K hK=>?_);refine OE rfq (.tmp 29) a7 xn c7 rfq rfq ?_;intro gB wB hcB gK;have au:Below X.heap.size X wB:=az.trans (gK.mono az.size);have aaw:=(qp.out _ au).2;have aV:=hdq (ownsRow_below aU.out gK lrf);refine k_h hK (by trivial) (fun hHeld=>?_);clear hK K;refine r_f aO 4 (fun K hK=>?_);refine OG rfq (.tmp 27) (.tmp 30) rfq w1.heap.size (.slice a' k c') k outs rfq (H2.out.below au).row gB ⟨a7,xn,c7,xz⟩ rfq hcB (k+1) rfl omg (by have:=au.size;omega) ?_;intro a9 c9 w9 jG eP fO Cb;have rV:Boxed wB w1.heap.size 29 (.slice a' k c'):=(qp.out _ au).1;have nK:Boxed w9 w1.heap.size 29 (.slice a' k c'):=(eP.block w1.heap.size (by have:=au.size;omega) (fun e=>DY (H2.out.below au).row rV JA e.symm rfl)).trans rV;have hc9:w9.cell? ⟨w1.heap.size,0,none⟩=some (.slice a' k c'):=nK.cell;have xG:w9.frozen? ⟨w1.heap.size,0,none⟩=false:=nK.frozen;have vE:=(H2.out.below au).add ⟨a7,xn,c7,xz⟩ (lW aV.out (by show w1.heap.size<=X.heap.size;omega)) Ce.out dF.out jG eP fO
    have HE:Hid (AZ N w1.heap.size w1.heap.size w1 FM (fun q=>O q\/X.heap.size<=q/\q<(w9.setCell ⟨w1.heap.size,0,none⟩ (.slice a9 (k+1) c9)).heap.size) (w9.setCell ⟨w1.heap.size,0,none⟩ (.slice a9 (k+1) c9))/\ae (fun q=>¬O q) X (w9.setCell ⟨w1.heap.size,0,none⟩ (.slice a9 (k+1) c9))):=hdq (by
     have Cc:(w9.setCell ⟨w1.heap.size,0,none⟩ (.slice a9 (k+1) c9)).heap.size=w9.heap.size:=by simp [World.setCell]
     have hgs:=eP.size;have hbs:=au.size;have hks:ae (fun q=>q≠w1.heap.size) w9 (w9.setCell ⟨w1.heap.size,0,none⟩ (.slice a9 (k+1) c9)):=ae.setCell _ _ _ (fun h=>h rfl);have FN:ae (fun q=>¬O q) wB w9:=ae.of_grownBy eP fun r e=>fun h=>h (H7.out r e);refine ⟨⟨a9,c9,outs++[(⟨a7,xn,c7,xz⟩:Wd)],?_,?_,?_,by rw [zQ.out];exact QV,.inl H5.out,?_,?_,?_⟩,((ae.of_below au).mono fun q hq _=>hq).trans (FN.trans (ae.setCell _ _ _ (fun h=>h H5.out)))⟩
     ·exact z38
     ·exact z37
     ·rw [nums_app,H3.out,fD.out];rfl
     ·exact z35
     ·exact z36
     ·intro y hy r e;rcases map1 hy with hy|hy
      ·exact .inl (H8.out y hy r e)
      ·rw [msg hy] at e;have h:=aV.out.lt r e;exact .inr ⟨h.1,by rw [Cc];omega⟩)
    clear vE jG eP fO Cb rV nK;refine k_h hK (by trivial) (fun hHeld=>?_);clear hK K;refine r_f aO 5 (fun K hK=>?_);go_simp;refine k_h hK (by trivial) (fun hHeld=>?_);clear hK K;refine mo krf ?_ _;clear hHeld;exact ⟨_,HE.out.2,fun q h=>h,HE.out.1⟩
   ·go_simp
    gi_at_call 71
    refine (iG.out _).mono ?_;rintro e w7 ⟨a7,c7,rfl,bH,iF⟩;have az:Below X.heap.size X w7:=nG.trans iF;have vg:=(qp.out _ az).2;have aU:=hdq bH;clear bH
    gi_wp2_with fail
    refine k_h hK (by trivial) (fun hHeld=>?_);clear hK K;refine Jl aO 0 3 (fun K hK=>?_) (fun K hK=>?_)
    ·go_simp;refine k_h hK (by trivial) (fun hHeld=>?_);clear hK K;refine r_f aO 3 (fun K hK=>?_);refine OE rfq (.tmp 29) a7 xn c7 rfq rfq ?_;intro gB wB hcB gK;have au:Below X.heap.size X wB:=az.trans (gK.mono az.size);have aaw:=(qp.out _ au).2;have aV:=hdq (ownsRow_below aU.out gK lrf);refine k_h hK (by trivial) (fun hHeld=>?_);clear hK K;refine r_f aO 4 (fun K hK=>?_);refine OG rfq (.tmp 27) (.tmp 30) rfq w1.heap.size (.slice a' k c') k outs rfq (H2.out.below au).row gB ⟨a7,xn,c7,xz⟩ rfq hcB (k+1) rfl omg (by have:=au.size;omega) ?_;intro a9 c9 w9 jG eP fO Cb;have rV:Boxed wB w1.heap.size 29 (.slice a' k c'):=(qp.out _ au).1;have nK:Boxed w9 w1.heap.size 29 (.slice a' k c'):=(eP.block w1.heap.size (by have:=au.size;omega) (fun e=>DY (H2.out.below au).row rV JA e.symm rfl)).trans rV;have hc9:w9.cell? ⟨w1.heap.size,0,none⟩=some (.slice a' k c'):=nK.cell;have xG:w9.frozen? ⟨w1.heap.size,0,none⟩=false:=nK.frozen;have vE:=(H2.out.below au).add ⟨a7,xn,c7,xz⟩ (lW aV.out (by show w1.heap.size<=X.heap.size;omega)) Ce.out dF.out jG eP fO
     have HE:Hid (AZ N w1.heap.size w1.heap.size w1 FM (fun q=>O q\/X.heap.size<=q/\q<(w9.setCell ⟨w1.heap.size,0,none⟩ (.slice a9 (k+1) c9)).heap.size) (w9.setCell ⟨w1.heap.size,0,none⟩ (.slice a9 (k+1) c9))/\ae (fun q=>¬O q) X (w9.setCell ⟨w1.heap.size,0,none⟩ (.slice a9 (k+1) c9))):=hdq (by
      have Cc:(w9.setCell ⟨w1.heap.size,0,none⟩ (.slice a9 (k+1) c9)).heap.size=w9.heap.size:=by simp [World.setCell]
      have hgs:=eP.size;have hbs:=au.size;have hks:ae (fun q=>q≠w1.heap.size) w9 (w9.setCell ⟨w1.heap.size,0,none⟩ (.slice a9 (k+1) c9)):=ae.setCell _ _ _ (fun h=>h rfl);have FN:ae (fun q=>¬O q) wB w9:=ae.of_grownBy eP fun r e=>fun h=>h (H7.out r e);refine ⟨⟨a9,c9,outs++[(⟨a7,xn,c7,xz⟩:Wd)],?_,?_,?_,by rw [zQ.out];exact QV,.inl H5.out,?_,?_,?_⟩,((ae.of_below au).mono fun q hq _=>hq).trans (FN.trans (ae.setCell _ _ _ (fun h=>h H5.out)))⟩
      ·exact z38
      ·exact z37
      ·rw [nums_app,H3.out,fD.out];rfl
      ·exact z35
      ·exact z36
      ·intro y hy r e;rcases map1 hy with hy|hy
       ·exact .inl (H8.out y hy r e)
       ·rw [msg hy] at e;have h:=aV.out.lt r e;exact .inr ⟨h.1,by rw [Cc];omega⟩)
     clear vE jG eP fO Cb rV nK;refine k_h hK (by trivial) (fun hHeld=>?_);clear hK K;refine r_f aO 5 (fun K hK=>?_);go_simp;refine k_h hK (by trivial) (fun hHeld=>?_);clear hK K;refine mo krf ?_ _;clear hHeld;exact ⟨_,HE.out.2,fun q h=>h,HE.out.1⟩
    ·refine OE rfq (.tmp 29) a7 xn c7 rfq rfq ?_;intro gB wB hcB gK;have au:Below X.heap.size X wB:=az.trans (gK.mono az.size);have aaw:=(qp.out _ au).2;have aV:=hdq (ownsRow_below aU.out gK lrf);refine k_h hK (by trivial) (fun hHeld=>?_);clear hK K;refine r_f aO 0 (fun K hK=>?_);go_simp;refine k_h hK (by trivial) (fun hHeld=>?_);clear hK K;refine r_f aO 4 (fun K hK=>?_);refine OG rfq (.tmp 27) (.tmp 30) rfq w1.heap.size (.slice a' k c') k outs rfq (H2.out.below au).row gB ⟨a7,xn,c7,xz⟩ rfq hcB (k+1) rfl omg (by have:=au.size;omega) ?_;intro a9 c9 w9 jG eP fO Cb;have rV:Boxed wB w1.heap.size 29 (.slice a' k c'):=(qp.out _ au).1;have nK:Boxed w9 w1.heap.size 29 (.slice a' k c'):=(eP.block w1.heap.size (by have:=au.size;omega) (fun e=>DY (H2.out.below au).row rV JA e.symm rfl)).trans rV;have hc9:w9.cell? ⟨w1.heap.size,0,none⟩=some (.slice a' k c'):=nK.cell;have xG:w9.frozen? ⟨w1.heap.size,0,none⟩=false:=nK.frozen;have vE:=(H2.out.below au).add ⟨a7,xn,c7,xz⟩ (lW aV.out (by show w1.heap.size<=X.heap.size;omega)) Ce.out dF.out jG eP fO
     have HE:Hid (AZ N w1.heap.size w1.heap.size w1 FM (fun q=>O q\/X.heap.size<=q/\q<(w9.setCell ⟨w1.heap.size,0,none⟩ (.slice a9 (k+1) c9)).heap.size) (w9.setCell ⟨w1.heap.size,0,none⟩ (.slice a9 (k+1) c9))/\ae (fun q=>¬O q) X (w9.setCell ⟨w1.heap.size,0,none⟩ (.slice a9 (k+1) c9))):=hdq (by
      have Cc:(w9.setCell ⟨w1.heap.size,0,none⟩ (.slice a9 (k+1) c9)).heap.size=w9.heap.size:=by simp [World.setCell]
      have hgs:=eP.size;have hbs:=au.size;have hks:ae (fun q=>q≠w1.heap.size) w9 (w9.setCell ⟨w1.heap.size,0,none⟩ (.slice a9 (k+1) c9)):=ae.setCell _ _ _ (fun h=>h rfl);have FN:ae (fun q=>¬O q) wB w9:=ae.of_grownBy eP fun r e=>fun h=>h (H7.out r e);refine ⟨⟨a9,c9,outs++[(⟨a7,xn,c7,xz⟩:Wd)],?_,?_,?_,by rw [zQ.out];exact QV,.inl H5.out,?_,?_,?_⟩,((ae.of_below au).mono fun q hq _=>hq).trans (FN.trans (ae.setCell _ _ _ (fun h=>h H5.out)))⟩
      ·exact z38
      ·exact z37
      ·rw [nums_app,H3.out,fD.out];rfl
      ·exact z35
      ·exact z36
      ·intro y hy r e;rcases map1 hy with hy|hy
       ·exact .inl (H8.out y hy r e)
       ·rw [msg hy] at e;have h:=aV.out.lt r e;exact .inr ⟨h.1,by rw [Cc];omega⟩)
     clear vE jG eP fO Cb rV nK;refine k_h hK (by trivial) (fun hHeld=>?_);clear hK K;refine r_f aO 5 (fun K hK=>?_);go_simp;refine k_h hK (by trivial) (fun hHeld=>?_);clear hK K;refine mo krf ?_ _;clear hHeld;exact ⟨_,HE.out.2,fun q h=>h,HE.out.1⟩
 case done =>
  rintro D xsd O X hD ui KD ⟨a',c',outs,h1,h2,h3,h4,h5,h6,h7,h8⟩ hK;have hc:=h1.cell;have kD:ae O X (X.putObj D (.deferred none)):=ae.putObj _ _ _ ui;have h2':=h2.keep kD h7 h8;have hb':Below w1.heap.size w1 (X.putObj D (.deferred none)):=h6.trans ((ae.putObj (S:=fun k=>k<w1.heap.size) X D _ omg).below h6.size (fun _ h=>h))
  have aB:nums outs=(ge l 0 zs).take N:=by
   have hp:=(Od HC.out zs (i:=0) (by have:=(jo HC.out).1;omega)).take hN;rw [<-hp,h3,KD,tol];rw [<-KD,nums_length];exact h4
  have HR:=hdq (And.intro (h2'.lower (B':=w.heap.size) omg) (And.intro aB (aau.out.trans (hb'.mono omg))));clear h1 h2 h2' h3 h5 h6 h7 h8 kD hb' aB KD
  gi_wp2
  refine ⟨by simp,.inl ⟨_,_,rfl,run_takeDeferred hK,?_⟩⟩;exact ⟨_,results_tmp2 rfl _ _ _,a',xsd.length,c',outs,rfl,HR.out.1,HR.out.2.1,HR.out.2.2⟩
 case stop =>
  rintro D c pre O X hD ui-⟨rfl,a',c',outs,h1,h2,h3,h5,h6,h7,h8⟩ hK;have hc:=h1.cell;have kD:ae O X (X.putObj D (.deferred none)):=ae.putObj _ _ _ ui;have h2':=h2.keep kD h7 h8;have hb':Below w1.heap.size w1 (X.putObj D (.deferred none)):=h6.trans ((ae.putObj (S:=fun k=>k<w1.heap.size) X D _ omg).below h6.size (fun _ h=>h))
  have aB:nums outs=(ge l 0 zs).take N:=by
   have hp:=(Od HC.out zs (i:=0) (by have:=(jo HC.out).1;omega)).take hN;rw [<-hp,h3]
  have HR:=hdq (And.intro (h2'.lower (B':=w.heap.size) omg) (And.intro aB (aau.out.trans (hb'.mono omg))));clear h1 h2 h2' h3 h5 h6 h7 h8 kD hb' aB
  gi_wp2
  refine ⟨by simp,.inl ⟨_,_,rfl,run_takeDeferred hK,?_⟩⟩;exact ⟨_,results_tmp2 rfl _ _ _,a',N,c',outs,rfl,HR.out.1,HR.out.2.1,HR.out.2.2⟩

def JC (w:World) (L:LLI) (er:Int) (e:Ending) (w':World):Prop:=∃a' k c' outs,e=.returned (.tuple #[.slice a' k c',.int .i64 er])/\Ml w.heap.size w' a' k c' outs/\nums outs=L/\Below w.heap.size w w'
theorem ajw (a b:OAd) (len cap m cap2:Nat) (xs:List Sw) (zs:LIn) (n:Int) (w:World) (L:LLI) (er:Int) (hx:Ss w a len cap xs) (hz:Sl .i64 w b m cap2 zs) (hnil:b=none->cap2=0) (hr:lh (sts xs) zs n=(L,er)) :
 Calls Tryz.prog 63 #[.slice a len cap,.slice b m cap2,.int .i64 n] w fun e w'=>JC w L er e w':=by
 have HX:=hdq hx;cases hcc:check (sts xs)
 ·have hr0:L=[]/\er=100:=by unfold lh at hr;rw [if_pos hcc] at hr;cases hr;exact ⟨rfl,rfl⟩
  obtain ⟨rfl,rfl⟩:=hr0;have HB0:∀o,Hid (Below w.heap.size w (w.alloc o)):=fun o=>hdq ((Below.refl _ w).alloc lrf o);clear hx hr hz hnil;go_enter Tryz.func63,Tryz.ntmps63;go_wp2_with (go_at_call 26;refine (uE a len cap xs false _ (HX.out.alloc _) hcc).mono ?_;rintro e w1 ⟨rfl,hb1⟩);go_ret2;exact ⟨none,0,0,[],rfl,Ml.start _ _,rfl,(HB0 _).out.trans (hb1.mono smp)⟩
 ·by_cases hn0:n<0
  ·have hr0:L=[]/\er=1:=by unfold lh at hr;rw [if_neg (by rw [hcc];exact Bool.noConfusion),if_pos (.inl hn0)] at hr;cases hr;exact ⟨rfl,rfl⟩
   obtain ⟨rfl,rfl⟩:=hr0;have HB0:∀o,Hid (Below w.heap.size w (w.alloc o)):=fun o=>hdq ((Below.refl _ w).alloc lrf o);have hd:decide (n<0)=true:=decide_eq_true hn0;clear hx hr hz hnil;go_enter Tryz.func63,Tryz.ntmps63;go_wp2_with (go_at_call 26;refine (uE a len cap xs true _ (HX.out.alloc _) hcc).mono ?_;rintro e w1 ⟨rfl,hb1⟩;have hbn:w1.cell? ⟨w.heap.size,0,none⟩=some (.int .i64 n):=(by rw [hb1.cell (p:=⟨w.heap.size,0,none⟩) smp];rw [af (han w _)];rfl);have HB1:=hdq hb1;clear hb1);go_ret2;exact ⟨none,0,0,[],rfl,Ml.start _ _,rfl,(HB0 _).out.trans (HB1.out.mono smp)⟩
  ·by_cases kN:300<n
   ·have hr0:L=[]/\er=1:=by unfold lh at hr;rw [if_neg (by rw [hcc];exact Bool.noConfusion),if_pos (.inr kN)] at hr;cases hr;exact ⟨rfl,rfl⟩
    obtain ⟨rfl,rfl⟩:=hr0;have HB0:∀o,Hid (Below w.heap.size w (w.alloc o)):=fun o=>hdq ((Below.refl _ w).alloc lrf o);have hd:decide (n<0)=false:=decide_eq_false hn0;have hd3:decide (n>300)=true:=decide_eq_true kN;clear hx hr hz hnil;go_enter Tryz.func63,Tryz.ntmps63;go_wp2_with (go_at_call 26;refine (uE a len cap xs true _ (HX.out.alloc _) hcc).mono ?_;rintro e w1 ⟨rfl,hb1⟩;have hbn:w1.cell? ⟨w.heap.size,0,none⟩=some (.int .i64 n):=(by rw [hb1.cell (p:=⟨w.heap.size,0,none⟩) smp];rw [af (han w _)];rfl);have HB1:=hdq hb1;clear hb1);go_ret2;exact ⟨none,0,0,[],rfl,Ml.start _ _,rfl,(HB0 _).out.trans (HB1.out.mono smp)⟩
   ·obtain ⟨N,rfl⟩:∃N:Nat,n=(N:Int):=⟨n.toNat,by omega⟩;have hr0:L=(ge (sts xs) 0 zs).take N/\er=0:=by unfold lh at hr;rw [if_neg (by rw [hcc];exact Bool.noConfusion),if_neg omg,Int.toNat_natCast] at hr;cases hr;exact ⟨rfl,rfl⟩
    obtain ⟨rfl,rfl⟩:=hr0;exact ajv hcc a b len cap m cap2 xs zs N omg w hx rfl hz hnil
theorem ajx {l:List St} (h:(wds l 0).length<=300\/check l=false):lh l [] 300=kE l:=by
 unfold lh kE;cases hc:check l
 ·rfl
 ·rcases h with h|h
  ·rw [if_neg smp,if_neg omg,if_neg smp,if_neg omg,Oa,show (300:Int).toNat=300 from rfl,tol omg]
  ·rw [hc] at h;cases h
theorem ajy (a:OAd) (len cap:Nat) (xs:List Sw) (w:World) (L:LLI) (er:Int) (hx:Ss w a len cap xs) (hr:kE (sts xs)=(L,er)) :
 Calls Tryz.prog 28 #[.slice a len cap] w fun e w'=>JC w L er e w':=by
 have HX:=hdq hx;by_cases hm:check (sts xs)=true/\300<(wds (sts xs) 0).length
 ·have hr0:L=[]/\er=81:=by unfold kE at hr;rw [if_neg (by rw [hm.1];exact Bool.noConfusion),if_pos hm.2] at hr;cases hr;exact ⟨rfl,rfl⟩
  obtain ⟨rfl,rfl⟩:=hr0;have hmc:dK (sts xs)=301:=by unfold dK;rw [if_pos hm.1];unfold mny;omega
  clear hx hr hm;go_enter Tryz.func28,Tryz.ntmps28;go_wp2_with (go_at_call 62;refine (Ot a len cap xs _ 301 HX.out hmc).mono ?_;rintro e w1 ⟨rfl,hb1⟩);go_ret2;exact ⟨none,0,0,[],rfl,Ml.start _ _,rfl,hb1⟩
 ·have hmc:dK (sts xs)<=300:=by
   unfold dK;split
   ·rename_i h;unfold mny;have:¬300<(wds (sts xs) 0).length:=fun h'=>hm ⟨h,h'⟩;omega
   ·omega
  have hfr:lh (sts xs) [] 300=(L,er):=by
   rw [ajx,hr];cases hcc:check (sts xs)
   ·exact .inr rfl
   ·exact .inl (by have:¬300<(wds (sts xs) 0).length:=fun h'=>hm ⟨hcc,h'⟩;omega)
  obtain ⟨r,hr1⟩:∃r,dK (sts xs)=r:=⟨_,rfl⟩;rw [hr1] at hmc;have hng:¬(300:Int)<(r:Int):=omg;have hdg:decide ((r:Int)>300)=false:=decide_eq_false omg;clear hx hr hm hmc;go_enter Tryz.func28,Tryz.ntmps28
  go_wp2_with (first
   | (go_at_call 62;refine (Ot a len cap xs _ r HX.out hr1).mono ?_;rintro e w1 ⟨rfl,hb1⟩)
   | (go_at_call 63;refine (ajw a none len cap 0 0 xs [] 300 w1 L er (HX.out.below hb1 lrf) Sl.nil (fun _=>rfl) hfr).mono ?_;rintro e w2 ⟨a',k,c',outs,rfl,h1,h2,h3⟩))
  go_ret2;exact ⟨a',k,c',outs,rfl,h1.lower hb1.size,h2,hb1.trans (h3.mono hb1.size)⟩
end
end Go.Proofs.YtkiamgcpcneggaaGreat
