import Derived.Test.YtkiamgcpcneggaaGreatPackF
import Derived.Test.YtkiamgcpcneggaaGreatPackT
set_option linter.all false
set_option maxRecDepth 100000
set_option maxHeartbeats 12800000
namespace Go.Proofs.YtkiamgcpcneggaaGreat
section
open Go.RowKit
theorem Sl.keep {k:IntKind} {S:Nat->Prop} {w w':World} {a:OAd} {n cap:Nat} {zs:LIn} (h:Sl k w a n cap zs) (hk:ae S w w') (hs:∀b off,a=some ⟨b,off,none⟩->S b):Sl k w' a n cap zs:=by
 obtain ⟨h1,h2,h3,h4,h5⟩:=h;refine ⟨h1,h2,h3,h4,?_⟩;rcases h5 with h5|⟨b,off,ha,hc⟩
 ·exact .inl h5
 ·exact .inr ⟨b,off,ha,fun i hi=>hk.cell (hc i hi) (hs b off ha)⟩
theorem tC {S:Nat->Prop} {w w':World} {base:Nat} {e:TypeId} {size:Nat} {v:Value} {k:Nat} {xs:List Value} (h:w.ownsRow base e size v k xs) (hk:ae S w w') (hs:∀r,v.ownBlock=some r->S r):w'.ownsRow base e size v k xs:=by
 refine ⟨h.1,?_⟩;rcases h.2 with hn|⟨g,cap,cur,rfl,hb,hgg,rest⟩
 ·exact .inl hn
 ·exact .inr ⟨g,cap,cur,rfl,hb,hk.heap hgg (hs g rfl),rest⟩
end
section
open Go.RowKit Go.Shelf Tri
attribute [local go_sem] Oper.semAt_some

def aiD {α:Type} (F:Fence) (n:Nat) (P:Program) (g:Nat) (lb:Array Value) (encs:α->Array Value) (Rd:Nat->Prop) (T S Sp:List α->Prop) (N:Nat) (w:World):Prop :=
 ∀(l:Nat) (J Jx:List α->(Nat->Prop)->World->Prop) (O:Nat->Prop) (W:World),ae Rd w W->(∀k,O k->¬Rd k/\k<W.heap.size)->Stable W.heap.size J->Stable W.heap.size Jx ->
  (∀pre x O W1,T (pre++[x])->J pre O W1->pre.length<N->YieldAt F (n-1) P l (encs x) W1 (NL J Jx (pre++[x]) O W1)) ->
  J [] O W ->
  CallsIn F n P g (#[.func (.yield l) #[] #[]]++lb) W fun e W'=>(∃v,e=.returned v)/\∃O',(∃xs,S xs/\J xs O' W')\/(∃pre,Sp pre/\Jx pre O' W')

theorem Oh {F:Fence} {n:Nat} {P:Program} {α:Type} {g:Operand} {ps:Array Tmp} {assign body:Code} {Q:Exit->Act->World->Prop} {a:Act} {w:World}
 (hro:F.round=none) (h1:F.depth.isSome=true->1<=n) {gf:Nat} {lb:Array Value} (hg:a.eval g=.func (.func gf) #[] lb) (hFg:F.fn gf) (eg:∀args w,(callFunc gf args).run P w=.ok (.enter gf args) w)
 {encs:α->Array Value} {Rd:Nat->Prop} {T S Sp:List α->Prop} {N:Nat} {w0:World} (hseq:aiD F (n-1) P gf lb encs Rd T S Sp N w0) (hw0:ae Rd w0 w) (EP:∀k,Rd k->k<w0.heap.size) (hps:∀x,(encs x).size=ps.size)
 (I:List α->(Nat->Prop)->World->Prop) (Ix:Code->List α->(Nat->Prop)->World->Prop) (hI:Stable w.heap.size I) (hIx:∀c,Stable w.heap.size (Ix c))
 (O:Nat->Prop) (hO:∀k,O k->¬Rd k/\k<w.heap.size) (h0:I [] O w) (a₁:α->Nat->Act) (ox:α->Obj)
 (hassign:∀(l:Nat) (x:α) (W:World) (K:Act->World->Prop),K (a₁ x W.heap.size) (W.alloc (ox x)) ->
  assign.wpIn (F.inRound l) (n-1-1) P (Exit.then K (fun _ _ _=>False)) { tmps:=(ps.zip (encs x)).foldl (fun t (p,v)=>t.setIfInBounds p v) a.tmps,defers:=[] } W)
 (hbody:∀(l:Nat) (pre:List α) (x:α) (O:Nat->Prop) (W:World) (bx:Nat),T (pre++[x])->I pre O W->pre.length<N->w.heap.size<=W.heap.size->W.heap[bx]?=some (ox x)->body.wpIn (F.inRound l) (n-1-1) P (aid I Ix (pre++[x]) O W) (a₁ x bx) W)
 (hdone:∀(D:Nat) (xs:List α) (O:Nat->Prop) (W:World),w.heap.size<=D->¬O D->S xs->I xs O W->W.heap[D]?=some (.deferred (some []))->Q .normal { a with defers:={ target:=.collected D,args:=#[] }::a.defers } W)
 (hstop:∀(D:Nat) (c:Code) (pre:List α) (O:Nat->Prop) (W:World),w.heap.size<=D->¬O D->Sp pre->Ix c pre O W->W.heap[D]?=some (.deferred (some []))->c.wpIn F n P Q { a with defers:={ target:=.collected D,args:=#[] }::a.defers } W) :
 (Code.rangeFunc g ps assign body).wpIn F n P Q a w:=by
 refine wpIn_rangeFunc fun fn hfn=>?_;rw [hro];obtain ⟨D,hD⟩:∃D,D=w.heap.size:=⟨_,rfl⟩;obtain ⟨rec,hrec⟩:∃rec:LoopState->Option Code->Loop,rec=fun st pe=>{ state:=st,pending:=pe,fn,tmps:=a.tmps,params:=ps,assign,body,defers:=w.heap.size }:=⟨_,rfl⟩;obtain ⟨W1,hW1⟩:∃W1,W1=(w.alloc (.deferred (some []))).alloc (.loop (rec .ready none)):=⟨_,rfl⟩;have hz:W1.heap.size=D+2:=by rw [hW1,hD];simp
 have hk:∀T,ae T w W1:=fun T=>by rw [hW1];exact (ae.alloc T w _).trans (ae.alloc T _ _)
 have hL:W1.heap[D+1]?=some (.loop (rec .ready none)):=by
  rw [hW1,hD];have:=World.alloc_heap_new (w.alloc (.deferred (some []))) (.loop (rec .ready none));rwa [World.size_alloc] at this
 have Ql:W1.heap[D]?=some (.deferred (some [])):=by
  rw [hW1,hD];exact (Below.heap_alloc _ _ _ smp).trans (World.alloc_heap_new w _)
 have Qm:¬O D:=fun h=>by have:=(hO D h).2;omega
 have hLO:¬O (D+1):=fun h=>by have:=(hO _ h).2;omega
 refine ⟨D+1,[{ target:=.collected D,args:=#[] }],W1,{ target:=.fn (.func gf) lb,args:=#[.func (.yield (D+1)) #[] #[]] },W1,gf,#[.func (.yield (D+1)) #[] #[]]++lb,W1,?_,?_,?_,?_,h1,?_⟩
 ·rw [hW1,hrec,hD];exact run_enterLoop_outer _ _ _ _ _
 ·simp only [resolve,hg];simp [go_sem]
 ·intro f' hf';simp [Target.leads] at hf';subst hf';exact hFg
 ·simp [invoke,go_sem,eg]
 ·
  refine (hseq (D+1)
   (fun pre U W=>∃O,(∀k,U k↔O k\/k=D\/k=D+1)/\¬O D/\¬O (D+1)/\I pre O W/\W.heap[D+1]?=some (.loop (rec .ready none))/\W.heap[D]?=some (.deferred (some [])))
   (fun pre U W=>∃O c,(∀k,U k↔O k\/k=D\/k=D+1)/\¬O D/\¬O (D+1)/\Ix c pre O W/\W.heap[D+1]?=some (.loop (rec .done (some c)))/\W.heap[D]?=some (.deferred (some [])))
   (fun k=>O k\/k=D\/k=D+1) W1 (hw0.trans (hk _)) ?_ ?_ ?_ ?_ ⟨O,fun k=>Iff.rfl,Qm,hLO,hI _ _ _ _ h0 (hk _),hL,Ql⟩).mono ?_
  ·rintro k (h|rfl|rfl)
   ·exact ⟨(hO k h).1,by have:=(hO k h).2;omega⟩
   ·exact ⟨fun h=>by have:=EP _ h;have:=hw0.size;omega,by omega⟩
   ·exact ⟨fun h=>by have:=EP _ h;have:=hw0.size;omega,by omega⟩
  ·rintro pre U A B ⟨O,hU,hd,hl,hi,h3,h4⟩ mM;exact ⟨O,hU,hd,hl,hI _ _ _ _ hi (mM.mono fun k _ hk=>hk.elim (fun hk=>.inl omg) (fun hk=>.inr ((hU k).2 (.inl hk)))),mM.heap h3 (.inl omg),mM.heap h4 (.inl omg)⟩
  ·rintro pre U A B ⟨O,c,hU,hd,hl,hi,h3,h4⟩ mM;exact ⟨O,c,hU,hd,hl,hIx c _ _ _ _ hi (mM.mono fun k _ hk=>hk.elim (fun hk=>.inl omg) (fun hk=>.inr ((hU k).2 (.inl hk)))),mM.heap h3 (.inl omg),mM.heap h4 (.inl omg)⟩
  ·
   rintro pre x U Wo hT ⟨O,hU,hd,hl,hio,Qn,h4o⟩ hlen;have asw:D+1<Wo.heap.size:=(hltq Qn);have hy:=run_yield (P:=P) (args:=encs x) Qn (by rw [hrec];exact hps x);rw [hrec] at hy;obtain ⟨W,hWd⟩:∃W,W=Wo.alloc (ox x):=⟨_,rfl⟩;have hko:∀T,ae T Wo W:=fun T=>by rw [hWd];exact ae.alloc T Wo _
   have hzo:W.heap.size=Wo.heap.size+1:=by rw [hWd];simp
   have h3:W.heap[D+1]?=some (.loop (rec .ready none)):=(hko (fun _=>True)).heap Qn trivial;have h4:W.heap[D]?=some (.deferred (some [])):=(hko (fun _=>True)).heap h4o trivial;have hxo:W.heap[Wo.heap.size]?=some (ox x):=by rw [hWd];exact World.alloc_heap_new Wo _
   have hi:I pre O W:=hI _ _ _ _ hio (hko _);have hlt:D+1<W.heap.size:=omg;refine ⟨fn,_,assign,body,hy,roundIn_of_wpIn hfn (hassign _ x Wo _ ?_)⟩;rw [<-hWd];refine ⟨_,run_beginRound h3 (by rw [hrec]),?_⟩;clear hy;obtain ⟨W2,hW2⟩:∃W2,W2=W.putObj (D+1) (.loop { rec .ready none with state:=.busy }):=⟨_,rfl⟩;have h3':W2.heap[D+1]?=some (.loop { rec .ready none with state:=.busy }):=by rw [hW2];exact World.putObj_heap_same hlt
   have h4':W2.heap[D]?=some (.deferred (some [])):=by rw [hW2];exact (World.putObj_heap_other omg).trans h4
   have hz2:W2.heap.size=W.heap.size:=by rw [hW2];simp
   have hk2:∀T:Nat->Prop,¬T (D+1)->ae T W W2:=fun T hT=>by rw [hW2];exact ae.putObj _ _ _ hT
   have hi2:I pre O W2:=hI _ _ _ _ hi (hk2 _ (by rintro (h|h);omega;exact hl h));rw [<-hW2];have hx2:W2.heap[Wo.heap.size]?=some (ox x):=by rw [hW2];exact (World.putObj_heap_other omg).trans hxo
   refine wpIn_mono (hbody _ pre x O W2 Wo.heap.size hT hi2 hlen omg hx2) ?_
   have fin:∀(jump:Option Code) (W3:World) (O':Nat->Prop),ae (fun k=>¬O k) W2 W3->(∀k,O' k->O k\/W2.heap.size<=k) ->
    (Instr.endRound (D+1) jump).run P W3=.ok (.bool jump.isNone) (W3.putObj (D+1) (.loop (rec (if jump.isNone then .ready else .done) jump))) /\
    (W3.putObj (D+1) (.loop (rec (if jump.isNone then .ready else .done) jump))).heap[D+1]?=some (.loop (rec (if jump.isNone then .ready else .done) jump)) /\
    (W3.putObj (D+1) (.loop (rec (if jump.isNone then .ready else .done) jump))).heap[D]?=some (.deferred (some [])) /\
    ae (fun k=>¬U k) Wo (W3.putObj (D+1) (.loop (rec (if jump.isNone then .ready else .done) jump))) /\
    (∀k,(O' k\/k=D\/k=D+1)->U k\/Wo.heap.size<=k)/\¬O' D/\¬O' (D+1) /\
    (∀o,ae (fun k=>k<w.heap.size\/O' k) W3 (W3.putObj (D+1) o)):=by
    intro jump W3 O' hk3 ho3;have hl3:=hk3.heap h3' hl;have hd3:=hk3.heap h4' hd;have hrun:=run_endRound (P:=P) jump hl3;have Qo:¬O' D:=fun h=>(ho3 _ h).elim hd omg;have ER:¬O' (D+1):=fun h=>(ho3 _ h).elim hl omg;refine ⟨by rw [hrec] at hrun ⊢;exact hrun,World.putObj_heap_same (hltq hl3),(World.putObj_heap_other omg).trans hd3,?_,?_,Qo,ER,?_⟩
    ·refine (((hko _).trans (hk2 _ (fun h=>h ((hU _).2 (.inr (.inr rfl)))))).trans (hk3.mono fun k _ h hk=>h ((hU k).2 (.inl hk)))).trans (ae.putObj _ _ _ (fun h=>h ((hU _).2 (.inr (.inr rfl)))))
    ·rintro k (h|rfl|rfl)
     ·rcases ho3 _ h with h|h
      ·exact .inl ((hU k).2 (.inl h))
      ·exact .inr omg
     ·exact .inl ((hU _).2 (.inr (.inl rfl)))
     ·exact .inl ((hU _).2 (.inr (.inr rfl)))
    ·intro o;exact ae.putObj _ _ _ (by rintro (h|h);omega;exact ER h)
   rintro e a3 W3 hp
   cases e with
   | normal =>
     obtain ⟨O',hk3,ho3,hi3⟩:=hp;obtain ⟨hr,e3,e4,ek,eo,ed,el,es⟩:=fin none W3 O' hk3 ho3;exact ⟨_,_,hr,_,ek,eo,.inl ⟨rfl,O',fun k=>Iff.rfl,ed,el,hI _ _ _ _ hi3 (es _),e3,e4⟩⟩
   | ret =>
     obtain ⟨O',hk3,ho3,hi3⟩:=hp;obtain ⟨hr,e3,e4,ek,eo,ed,el,es⟩:=fin (some .ret) W3 O' hk3 ho3;exact ⟨_,_,hr,_,ek,eo,.inr ⟨rfl,O',_,fun k=>Iff.rfl,ed,el,hIx _ _ _ _ _ hi3 (es _),e3,e4⟩⟩
   | exit id =>
     obtain ⟨O',hk3,ho3,hi3⟩:=hp;obtain ⟨hr,e3,e4,ek,eo,ed,el,es⟩:=fin (some (.exit id)) W3 O' hk3 ho3;exact ⟨_,_,hr,_,ek,eo,.inr ⟨rfl,O',_,fun k=>Iff.rfl,ed,el,hIx _ _ _ _ _ hi3 (es _),e3,e4⟩⟩
   | goto t =>
     obtain ⟨O',hk3,ho3,hi3⟩:=hp;obtain ⟨hr,e3,e4,ek,eo,ed,el,es⟩:=fin (some (.goto t)) W3 O' hk3 ho3;exact ⟨_,_,hr,_,ek,eo,.inr ⟨rfl,O',_,fun k=>Iff.rfl,ed,el,hIx _ _ _ _ _ hi3 (es _),e3,e4⟩⟩
   | panic ch=>exact hp.elim
   | outgrown=>exact hp.elim
  ·
   rintro e W2 ⟨⟨v,rfl⟩,U,(⟨xs,hS,O,hU,hd,hl,hi,h3,h4⟩|⟨pre,hSp,O,c,hU,hd,hl,hi,h3,h4⟩)⟩
   ·have he:=run_endLoop (P:=P) h3 (by rw [hrec];simp);rw [hrec] at he;exact ⟨none,_,he,hdone D xs O _ omg hd hS (hI _ _ _ _ hi (ae.putObj _ _ _ (by rintro (h|h);omega;exact hl h))) ((World.putObj_heap_other omg).trans h4)⟩
   ·have he:=run_endLoop (P:=P) h3 (by rw [hrec];simp);rw [hrec] at he;exact ⟨some c,_,he,hstop D c pre O _ omg hd hSp (hIx c _ _ _ _ hi (ae.putObj _ _ _ (by rintro (h|h);omega;exact hl h))) ((World.putObj_heap_other omg).trans h4)⟩


abbrev Bp (ys:List Sw):={ x:Nat × Sw // x.1<ys.length/\ys.getD x.1 Sw.no=x.2 }
def nZ (ys:List Sw) (l:List (Bp ys)):Prop:=∀j,∀h:j<l.length,(l[j]).1.1+j+1=ys.length
theorem nZ.add {ys:List Sw} {l:List (Bp ys)} (h:nZ ys l) (x:Bp ys) (hx:x.1.1+l.length+1=ys.length):nZ ys (l++[x]):=by
 intro j hj;by_cases hl:j<l.length
 ·rw [List.getElem_append_left hl];exact h j hl
 ·have:j=l.length:=by simp at hj;omega
  subst this;simpa using hx
def bpv {ys:List Sw} (x:Bp ys):Array Value:=#[.int .i64 (x.1.1:Int),.agg #[.bool x.1.2.fin,.slice x.1.2.a x.1.2.n x.1.2.cap]]
theorem Oi (F:Fence) (n:Nat) (h7:F.fn 148) (hro:F.round=none) (hn:1<=n) (l B1:Nat) (a:OAd) (len cap:Nat) (ys:List Sw) (W0:World) (hs:Ss W0 a len cap ys) (hlm:len<=1000000)
 (J Jx:List (Bp ys)->(Nat->Prop)->World->Prop)
 (hY:∀pre x O W,nZ ys (pre++[x])->J pre O W->pre.length<len->YieldAt F (n-1) Tryz.prog l (bpv x) W (NL J Jx (pre++[x]) O W))
 (Rd:Nat->Prop) (hR0:∀k,k<W0.heap.size->Rd k) (uh:Rd B1)
 (O:Nat->Prop) (W:World) (zA:∀k,Rd k->k<W.heap.size) (hO:∀k,O k->¬Rd k)
 (hb:Below W0.heap.size W0 W) (c1:W.cell? ⟨B1,0,none⟩=some (.slice a len cap)) (h0:J [] O W) :
 CallsIn F n Tryz.prog 148 #[.func (.yield l) #[] #[],.pointer (some ⟨B1,0,none⟩)] W fun e W'=>(∃v,e=.returned v) /\
  ∃O',(∃xs:List (Bp ys),(nZ ys xs/\xs.length=len)/\J xs O' W')\/(∃pre,True/\Jx pre O' W'):=by
 have hstep:∀(O1 O3:Nat->Prop) (A B:World),ae Rd W A->(∀k,O1 k->¬Rd k)->ae (fun k=>¬O1 k) A B->(∀k,O3 k->O1 k\/A.heap.size<=k)->ae Rd W B/\(∀k,O3 k->¬Rd k):=by
  intro O1 O3 A B hA h1 hB h3;refine ⟨hA.trans (hB.mono fun k _ hr ho=>h1 k ho hr),fun k hk hr=>?_⟩;rcases h3 k hk with h|h
  ·exact h1 k h hr
  ·have:=zA k hr;have:=hA.size;omega
 have hnc:=hs.2.1;have hcm:=hs.2.2.1;unfold maxLen at hcm;have HS:=hdq hs;have iR:Hid (ys.length=len):=hdq hs.1;have HY:=hdq hY;have oM:=hdq hR0;have HR1:=hdq uh;have HB:=hdq hb;have zB:=hdq hstep;clear hs hY hR0 uh hb zA hstep;refine callsIn_of_wp Tryz.func148 rfl h7 ?_ hro;simp only [Tryz.ntmps148,List.size_toArray,List.length_cons,List.length_nil,Nat.reduceAdd,Nat.reduceSub,Array.replicate_succ,Array.replicate_zero,List.push_toArray,List.append_toArray,List.nil_append,List.cons_append]
 gi_wp2
 gi_loopw [3] (fun ix wr=>∃(i:Nat) (pre:List (Bp ys)) (O1:Nat->Prop),i<=len/\pre.length+i=len/\ix=.int .i64 ((i:Int)-1)/\Hid (nZ ys pre)/\Hid (J pre O1 wr)/\Hid (ae Rd W wr)/\Hid (∀k,O1 k->¬Rd k)) (fun ix _=>(intOf ix+1).toNat)
 case atStart=>exact ⟨len,[],O,Nat.le_refl _,by simp,by go_num,(by intro j hj;simp at hj),h0,ae.refl _ _,hO⟩
 case round =>
  obtain ⟨i',pre,O1,hil,hpl,rfl,ES,HJ,HK,gV⟩:=hrel;have hk1:=HK.out.cell c1 HR1.out;have hbw:Below W0.heap.size W0 wr:=HB.out.trans (HK.out.below HB.out.size oM.out);by_cases hpos:0<i'
  ·obtain ⟨i,rfl⟩:∃i,i'=i+1:=⟨i'-1,by omega⟩;obtain ⟨b,o,f,xa,xn,xc,arcs,rfl,hb1,hc0,hc1,bS,hz⟩:=(HS.out.below hbw lrf).one i omg;have hi1:((i+1:Nat):Int)-1=(i:Int):=omg;rw [hi1];have hi0:(0:Int)<=(i:Int):=omg;have anR:(i:Int)<(len:Int):=omg;obtain ⟨x,hxe⟩:∃x:Bp ys,x.1=(i,⟨f,xa,xn,xc,arcs⟩):=⟨⟨(i,⟨f,xa,xn,xc,arcs⟩),by show i<ys.length;rw [iR.out];omega,hz⟩,rfl⟩;have hbk:nZ ys (pre++[x]):=ES.out.add x (by rw [hxe,iR.out];show i+pre.length+1=len;omega);have hxv:bpv x=#[.int .i64 (i:Int),.agg #[.bool f,.slice xa xn xc]]:=by unfold bpv;rw [hxe]
   obtain ⟨fn,tmps,assign,body,hy,hR⟩:=HY.out pre x O1 wr hbk HJ.out omg;rw [hxv] at hy;have Qp:=hdq hbk;clear bS hz hxe hxv hbk hb1
   gi_wp2
   refine hR.mono ?_;rintro e W3 ⟨O3,hk3,ho3,(⟨rfl,hJ3⟩|⟨rfl,hJx3⟩)⟩;all_goals have hst:=zB.out O1 O3 _ _ HK.out gV.out hk3 ho3
   ·gi_wp2
    go_roundw
    case rel=>exact ⟨i,pre++[x],O3,by omega,by simp;omega,by go_num,Qp.out,hJ3,hst.1,hst.2⟩
    case measure=>simp [intOf]
   ·gi_wp2
    refine bodyPost_ret (results_none rfl _ _ _) rfl ?_;exact ⟨⟨_,rfl⟩,O3,.inr ⟨pre++[x],trivial,hJx3⟩⟩
  ·obtain rfl:i'=0:=omg
   gi_wp2
   go_end0;exact ⟨⟨_,rfl⟩,O1,.inl ⟨pre,⟨ES.out,by omega⟩,HJ.out⟩⟩
theorem Oj (F:Fence) (n:Nat) (h5:F.fn 112) (hro:F.round=none) (a:OAd) (len cap:Nat) (w:World) :
 CallsIn F n Tryz.prog 112 #[.slice a len cap] w fun e w'=>e=.returned (.func (.func 148) #[] #[.pointer (some ⟨w.heap.size,0,none⟩)])/\w'=w.alloc (.cells #[.slice a len cap] 22):=by
 refine callsIn_of_wp Tryz.func112 rfl h5 ?_ hro;simp only [Tryz.ntmps112,List.size_toArray,List.length_cons,List.length_nil,Nat.reduceAdd,Nat.reduceSub,Array.replicate_succ,Array.replicate_zero,List.push_toArray,List.append_toArray,List.nil_append,List.cons_append]
 gi_wp2
 go_ret;exact ⟨rfl,rfl⟩
end
end Go.Proofs.YtkiamgcpcneggaaGreat
