import Derived.Deep.RegionHeld3
import Derived.Test.YtkiamgcpcneggaaGreatPackF
set_option linter.all false
set_option maxRecDepth 100000
set_option maxHeartbeats 12800000
namespace Go.Proofs.YtkiamgcpcneggaaGreat
section
open Go

section
variable {F:Fence} {n:Nat} {P:Program} {ops:Array Oper} {Q:Exit->Act->World->Prop} {md:Region.Mode} {S:World->Prop}

def yJ (ops:Array Oper):Bool:=ops.toList.all fun o=>match o.op with
 | .defer _=>false
 | _=>true
theorem WH (h:yJ ops=true) {j:Nat} {o:Oper} (ho:ops[j]?=some o):∀c,o.op≠.defer c:=by
 intro c hc
 have hm:o∈ops.toList:=by
  obtain ⟨hj,e⟩:=Array.getElem?_eq_some_iff.1 ho;rw [<-e];simp
 have:=List.all_eq_true.1 h o hm;rw [hc] at this;cases this

theorem YieldsIf.wpOpIn (hfn:∀f,F.fn f) (hnd:yJ ops=true) {i:Nat} {o:Oper} {v:Value} {a:Act} (hi:ops[i]?=some o) (hy:YieldsIf P ops S o v a)
 {K:Act->World->Prop} {w:World} (hS:S w) (h:K (a.put o.dst v) w):wpOpIn F n P ops Q i K a w:=by
 unfold Go.wpOpIn;simp only [hi];rcases hy with ⟨hw,hv⟩|⟨hw,rfl⟩
 ·simp only [hw,if_true,Oper.wpIn,Oper.semAt_eq F.round _ o (WH hnd hi),hv w hS,Oper.uponIn];exact ⟨fun f _=>hfn f,h⟩
 ·simp only [hw,Bool.false_eq_true,if_false];exact ⟨fun f _=>hfn f,h⟩

theorem aiw (hfn:∀f,F.fn f) (hnd:yJ ops=true) {i j:Nat} {oi oj:Oper} {v:Value} (hj:ops[j]?=some oj) (_hi:ops[i]?=some oi) (hap:oi.apart ops oj=true)
 (hsi:∀cs b,oi.op≠.select cs b) (hsj:∀cs b,oj.op≠.select cs b)
 (hQ:∀c a w,Q (.panic c) (a.put oi.dst v) w->Q (.panic c) a w) {K:Act->World->Prop} {a:Act} {w:World}
 (hy:YieldsIf P ops S oi v a) (h:wpOpIn F n P ops Q j K (a.put oi.dst v) w) :
 wpOpIn F n P ops Q j (fun a' w'=>YieldsIf P ops S oi v a'/\K (a'.put oi.dst v) w') a w:=by
 obtain ⟨h1,h2,h3⟩:=Oper.apart_spec hap
 have keep:∀(a:Act),YieldsIf P ops S oi v a->∀u,YieldsIf P ops S oi v (a.put oj.dst u):=fun a hy u =>
  hy.of_same (execOp_put oi hsi a oj.dst u h3) (wanted_put oi a oj.dst u h3)
 have keepD:∀d,YieldsIf P ops S oi v { a with defers:=d::a.defers }:=fun d=>hy.of_same rfl rfl;have ZL:=WH hnd hj;unfold wpOpIn at *;simp only [hj] at *;rw [wanted_put oj a oi.dst v h1] at h;split
 ·rename_i hw;simp only [hw,if_true] at h;unfold Oper.wpIn at *;refine ⟨fun f _=>hfn f,?_⟩;have h:=h.2;rw [Oper.semAt_eq F.round _ oj ZL,execOp_put oj hsj a oi.dst v h1] at h;rw [Oper.semAt_eq F.round _ oj ZL];generalize (execOp a.eval oj).run P w=r at *
  cases r with
  | ok x w' =>
    cases x<;>simp only [Oper.uponIn] at h ⊢
    case value u=>exact ⟨keep a hy u,by rw [<-Act.put_comm a v u h2];exact h⟩
    case skip=>exact ⟨keep a hy _,by rw [<-Act.put_comm a v undef h2];exact h⟩
    case defer d =>
     refine ⟨keep _ (keepD d) _,?_⟩;rw [<-Act.put_comm _ v undef h2,<-Act.put_defers];exact h
    case enter f args =>
     refine ⟨h.1,CallsIn.mono h.2 fun e w'' he=>?_⟩
     cases e with
     | returned u=>exact ⟨keep a hy u,by rw [<-Act.put_comm a v u h2];exact he⟩
     | panicked c=>exact hQ _ _ _ he
     | outgrown=>exact he
    case row row args=>exact ⟨h.1,RowsIn.mono h.2 fun u w'' he=>⟨keep a hy u,by rw [<-Act.put_comm a v u h2];exact he⟩⟩
    case round l f tmps assign body =>
     refine ⟨h.1,RoundIn.mono h.2 fun e w'' he=>?_⟩
     cases e with
     | returned u=>exact ⟨keep a hy u,by rw [<-Act.put_comm a v u h2];exact he⟩
     | panicked c=>exact hQ _ _ _ he
     | outgrown=>exact he
  | halt x w' =>
    cases x<;>simp only [Oper.uponIn] at h ⊢
    case panic u=>exact hQ _ _ _ h
 ·rename_i hw;simp only [hw] at h;exact ⟨fun f _=>hfn f,keep a hy _,by rw [<-Act.put_comm a v undef h2];exact h.2⟩

def iY (F:Fence) (n:Nat) (P:Program) (md:Region.Mode) (ops:Array Oper) (Q:Exit->Act->World->Prop) (S:World->Prop):Nat->Array Bool->Act->World->Prop
 | 0,listed,a,w=>Region.ready md ops listed=[]/\Q .normal a w
 | fuel+1,listed,a,w =>
   (Region.ready md ops listed=[]->Q .normal a w) /\
   ∀i∈Region.ready md ops listed,wpOpIn F n P ops Q i (fun a' w'=>S w'/\iY F n P md ops Q S fuel (listed.setIfInBounds i true) a' w') a w
theorem WI:∀(fuel:Nat) (listed:Array Bool) (a:Act) (w:World),iY F n P md ops Q S fuel listed a w->wpAnyIn F n P md ops Q fuel listed a w
 | 0,_,_,_,h=>h
 | fuel+1,_,_,_,h=>⟨h.1,fun i hi=>wpOpIn_mono (fun a' w' h'=>WI fuel _ a' w' h'.2) (h.2 i hi)⟩
theorem aix (hfn:∀f,F.fn f) (hnd:yJ ops=true) {i:Nat} {oi:Oper} {v:Value} (hi:ops[i]?=some oi) (hsel:∀(j:Nat) (o:Oper) cs b,ops[j]?=some o->o.op≠.select cs b)
 (hQ:∀c a w,Q (.panic c) (a.put oi.dst v) w->Q (.panic c) a w) :
 ∀(fuel:Nat) (listed:Array Bool) (a:Act) (w:World),
  (∀j oj,ops[j]?=some oj->j≠i->listed.getD j true=false->(∀e∈oj.after,Region.binds md e=true->e.on≠i)->oi.apart ops oj=true) ->
  i∈Region.ready md ops listed->YieldsIf P ops S oi v a->S w ->
  iY F n P md ops Q S fuel (listed.setIfInBounds i true) (a.put oi.dst v) w->iY F n P md ops Q S (fuel+1) listed a w:=by
 intro fuel
 induction fuel with
 | zero =>
   intro listed a w _ hr hy hS H;refine ⟨fun h=>(by rw [h] at hr;cases hr),fun j hj=>?_⟩;by_cases hji:j=i
   ·subst hji;exact YieldsIf.wpOpIn hfn hnd hi hy hS ⟨hS,H⟩
   ·have:=ready_mono hj hji;rw [H.1] at this;cases this
 | succ fuel ih =>
   intro listed a w hfree hr hy hS H;refine ⟨fun h=>(by rw [h] at hr;cases hr),fun j hj=>?_⟩;by_cases hji:j=i
   ·subst hji;exact YieldsIf.wpOpIn hfn hnd hi hy hS ⟨hS,H⟩
   ·have h1:=H.2 j (ready_mono hj hji);obtain ⟨hjun,oj,hoj,hall⟩:=mem_ready.1 hj
    have hnot:∀e∈oj.after,Region.binds md e=true->e.on≠i:=fun e he hb heq=>by
     have h1:=hall e he hb;have h0:=(mem_ready.1 hr).1;rw [heq] at h1;rcases Nat.lt_or_ge i listed.size with h' | h'
     ·simp [h'] at h0 h1;rw [h0] at h1;cases h1
     ·simp [Array.getElem?_eq_none h'] at h1
    have h2:=aiw hfn hnd hoj hi (hfree j oj hoj hji hjun hnot) (fun cs b=>hsel i oi cs b hi) (fun cs b=>hsel j oj cs b hoj) hQ hy h1
    have hfree':∀k ok,ops[k]?=some ok->k≠i->(listed.setIfInBounds j true).getD k true=false ->
     (∀e∈ok.after,Region.binds md e=true->e.on≠i)->oi.apart ops ok=true:=fun k ok hk hki hun hno=>by
     refine hfree k ok hk hki ?_ hno;by_cases hjk:j=k
     ·subst hjk;exact hjun
     ·rw [getD_set_ne true hjk] at hun;exact hun
    refine wpOpIn_mono (fun a' w' h3=>⟨h3.2.1,ih (listed.setIfInBounds j true) a' w' hfree' (ready_mono hr (Ne.symm hji)) h3.1 h3.2.1 ?_⟩) h2;rw [Array.setIfInBounds_comm _ _ hji];exact h3.2.2
theorem WJ (hfn:∀f,F.fn f) (hnd:yJ ops=true) {i:Nat} {oi:Oper} {v:Value} {fuel:Nat} {listed:Array Bool} {a:Act} {w:World} (hi:ops[i]?=some oi)
 (hs:Region.noSelect ops=true) (hf:Region.free md ops listed i=true) (hr:(Region.ready md ops listed).contains i=true)
 (hQ:∀c a w,Q (.panic c) (a.put oi.dst v) w->Q (.panic c) a w) (hy:YieldsIf P ops S oi v a) (hS:S w)
 (h:iY F n P md ops Q S fuel (listed.setIfInBounds i true) (a.put oi.dst v) w):iY F n P md ops Q S (fuel+1) listed a w :=
 aix hfn hnd hi (Region.noSelect_spec hs) hQ fuel listed a w (Region.free_spec hi hf) (by simpa using hr) hy hS h
theorem mo {listed:Array Bool} {a:Act} {w:World} (hr:Region.ready md ops listed=[]) (h:Q .normal a w) :
 ∀fuel,iY F n P md ops Q S fuel listed a w
 | 0=>⟨hr,h⟩
 | _+1=>⟨fun _=>h,by rw [hr];simp⟩
def qV (F:Fence) (n:Nat) (P:Program) (md:Region.Mode) (ops:Array Oper) (Q:Exit->Act->World->Prop) (S:World->Prop) (fuel:Nat) (listed:Array Bool) (a:Act) (w:World) (rs:List Nat):Prop :=
 ∀i∈rs,wpOpIn F n P ops Q i (fun a' w'=>S w'/\iY F n P md ops Q S fuel (listed.setIfInBounds i true) a' w') a w
theorem qV.nil {fuel:Nat} {listed:Array Bool} {a:Act} {w:World}:qV F n P md ops Q S fuel listed a w []:=fun _ h=>by cases h
theorem aiy {i:Nat} {o:Oper} {K:Act->World->Prop} {a:Act} {w:World} (hfn:∀f,F.fn f) (ho:ops[i]?=some o)
 (h:∀K':Act->World->Prop,(∀a w,K a w->K' a w)->if Region.wanted o (yielded ops a.tmps)=true then Oper.wpIn F n P o a w K' Q else K' (a.put o.dst undef) w):wpOpIn F n P ops Q i K a w:=by
 refine wpOpIn_step ho fun K' hK=>?_;have:=h K' hK;by_cases hw:Region.wanted o (yielded ops a.tmps)=true
 ·rw [if_pos hw] at this ⊢;exact this
 ·rw [if_neg hw] at this ⊢;exact ⟨fun f _=>hfn f,this⟩
theorem qV.cons {fuel:Nat} {listed:Array Bool} {a:Act} {w:World} {i:Nat} {o:Oper} {rs:List Nat} (hfn:∀f,F.fn f) (ho:ops[i]?=some o)
 (h:∀K':Act->World->Prop,Shut (∀a w,S w->(S w->iY F n P md ops Q S fuel (listed.setIfInBounds i true) a w)->K' a w)->if Region.wanted o (yielded ops a.tmps)=true then Oper.wpIn F n P o a w K' Q else K' (a.put o.dst undef) w)
 (hs:qV F n P md ops Q S fuel listed a w rs):qV F n P md ops Q S fuel listed a w (i::rs):=fun j hj=>by
 rcases List.mem_cons.1 hj with rfl|hj
 ·exact aiy hfn ho (fun K' hK=>h K' (fun a w hS hW=>hK a w ⟨hS,hW hS⟩))
 ·exact hs j hj
theorem WK {rs:List Nat} {fuel:Nat} {listed:Array Bool} {a:Act} {w:World} (hr:Region.ready md ops listed=rs) (hne:rs≠[])
 (h:qV F n P md ops Q S fuel listed a w rs):iY F n P md ops Q S (fuel+1) listed a w :=
 ⟨fun h0=>absurd (hr▸h0) hne,hr▸h⟩
theorem uH {id:Nat} {a:Act} {w:World} (hm:P.follows .mixedOrders=true) (hS:S w.drew)
 (h:S w.drew->iY F n P .any ops Q S ops.size (Array.replicate ops.size false) a w.drew):(Code.region id ops true).wpIn F n P Q a w :=
 wpIn_region_any hm (WI _ _ _ _ (h hS))

def AX (Q:Exit->Act->World->Prop):Exit->Act->World->Prop
 | .normal,a,w=>Q .normal a w
 | _,_,_=>False
theorem Og {id:Nat} {a:Act} {w:World} (hm:P.follows .mixedOrders=true) (hS:S w.drew)
 (h:S w.drew->iY F n P .any ops (AX Q) S ops.size (Array.replicate ops.size false) a w.drew):(Code.region id ops true).wpIn F n P Q a w :=
 wpIn_mono (uH hm hS h) fun e a w h=>by cases e<;>first|exact h|exact h.elim

end
end
section
open Go.RowKit

theorem WM {F:Fence} {n:Nat} {P:Program} (w:World) {ops:Array Oper} {rest:List Oper} {o:Oper} {a:Act} {Q:Exit->Act->World->Prop}
 (hg:o.guard=none) (l c:Operand) (t:TypeId) (hop:o.op=Op.makeSlice t l c)
 (base:Nat) (e:TypeId) (i:TypeInfo) (z:Value) (size:Nat) (h1:P.underlying t=some (.slice e)) (h2:P.info? e=some i) (h3:i.zero=some z) (h4:i.size=size)
 (kl kc:IntKind) (L C:Int) (m:Nat) (hl:a.eval l=.int kl L) (hc:a.eval c=.int kc C) (hL:L=(m:Int)) (hC:C=(m:Int)) (b2:i.bytes*m<=281474976710656) (b3:m<=maxLen) (b4:base<=w.heap.size)
 (hK:∀w',w'.ownsRow base e size (.slice (some ⟨w.heap.size,0,none⟩) m m) m (madeCells z.cells (m*size)).toList->w.grownBy w' none->wpListIn F n P ops Q rest (a.put o.dst (.slice (some ⟨w.heap.size,0,none⟩) m m)) w') :
 wpListIn F n P ops Q (o::rest) a w:=by
 refine wpListIn_plain hg fun K hK'=>?_;obtain ⟨w',hrun,r1,r2⟩:=run_make_full (P:=P) w base t e i z size h1 h2 h3 h4 kl kc m b2 b3 b4;subst hL;subst hC;unfold Oper.wpIn;refine ⟨?_,?_⟩
 ·simp [Oper.about,hop]
 ·rw [Oper.semAt_plain F _ _ (by rw [hop];intro c hc';cases hc')];simp [execOp,hop,hl,hc,hrun,Result.andThen];exact hK' _ _ (hK w' r1 r2)

end
section
open Go.RowKit

def yP {α:Type} (J Jx:List α->(Nat->Prop)->World->Prop) (xs:List α) (O:Nat->Prop) (W:World) (e:Ending) (W':World):Prop :=
 ∃O',ae (fun k=>¬O k) W W'/\(∀k,O' k->O k\/W.heap.size<=k/\k<W'.heap.size) /\
  ((e=.returned (.bool true)/\J xs O' W')\/(e=.returned (.bool false)/\Jx xs O' W'))
def ajf {α:Type} (I:List α->(Nat->Prop)->World->Prop) (Ix:Code->List α->(Nat->Prop)->World->Prop) (xs:List α) (O:Nat->Prop) (W:World):Exit->Act->World->Prop
 | .normal,_,W'=>∃O',ae (fun k=>¬O k) W W'/\(∀k,O' k->O k\/W.heap.size<=k/\k<W'.heap.size)/\I xs O' W'
 | .ret,_,W'=>∃O',ae (fun k=>¬O k) W W'/\(∀k,O' k->O k\/W.heap.size<=k/\k<W'.heap.size)/\Ix .ret xs O' W'
 | .exit id,_,W'=>∃O',ae (fun k=>¬O k) W W'/\(∀k,O' k->O k\/W.heap.size<=k/\k<W'.heap.size)/\Ix (.exit id) xs O' W'
 | .goto t,_,W'=>∃O',ae (fun k=>¬O k) W W'/\(∀k,O' k->O k\/W.heap.size<=k/\k<W'.heap.size)/\Ix (.goto t) xs O' W'
 | .panic _,_,_=>False
 | .outgrown,_,_=>False

def Oz {α:Type} (F:Fence) (n:Nat) (P:Program) (g:Nat) (lb:Array Value) (encs:α->Array Value) (Rd:Nat->Prop) (T:List α->Prop) (At:α->World->Prop) (S Sp:List α->Prop) (N:Nat) (w:World):Prop :=
 ∀(l:Nat) (J Jx:List α->(Nat->Prop)->World->Prop) (O:Nat->Prop) (W:World),ae Rd w W->(∀k,O k->¬Rd k/\k<W.heap.size)->Stable W.heap.size J->Stable W.heap.size Jx ->
  (∀pre x O W1,T (pre++[x])->At x W1->J pre O W1->pre.length<N->YieldAt F (n-1) P l (encs x) W1 (yP J Jx (pre++[x]) O W1)) ->
  J [] O W ->
  CallsIn F n P g (#[.func (.yield l) #[] #[]]++lb) W fun e W'=>(∃v,e=.returned v)/\∃O',(∃xs,S xs/\J xs O' W')\/(∃pre,Sp pre/\Jx pre O' W')

theorem OA {F:Fence} {n:Nat} {P:Program} {α:Type} {g:Operand} {ps:Array Tmp} {assign body:Code} {Q:Exit->Act->World->Prop} {a:Act} {w:World}
 (hro:F.round=none) (h1:F.depth.isSome=true->1<=n) {gf:Nat} {lb:Array Value} (hg:a.eval g=.func (.func gf) #[] lb) (hFg:F.fn gf) (eg:∀args w,(callFunc gf args).run P w=.ok (.enter gf args) w)
 {encs:α->Array Value} {Rd:Nat->Prop} {T:List α->Prop} {At:α->World->Prop} {S Sp:List α->Prop} {N:Nat} {w0:World} (hseq:Oz F (n-1) P gf lb encs Rd T At S Sp N w0) (hAt:∀(x:α) (W:World) (b:Nat) (r:Loop) (o:Obj),At x W->W.heap[b]?=some (.loop r)->At x (W.putObj b o)) (hw0:ae Rd w0 w) (EP:∀k,Rd k->k<w0.heap.size) (hps:∀x,(encs x).size=ps.size)
 (I:List α->(Nat->Prop)->World->Prop) (Ix:Code->List α->(Nat->Prop)->World->Prop) (hI:Stable w.heap.size I) (hIx:∀c,Stable w.heap.size (Ix c))
 (O:Nat->Prop) (hO:∀k,O k->¬Rd k/\k<w.heap.size) (h0:I [] O w) (a₁:α->Act)
 (hassign:∀(l:Nat) (x:α) (W:World) (K:Act->World->Prop),K (a₁ x) W ->
  assign.wpIn (F.inRound l) (n-1-1) P (Exit.then K (fun _ _ _=>False)) { tmps:=(ps.zip (encs x)).foldl (fun t (p,v)=>t.setIfInBounds p v) a.tmps,defers:=[] } W)
 (hbody:∀(l:Nat) (pre:List α) (x:α) (O:Nat->Prop) (W:World),T (pre++[x])->At x W->I pre O W->pre.length<N->w.heap.size<=W.heap.size->body.wpIn (F.inRound l) (n-1-1) P (ajf I Ix (pre++[x]) O W) (a₁ x) W)
 (hdone:∀(D:Nat) (xs:List α) (O:Nat->Prop) (W:World),w.heap.size<=D->¬O D->S xs->I xs O W->W.heap[D]?=some (.deferred (some []))->Q .normal { a with defers:={ target:=.collected D,args:=#[] }::a.defers } W)
 (hstop:∀(D:Nat) (c:Code) (pre:List α) (O:Nat->Prop) (W:World),w.heap.size<=D->¬O D->Sp pre->Ix c pre O W->W.heap[D]?=some (.deferred (some []))->c.wpIn F n P Q { a with defers:={ target:=.collected D,args:=#[] }::a.defers } W) :
 (Code.rangeFunc g ps assign body).wpIn F n P Q a w:=by
 refine wpIn_rangeFunc fun fn hfn=>?_;rw [hro];obtain ⟨D,hD⟩:∃D,D=w.heap.size:=⟨_,rfl⟩;obtain ⟨rec,hrec⟩:∃rec:LoopState->Option Code->Loop,rec=fun st pe=>{ state:=st,pending:=pe,fn,tmps:=a.tmps,params:=ps,assign,body,defers:=w.heap.size }:=⟨_,rfl⟩;obtain ⟨W1,hW1⟩:∃W1,W1=(w.alloc (.deferred (some []))).alloc (.loop (rec .ready none)):=⟨_,rfl⟩;have hz:W1.heap.size=D+2:=by rw [hW1,hD];simp
 have hk:∀T,ae T w W1:=fun T=>by rw [hW1];exact (ae.alloc T w _).trans (ae.alloc T _ _)
 have hL:W1.heap[D+1]?=some (.loop (rec .ready none)):=by
  rw [hW1,hD];have:=World.alloc_heap_new (w.alloc (.deferred (some []))) (.loop (rec .ready none));rwa [World.size_alloc] at this
 have Ql:W1.heap[D]?=some (.deferred (some [])):=by
  rw [hW1,hD];exact (Below.heap_alloc _ _ _ smp).trans (World.alloc_heap_new w _)
 have Qm:¬O D:=fun h=>by have:=(hO D h).2;omega
 have hLO:¬O (D+1):=fun h=>by have:=(hO _ h).2;omega
 refine ⟨D+1,[{ target:=.collected D,args:=#[] }],W1,{ target:=.fn (.func gf) lb,args:=#[.func (.yield (D+1)) #[] #[]] },W1,gf,#[.func (.yield (D+1)) #[] #[]]++lb,W1,?_,?_,?_,?_,h1,?_⟩
 ·rw [hW1,hrec,hD];exact run_enterLoop_outer _ _ _ _ _
 ·simp only [resolve,hg];simp [go_sem]
 ·intro f' hf';simp [Target.leads] at hf';subst hf';exact hFg
 ·simp [invoke,go_sem,eg]
 ·
  refine (hseq (D+1)
   (fun pre U W=>∃O,(∀k,U k↔O k\/k=D\/k=D+1)/\¬O D/\¬O (D+1)/\I pre O W/\W.heap[D+1]?=some (.loop (rec .ready none))/\W.heap[D]?=some (.deferred (some [])))
   (fun pre U W=>∃O c,(∀k,U k↔O k\/k=D\/k=D+1)/\¬O D/\¬O (D+1)/\Ix c pre O W/\W.heap[D+1]?=some (.loop (rec .done (some c)))/\W.heap[D]?=some (.deferred (some [])))
   (fun k=>O k\/k=D\/k=D+1) W1 (hw0.trans (hk _)) ?_ ?_ ?_ ?_ ⟨O,fun k=>Iff.rfl,Qm,hLO,hI _ _ _ _ h0 (hk _),hL,Ql⟩).mono ?_
  ·rintro k (h|rfl|rfl)
   ·exact ⟨(hO k h).1,by have:=(hO k h).2;omega⟩
   ·exact ⟨fun h=>by have:=EP _ h;have:=hw0.size;omega,by omega⟩
   ·exact ⟨fun h=>by have:=EP _ h;have:=hw0.size;omega,by omega⟩
  ·rintro pre U A B ⟨O,hU,hd,hl,hi,h3,h4⟩ mM;exact ⟨O,hU,hd,hl,hI _ _ _ _ hi (mM.mono fun k _ hk=>hk.elim (fun hk=>.inl omg) (fun hk=>.inr ((hU k).2 (.inl hk)))),mM.heap h3 (.inl omg),mM.heap h4 (.inl omg)⟩
  ·rintro pre U A B ⟨O,c,hU,hd,hl,hi,h3,h4⟩ mM;exact ⟨O,c,hU,hd,hl,hIx c _ _ _ _ hi (mM.mono fun k _ hk=>hk.elim (fun hk=>.inl omg) (fun hk=>.inr ((hU k).2 (.inl hk)))),mM.heap h3 (.inl omg),mM.heap h4 (.inl omg)⟩
  ·
   rintro pre x U W hT hAx ⟨O,hU,hd,hl,hi,h3,h4⟩ hlen;have hlt:D+1<W.heap.size:=(hltq h3);have hy:=run_yield (P:=P) (args:=encs x) h3 (by rw [hrec];exact hps x);rw [hrec] at hy;refine ⟨fn,_,assign,body,hy,roundIn_of_wpIn hfn (hassign _ x W _ ⟨_,run_beginRound h3 (by rw [hrec]),?_⟩)⟩;clear hy;obtain ⟨W2,hW2⟩:∃W2,W2=W.putObj (D+1) (.loop { rec .ready none with state:=.busy }):=⟨_,rfl⟩;have h3':W2.heap[D+1]?=some (.loop { rec .ready none with state:=.busy }):=by rw [hW2];exact World.putObj_heap_same hlt
   have h4':W2.heap[D]?=some (.deferred (some [])):=by rw [hW2];exact (World.putObj_heap_other omg).trans h4
   have hz2:W2.heap.size=W.heap.size:=by rw [hW2];simp
   have hk2:∀T:Nat->Prop,¬T (D+1)->ae T W W2:=fun T hT=>by rw [hW2];exact ae.putObj _ _ _ hT
   have hi2:I pre O W2:=hI _ _ _ _ hi (hk2 _ (by rintro (h|h);omega;exact hl h));rw [<-hW2];refine wpIn_mono (hbody _ pre x O W2 hT (by rw [hW2];exact hAt _ _ _ _ _ hAx h3) hi2 hlen omg) ?_
   have fin:∀(jump:Option Code) (W3:World) (O':Nat->Prop),ae (fun k=>¬O k) W2 W3->(∀k,O' k->O k\/W2.heap.size<=k/\k<W3.heap.size) ->
    (Instr.endRound (D+1) jump).run P W3=.ok (.bool jump.isNone) (W3.putObj (D+1) (.loop (rec (if jump.isNone then .ready else .done) jump))) /\
    (W3.putObj (D+1) (.loop (rec (if jump.isNone then .ready else .done) jump))).heap[D+1]?=some (.loop (rec (if jump.isNone then .ready else .done) jump)) /\
    (W3.putObj (D+1) (.loop (rec (if jump.isNone then .ready else .done) jump))).heap[D]?=some (.deferred (some [])) /\
    ae (fun k=>¬U k) W (W3.putObj (D+1) (.loop (rec (if jump.isNone then .ready else .done) jump))) /\
    (∀k,(O' k\/k=D\/k=D+1)->U k\/W.heap.size<=k/\k<(W3.putObj (D+1) (.loop (rec (if jump.isNone then .ready else .done) jump))).heap.size)/\¬O' D/\¬O' (D+1) /\
    (∀o,ae (fun k=>k<w.heap.size\/O' k) W3 (W3.putObj (D+1) o)):=by
    intro jump W3 O' hk3 ho3;have hl3:=hk3.heap h3' hl;have hd3:=hk3.heap h4' hd;have hrun:=run_endRound (P:=P) jump hl3;have Qo:¬O' D:=fun h=>(ho3 _ h).elim hd omg;have ER:¬O' (D+1):=fun h=>(ho3 _ h).elim hl omg;refine ⟨by rw [hrec] at hrun ⊢;exact hrun,World.putObj_heap_same (hltq hl3),(World.putObj_heap_other omg).trans hd3,?_,?_,Qo,ER,?_⟩
    ·refine ((hk2 _ (fun h=>h ((hU _).2 (.inr (.inr rfl))))).trans (hk3.mono fun k _ h hk=>h ((hU k).2 (.inl hk)))).trans (ae.putObj _ _ _ (fun h=>h ((hU _).2 (.inr (.inr rfl)))))
    ·rintro k (h|rfl|rfl)
     ·rcases ho3 _ h with h|h
      ·exact .inl ((hU k).2 (.inl h))
      ·exact .inr ⟨by omega,by rw [World.putObj_size];omega⟩
     ·exact .inl ((hU _).2 (.inr (.inl rfl)))
     ·exact .inl ((hU _).2 (.inr (.inr rfl)))
    ·intro o;exact ae.putObj _ _ _ (by rintro (h|h);omega;exact ER h)
   rintro e a3 W3 hp
   cases e with
   | normal =>
     obtain ⟨O',hk3,ho3,hi3⟩:=hp;obtain ⟨hr,e3,e4,ek,eo,ed,el,es⟩:=fin none W3 O' hk3 ho3;exact ⟨_,_,hr,_,ek,eo,.inl ⟨rfl,O',fun k=>Iff.rfl,ed,el,hI _ _ _ _ hi3 (es _),e3,e4⟩⟩
   | ret =>
     obtain ⟨O',hk3,ho3,hi3⟩:=hp;obtain ⟨hr,e3,e4,ek,eo,ed,el,es⟩:=fin (some .ret) W3 O' hk3 ho3;exact ⟨_,_,hr,_,ek,eo,.inr ⟨rfl,O',_,fun k=>Iff.rfl,ed,el,hIx _ _ _ _ _ hi3 (es _),e3,e4⟩⟩
   | exit id =>
     obtain ⟨O',hk3,ho3,hi3⟩:=hp;obtain ⟨hr,e3,e4,ek,eo,ed,el,es⟩:=fin (some (.exit id)) W3 O' hk3 ho3;exact ⟨_,_,hr,_,ek,eo,.inr ⟨rfl,O',_,fun k=>Iff.rfl,ed,el,hIx _ _ _ _ _ hi3 (es _),e3,e4⟩⟩
   | goto t =>
     obtain ⟨O',hk3,ho3,hi3⟩:=hp;obtain ⟨hr,e3,e4,ek,eo,ed,el,es⟩:=fin (some (.goto t)) W3 O' hk3 ho3;exact ⟨_,_,hr,_,ek,eo,.inr ⟨rfl,O',_,fun k=>Iff.rfl,ed,el,hIx _ _ _ _ _ hi3 (es _),e3,e4⟩⟩
   | panic ch=>exact hp.elim
   | outgrown=>exact hp.elim
  ·
   rintro e W2 ⟨⟨v,rfl⟩,U,(⟨xs,hS,O,hU,hd,hl,hi,h3,h4⟩|⟨pre,hSp,O,c,hU,hd,hl,hi,h3,h4⟩)⟩
   ·have he:=run_endLoop (P:=P) h3 (by rw [hrec];simp);rw [hrec] at he;exact ⟨none,_,he,hdone D xs O _ omg hd hS (hI _ _ _ _ hi (ae.putObj _ _ _ (by rintro (h|h);omega;exact hl h))) ((World.putObj_heap_other omg).trans h4)⟩
   ·have he:=run_endLoop (P:=P) h3 (by rw [hrec];simp);rw [hrec] at he;exact ⟨some c,_,he,hstop D c pre O _ omg hd hSp (hIx c _ _ _ _ hi (ae.putObj _ _ _ (by rintro (h|h);omega;exact hl h))) ((World.putObj_heap_other omg).trans h4)⟩

end
end Go.Proofs.YtkiamgcpcneggaaGreat
