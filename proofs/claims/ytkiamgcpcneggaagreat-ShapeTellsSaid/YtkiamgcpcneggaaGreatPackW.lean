import Derived.Test.YtkiamgcpcneggaaGreatPackY
set_option linter.all false
set_option maxRecDepth 100000
set_option maxHeartbeats 12800000
namespace Go.Proofs.YtkiamgcpcneggaaGreat
section
open Go.RowKit Go.Shelf Tri Wlk
attribute [local go_sem] Oper.semAt_some
attribute [local go_sem] run_store_func

def Room (R n:Nat) (sg:LIn) (W:World):Prop :=
 W.ownsRow R 3 1 (.slice (some ⟨R,0,none⟩) sg.length n) sg.length (ay sg)/\∀z∈sg,(Lit.int .i64 z).wf=true
theorem Room.obj {R n:Nat} {sg:LIn} {W:World} (h:Room R n sg W):∃cur,W.heap[R]?=some (.cells cur 3)/\sg.length<=n/\n<=maxLen/\cur.size=n/\cur.toList.take sg.length=ay sg:=by
 rcases h.1.2 with ⟨e,_⟩|⟨g,cap,cur,e,_,h1,h2,h3,h4,h5⟩
 ·cases e
 ·simp only [Value.slice.injEq,sij,Addr.mk.injEq,true_and,and_true] at e;obtain ⟨rfl,rfl⟩:=e;exact ⟨cur,h1,h2,h3,by simpa using h4,by simpa using h5⟩
theorem Room.of {R n:Nat} {sg:LIn} {W:World} {cur:Array Value} (h1:W.heap[R]?=some (.cells cur 3)) (h2:sg.length<=n) (h3:n<=maxLen) (h4:cur.size=n) (h5:cur.toList.take sg.length=ay sg) (hw:∀z∈sg,(Lit.int .i64 z).wf=true):Room R n sg W :=
 ⟨⟨by simp [ay],.inr ⟨R,n,cur,rfl,Nat.le_refl _,h1,h2,h3,by simpa using h4,by simpa using h5⟩⟩,hw⟩
theorem Room.cut {R n:Nat} {sg t:LIn} {W:World} (h:Room R n (sg++t) W):Room R n sg W:=by
 obtain ⟨cur,h1,h2,h3,h4,h5⟩:=h.obj;rw [List.length_append] at h2;refine Room.of h1 omg h3 h4 ?_ fun z hz=>h.2 z (by simp [hz]);have:=congrArg (List.take sg.length) h5;rw [List.take_take,Nat.min_eq_left smp] at this;rw [this];simp [ay]
theorem Room.keep {R n:Nat} {sg:LIn} {W W':World} {S:Nat->Prop} (h:Room R n sg W) (hk:ae S W W') (hR:S R):Room R n sg W' :=
 ⟨tC h.1 hk (fun r e=>by
  have:R=r:=by simpa [Value.ownBlock] using e
  rw [<-this];exact hR),h.2⟩
theorem Room.word {R n:Nat} {sg:LIn} {W:World} (h:Room R n sg W):Sl .i64 W (some ⟨R,0,none⟩) sg.length n sg:=Sl.of_owns h.1 h.2 rfl

def yQ (K:Nat->Prop) (W:World) (a:OAd) (k:Nat) (g:List (Int × Int)):Prop :=
 g.length=k/\(k=0\/∃b off,a=some ⟨b,off,none⟩/\K b/\∀i,i<k->W.cell? ⟨b,off+i*2,none⟩=some (.int .i64 (g.getD i (0,0)).1)/\W.cell? ⟨b,off+i*2+1,none⟩=some (.int .i64 (g.getD i (0,0)).2))
theorem yQ.keep {K:Nat->Prop} {W W':World} {a:OAd} {k:Nat} {g:List (Int × Int)} (h:yQ K W a k g) (hk:ae K W W'):yQ K W' a k g:=by
 refine ⟨h.1,?_⟩;rcases h.2 with h0|⟨b,off,ha,hb,hc⟩
 ·exact .inl h0
 ·exact .inr ⟨b,off,ha,hb,fun i hi=>⟨hk.cell (hc i hi).1 hb,hk.cell (hc i hi).2 hb⟩⟩
structure xx (K:Nat->Prop) (l:List St) (n sb so wb wo:Nat) (W:World):Prop where
 fin:∀i,i<n->W.cell? ⟨sb,so+i*2,none⟩=some (.bool (l.getD i St.no).final)
 way:∀i,i<n->∃a k c,W.cell? ⟨wb,wo+i,none⟩=some (.slice a k c)/\k<=c/\c<=maxLen/\yQ K W a k (goes l i (-1))
 ks:K sb
 kw:K wb
theorem xx.keep {K:Nat->Prop} {l:List St} {n sb so wb wo:Nat} {W W':World} (h:xx K l n sb so wb wo W) (hk:ae K W W'):xx K l n sb so wb wo W' :=
 ⟨fun i hi=>hk.cell (h.fin i hi) h.ks,fun i hi=>by
  obtain ⟨a,k,c,h1,h2,h3,h4⟩:=h.way i hi
  exact ⟨a,k,c,hk.cell h1 h.kw,h2,h3,h4.keep hk⟩,h.ks,h.kw⟩

abbrev qg:=List Wd->(Nat->Prop)->World->Prop
structure nI (base:Nat) (K:Nat->Prop) (l:List St) (n sb so wb wo R:Nat) (J:qg) (L:LLI) (pre:List Wd) (sg:LIn) (ws:LLI) (O:Nat->Prop) (W:World):Prop where
 tel:xx K l n sb so wb wo W
 room:Room R n sg W
 j:J pre O W
 told:nums pre++ws <+: L
 far:∀k,O k->¬K k
 kR:¬K R
 no:¬O R
 low:base<=W.heap.size
 lowR:base<=R
 klt:∀k,K k->k<W.heap.size
 olt:∀k,O k->k<W.heap.size
def DX (R n:Nat) (J Jx:qg) (pre:List Wd) (sg:LIn) (ws:LLI) (O:Nat->Prop) (W:World) (e:Ending) (W':World):Prop :=
 ∃(b:Bool) (O':Nat->Prop),e=.returned (.bool b)/\ae (fun k=>¬O k/\k≠R) W W'/\(∀k,O' k->O k\/W.heap.size<=k/\k<W'.heap.size)/\Room R n sg W' /\
  (b=true->∃pre',nums pre'=nums pre++ws/\J pre' O' W')/\(b=false->∃pre',Jx pre' O' W')
theorem nI.more {base:Nat} {K:Nat->Prop} {l:List St} {n sb so wb wo R:Nat} {J:qg} {L:LLI} {pre pre':List Wd} {sg ZW:LIn} {ws ws':LLI} {O O':Nat->Prop} {W W':World} (h:nI base K l n sb so wb wo R J L pre sg ws O W)
 (hk:ae (fun k=>¬O k/\k≠R) W W') (ho:∀k,O' k->O k\/W.heap.size<=k/\k<W'.heap.size) (hR:Room R n ZW W') (hj:J pre' O' W') (ht:nums pre'++ws' <+: L):nI base K l n sb so wb wo R J L pre' ZW ws' O' W' :=
 have hkk:ae K W W':=hk.mono fun k _ hK=>⟨fun h'=>h.far k h' hK,fun e=>h.kR (e▸hK)⟩
 ⟨h.tel.keep hkk,hR,hj,ht,fun k hO hK=>(ho k hO).elim (fun h'=>h.far k h' hK) (fun h'=>by have:=h.klt k hK;omega),h.kR,fun h'=>(ho R h').elim h.no (fun h''=>by
  obtain ⟨cur,hc,_⟩:=h.room.obj;have:=(hltq hc)
  omega),Nat.le_trans h.low hk.size,h.lowR,fun k hK=>Nat.lt_of_lt_of_le (h.klt k hK) hk.size,fun k hO=>(ho k hO).elim (fun h'=>Nat.lt_of_lt_of_le (h.olt k h') hk.size) (fun h'=>h'.2)⟩
theorem World.drew_size' (w:World):w.drew.heap.size=w.heap.size:=rfl
theorem nI.drawn {base:Nat} {K:Nat->Prop} {l:List St} {n sb so wb wo R:Nat} {J:qg} {L:LLI} {pre:List Wd} {sg:LIn} {ws:LLI} {O:Nat->Prop} {W:World} (h:nI base K l n sb so wb wo R J L pre sg ws O W) (hJ:Stable base J):nI base K l n sb so wb wo R J L pre sg ws O W.drew :=
 ⟨h.tel.keep (ae.drew _ _),h.room.keep (ae.drew (fun _=>True) _) trivial,hJ _ _ _ _ h.j (ae.drew _ _),h.told,h.far,h.kR,h.no,h.low,h.lowR,h.klt,h.olt⟩
def tv (n sb so dZ wb wo eX dn dc yl:Nat) (da:OAd):Value:=.agg #[.slice (some ⟨sb,so,none⟩) n dZ,.slice da dn dc,.slice (some ⟨wb,wo,none⟩) n eX,.func (.yield yl) #[] #[]]
def yR (F:Fence) (base:Nat) (K:Nat->Prop) (l:List St) (n sb so dZ wb wo eX dn dc yl:Nat) (da:OAd) (R:Nat) (J Jx:qg) (L:LLI) (i:Nat):Prop :=
 ∀(m:Nat) (pre:List Wd) (sg:LIn) (O:Nat->Prop) (W:World),sg.length<=i->nI base K l n sb so wb wo R J L pre sg ((told l i).map (sg++·)) O W ->
  CallsIn F m Tryz.prog 144 #[tv n sb so dZ wb wo eX dn dc yl da,.int .i64 (i:Int),.slice (some ⟨R,0,none⟩) sg.length n] W (DX R n J Jx pre sg ((told l i).map (sg++·)) O W)

theorem ajm {F:Fence} {n:Nat} {w:World} {ops:Array Oper} {o:Oper} {act:Act} {K:Act->World->Prop} {Q:Exit->Act->World->Prop} {E:Prop} (hw:Region.wanted o (yielded ops act.tmps)=true) (x:Operand) (s:Int)
 (ho:o.op=.buildSlice 51 1 #[(0,x)]) (hx:act.eval x=.int .i64 s) (h:∀g w',w'.cell? ⟨g,0,none⟩=some (.int .i64 s)->g=w.heap.size->(∀S,ae S w w')->K (act.put o.dst (.slice (some ⟨g,0,none⟩) 1 1)) w') :
 if Region.wanted o (yielded ops act.tmps)=true then o.wpIn F n Tryz.prog act w K Q else E:=by
 rw [if_pos hw];unfold Oper.wpIn;refine ⟨by simp [Oper.about,ho],?_⟩;rw [Oper.semAt_plain F _ _ (by rw [ho];intro c hc;cases hc)];simp only [execOp,ho,List.map_toArray,List.map_cons,List.map_nil,hx];go_simp;exact h _ _ (by rw [World.cell?,han];rfl) rfl (fun S=>ae.alloc S w _)
theorem step_append_room {F:Fence} {m:Nat} {w:World} {ops:Array Oper} {o:Oper} {act:Act} {K:Act->World->Prop} {Q:Exit->Act->World->Prop} {E:Prop} (hw:Region.wanted o (yielded ops act.tmps)=true) (s x:Operand)
 (ho:o.op=.call { callee:=.builtin .append,args:=#[s,x],argTypes:=#[51,51] }) (R n k:Nat) (sg:LIn) (hk:sg.length=k) (hs:act.eval s=.slice (some ⟨R,0,none⟩) k n) (hroom:Room R n sg w) (hfit:k+1<=n)
 (g:Nat) (z:Int) (hx:act.eval x=.slice (some ⟨g,0,none⟩) 1 1) (hc:w.cell? ⟨g,0,none⟩=some (.int .i64 z)) (hz:(Lit.int .i64 z).wf=true)
 (h:∀w',Room R n (sg++[z]) w'->ae (fun b=>b≠R) w w'->K (act.put o.dst (.slice (some ⟨R,0,none⟩) (k+1) n)) w') :
 if Region.wanted o (yielded ops act.tmps)=true then o.wpIn F m Tryz.prog act w K Q else E:=by
 subst hk;rw [if_pos hw];obtain ⟨i0,hi,hz0,hz1,hz2⟩:=info_parts nW
 obtain ⟨w',hrun,r1,r2⟩:=run_append_fits (P:=Tryz.prog) w R 51 o.type 3 i0 1 Tryz.underlying51 hi hz1 R sg.length n (ay sg) hroom.1 ⟨g,0,none⟩ 1 1 (ay [z]) (by simp [ay]) (fun j u hj=>by
  match j,hj with
  | 0,hj=>simp [ay] at hj;rw [<-hj,<-hc];simp [Addr.add]
  | j+1,hj=>simp [ay] at hj) (ints_oneCell .i64 [z]) hfit
 unfold Oper.wpIn;refine ⟨?_,?_⟩
 ·simp [Oper.about,ho,resolve,Target.leads,Sem.run_pure]
 ·rw [Oper.semAt_plain F _ _ (by rw [ho];intro c hc';cases hc')];simp [execOp,ho,resolve,invoke,builtin,hs,hx,hrun,Result.andThen];refine h w' ⟨?_,fun y hy=>?_⟩ (ae.of_grownBy r2 fun r e=>by simp only [sij] at e;subst e;exact fun h=>h rfl)
  ·rw [show ay (sg++[z])=ay sg++ay [z] by simp [ay],List.length_append];exact r1
  ·rcases map1 hy with hy|hy
   ·exact hroom.2 y hy
   ·rw [msg hy];exact hz

theorem OB (F:Fence) (hfn:∀f,F.fn f) (hro:F.round=none) (hd:F.depth=none) {l:List St} (hc:check l=true) (base:Nat) (K:Nat->Prop) (n sb so dZ wb wo eX dn dc yl:Nat) (da:OAd) (R:Nat) (J Jx:qg) (L:LLI) (hn:n=l.length) (hn2:n<=6001) (hJ:Stable base J)
 (i:Nat) (hi:i<n) (lQ:List (Int × Int)) (has:∀a∈lQ,a∈(l.getD i St.no).arcs) (hall:∀u,i<u->u<n->yR F base K l n sb so dZ wb wo eX dn dc yl da R J Jx L u)
 (m:Nat) (aa:OAd) (ak ac:Nat) (pre:List Wd) (sg:LIn) (O:Nat->Prop) (W:World) (hsg:sg.length<=i) (hak:ak<=ac) (hac:ac<=maxLen) (tV:yQ K W aa ak lQ)
 (h:nI base K l n sb so wb wo R J L pre sg ((byA l lQ).map (sg++·)) O W) :
 CallsIn F m Tryz.prog 146 #[tv n sb so dZ wb wo eX dn dc yl da,.slice aa ak ac,.slice (some ⟨R,0,none⟩) sg.length n] W (DX R n J Jx pre sg ((byA l lQ).map (sg++·)) O W):=by
 unfold maxLen at hac
 have mK:Hid (∀j,j<ak->∃(s:Int) (u:Nat),lQ.getD j (0,0)=(s,(u:Int))/\i<u/\u<n/\(Lit.int .i64 s).wf=true/\byA l (lQ.take (j+1))=byA l (lQ.take j)++(told l u).map (s::·)):=hdq fun j hj=>by
  have hjl:j<lQ.length:=by rw [tV.1];exact hj
  obtain ⟨s,t,hst⟩:∃s t,lQ.getD j (0,0)=(s,t):=⟨_,_,rfl⟩
  have hm:(s,t)∈lQ:=by
   rw [<-hst,gdq,geg hjl,Option.getD_some];exact List.getElem_mem _
  obtain ⟨h1,h2,h3⟩:=(ik hc omg).1 _ (has _ hm);simp only at h1 h2 h3;have hg:=(Utf.lX _).1 h1;obtain ⟨u,rfl⟩:∃u:Nat,t=(u:Int):=⟨t.toNat,by omega⟩;refine ⟨s,u,hst,by omega,by omega,WalkArith.wf_i64 omg,?_⟩;unfold byA;rw [sZ hjl hst,List.flatMap_append];simp
 have Kv:Hid (lQ.length=ak):=hdq tV.1;have iT:=hdq hall;have iW:=hdq h;have jc:=hdq tV;have Fh:=hdq hJ;clear hall h tV has hc hJ hn;refine callsIn_of_wp Tryz.func146 rfl (hfn _) ?_ hro;unfold tv;simp only [Tryz.ntmps146,List.size_toArray,List.length_cons,List.length_nil,Nat.reduceAdd,Nat.reduceSub,Array.replicate_succ,Array.replicate_zero,List.push_toArray,List.append_toArray,List.nil_append,List.cons_append]
 gi_wp2
 gi_loopw [11] (fun ix wr=>∃(j:Nat) (pre':List Wd) (O':Nat->Prop),j<=ak/\ix=.int .i64 (j:Int)/\Hid (nums pre'=nums pre++(byA l (lQ.take j)).map (sg++·))/\Hid (J pre' O' wr)/\Hid (ae (fun k=>¬O k/\k≠R) W wr)/\Hid (∀k,O' k->O k\/W.heap.size<=k/\k<wr.heap.size)/\Hid (Room R n sg wr) /\
  Hid (wr.heap[W.heap.size]?=some (.cells #[.slice (some ⟨sb,so,none⟩) n dZ,.slice da dn dc,.slice (some ⟨wb,wo,none⟩) n eX,.func (.yield yl) #[] #[]] 188 (0,0)))/\Hid (¬O' W.heap.size)) (fun ix _=>ak-(intOf ix).toNat)
 case atStart=>exact ⟨0,pre,O,Nat.zero_le _,rfl,by show _=_;simp [byA],Fh.out _ _ _ _ iW.out.j (ae.alloc _ _ _),ae.alloc _ _ _,fun k h=>.inl h,iW.out.room.keep (ae.alloc (fun _=>True) _ _) trivial,han W _,fun h=>by have:=iW.out.olt _ h;omega⟩
 case round =>
  obtain ⟨j,pre',O',hj,rfl,wU,HJ,HK,HO,zH,aN,oV⟩:=hrel;by_cases hlt:j<ak
  ·obtain ⟨s,u,hst,hiu,hun,hws,hby⟩:=mK.out j hlt;have bB:(j:Int)<(ak:Int):=omg;have Qv:ae K W wr:=HK.out.mono fun k _ hK=>⟨fun h'=>iW.out.far k h' hK,fun e=>iW.out.kR (e▸hK)⟩;obtain ⟨b,off,rfl,hKb,hcs⟩:=(jc.out.keep Qv).2.resolve_left omg;obtain ⟨y1,y2⟩:=hcs j hlt;rw [hst] at y1 y2;simp only at y1 y2
   have ZX:=hdq hby;have HKK:=hdq Qv;have hzb:=(hltq aN.out);clear hst hby hcs Qv
   gi_wp2
   obtain ⟨X,hX⟩:∃X,X=wr.alloc (.cells #[.int .i64 s,.int .i64 (u:Int)] 95):=⟨_,rfl⟩;have hkX:∀S,ae S wr X:=fun S=>by rw [hX];exact ae.alloc S wr _
   have zX:X.heap.size=wr.heap.size+1:=by rw [hX];simp
   have ZY:X.heap[wr.heap.size]?=some (.cells #[.int .i64 s,.int .i64 (u:Int)] 95):=by rw [hX];exact han wr _
   rw [<-hX];clear hX;have ZZ:X.heap[W.heap.size]?=_:=(hkX (fun _=>True)).heap aN.out trivial;have zA:R<W.heap.size:=by obtain ⟨cur,hc,_⟩:=iW.out.room.obj;exact (hltq hc)
   have aH:Hid (∀w',ae (fun k=>k=W.heap.size\/k=wr.heap.size) X w'->w'.cell? ⟨W.heap.size,0,none⟩=some (.slice (some ⟨sb,so,none⟩) n dZ)/\w'.cell? ⟨W.heap.size,1,none⟩=some (.slice da dn dc)/\w'.cell? ⟨W.heap.size,2,none⟩=some (.slice (some ⟨wb,wo,none⟩) n eX)/\w'.cell? ⟨W.heap.size,3,none⟩=some (.func (.yield yl) #[] #[]) /\
    w'.cell? ⟨wr.heap.size,0,none⟩=some (.int .i64 s)/\w'.cell? ⟨wr.heap.size,1,none⟩=some (.int .i64 (u:Int))):=hdq fun w' hk=>by
    have g1:=hk.heap ZZ (.inl rfl);have g2:=hk.heap ZY (.inr rfl);exact ⟨by rw [af g1];rfl,by rw [af g1];rfl,by rw [af g1];rfl,by rw [af g1];rfl,by rw [af g2];rfl,by rw [af g2];rfl⟩
   have xy:Hid (∀wA,ae (fun k=>k≠R) wr wA->ae (fun k=>¬O k/\k≠R) W wA):=hdq fun wA hk=>HK.out.trans' hk fun k _ h=>⟨h,h.2⟩
   have HPX:Hid (nums pre'++(told l u).map ((sg++[s])++·)=nums pre++(byA l (lQ.take (j+1))).map (sg++·)):=hdq (by
    rw [wU.out,ZX.out,List.map_append,List.append_assoc,List.map_map]
    congr 2
    refine List.map_congr_left fun x _=>?_
    simp)
   have HTD:Hid (nums pre'++(told l u).map ((sg++[s])++·) <+: L):=hdq (by
    rw [HPX.out];refine List.IsPrefix.trans ?_ iW.out.told;refine (List.prefix_append_right_inj _).2 ?_;refine List.IsPrefix.map _ ?_;unfold byA
    conv=>rhs;rw [<-List.take_append_drop (j+1) lQ,List.flatMap_append]
    exact List.prefix_append _ _)
   have jT:Hid (∀wA,Room R n (sg++[s]) wA->ae (fun k=>k≠R) wr wA->∀m,CallsIn F m Tryz.prog 144 #[.agg #[.slice (some ⟨sb,so,none⟩) n dZ,.slice da dn dc,.slice (some ⟨wb,wo,none⟩) n eX,.func (.yield yl) #[] #[]],.int .i64 (u:Int),.slice (some ⟨R,0,none⟩) (sg.length+1) n] wA (DX R n J Jx pre' (sg++[s]) ((told l u).map ((sg++[s])++·)) O' wA)):=hdq fun wA hr hk m=>by
    have hnR:¬O' R:=fun h'=>(HO.out R h').elim iW.out.no (fun h''=>by omega)
    have hj:J pre' O' wA:=Fh.out _ _ _ _ HJ.out (hk.mono fun k _ h=>by
     rcases h with h|h
     ·have:=iW.out.lowR;omega
     ·exact fun e=>hnR (e▸h))
    have h:=iT.out u hiu hun m pre' (sg++[s]) O' wA (by rw [List.length_append,List.length_singleton];omega)
     (iW.out.more (xy.out wA hk) (fun k hO=>(HO.out k hO).imp id fun h=>⟨h.1,Nat.lt_of_lt_of_le h.2 hk.size⟩) hr hj HTD.out)
    rw [List.length_append,List.length_singleton] at h;exact h
   have BQ:=hdq (zH.out.keep (hkX (fun _=>True)) trivial);have hfit:sg.length+1<=n:=omg;have hmx:Tryz.prog.follows .mixedOrders=true:=krf;have nJ:=hdq hkX;clear hkX ZY ZZ y1 y2 ZX;refine uH (S:=(fun w'=>w'.cell? ⟨W.heap.size,0,none⟩=some (.slice (some ⟨sb,so,none⟩) n dZ)/\w'.cell? ⟨W.heap.size,1,none⟩=some (.slice da dn dc)/\w'.cell? ⟨W.heap.size,2,none⟩=some (.slice (some ⟨wb,wo,none⟩) n eX)/\w'.cell? ⟨W.heap.size,3,none⟩=some (.func (.yield yl) #[] #[])/\w'.cell? ⟨wr.heap.size,0,none⟩=some (.int .i64 s)/\w'.cell? ⟨wr.heap.size,1,none⟩=some (.int .i64 (u:Int)))) krf (by first|((first|exact bP|exact bI|exact aK|exact aH.out _ (ae.drew _ X)))|((try dsimp only);(first|exact bP|exact bI|exact aK|exact aH.out _ (ae.drew _ X)))) (fun hHeld=>?_);refine t_f hfn 0 ?_;refine t_f hfn 1 ?_;refine t_f hfn 2 ?_;refine t_f hfn 3 ?_;refine t_f hfn 4 ?_;refine t_f hfn 5 ?_;refine r_f hfn 6 (fun K hK=>?_);refine ajm rfq (.tmp 20) s rfq rfq ?_;intro gB wB hcB hgB hkB;have Fj:∀S,ae S X wB:=fun S=>(ae.drew S X).trans (hkB S);have aK:=aH.out _ (Fj _);refine k_h hK (by first|((first|exact bP|exact bI|exact aK|exact aH.out _ (ae.drew _ X)))|(dsimp only;(first|exact bP|exact bI|exact aK|exact aH.out _ (ae.drew _ X)))) (fun hHeld=>?_);clear hK K;refine r_f hfn 7 (fun K hK=>?_);refine step_append_room rfq (.tmp 18) (.tmp 21) rfq R n sg.length sg rfl rfq (BQ.out.keep (Fj (fun _=>True)) trivial) hfit gB s rfq hcB hws ?_;intro wA uj rO;have BR:ae (fun k=>k≠R) wr wA:=((nJ.out _).trans (Fj _)).trans rO;have bI:=aH.out wA ((Fj _).trans (rO.mono fun k _ h=>by rcases h with rfl|rfl<;>omega))
   have zI:=hdq uj;clear uj;refine k_h hK (by first|((first|exact bP|exact bI|exact aK|exact aH.out _ (ae.drew _ X)))|(dsimp only;(first|exact bP|exact bI|exact aK|exact aH.out _ (ae.drew _ X)))) (fun hHeld=>?_);clear hK K;refine r_f hfn 8 (fun K hK=>?_);go_simp
   gi_at_call 144
   refine (jT.out wA zI.out BR _).mono ?_;rintro e w8 ⟨b8,O8,rfl,fM,qC,mD,rP,rQ⟩
   have bP:=aH.out w8 (((Fj _).trans (rO.mono fun k _ h=>by rcases h with rfl|rfl<;>omega)).trans (fM.mono fun k _ h=>by
    rcases h with rfl|rfl
    ·exact ⟨oV.out,by omega⟩
    ·exact ⟨fun h=>by rcases HO.out _ h with h|h;(have:=iW.out.olt _ h;have:=HK.out.size;omega);omega,by omega⟩))
   have vw:=hdq rP;have vz:=hdq rQ;have kz:Hid (ae (fun k=>¬O k/\k≠R) W w8):=hdq ((xy.out wA BR).trans' fM fun k hk h=>⟨h,fun h'=>(HO.out k h').elim h.1 (fun h''=>by omega),h.2⟩);have qy:Hid (∀k,O8 k->O k\/W.heap.size<=k/\k<w8.heap.size):=hdq fun k h=>(qC k h).elim (fun h'=>(HO.out k h').imp id fun h''=>⟨h''.1,by have:=BR.size;have:=fM.size;omega⟩) (fun h'=>.inr ⟨by have:=BR.size;omega,h'.2⟩);have nC:Hid (Room R n sg w8):=hdq mD.cut;have rC:Hid (w8.heap[W.heap.size]?=some (.cells #[.slice (some ⟨sb,so,none⟩) n dZ,.slice da dn dc,.slice (some ⟨wb,wo,none⟩) n eX,.func (.yield yl) #[] #[]] 188 (0,0))):=hdq (fM.heap (BR.heap aN.out omg) ⟨oV.out,by omega⟩);have HN8:Hid (¬O8 W.heap.size):=hdq fun h=>(qC _ h).elim oV.out (fun h=>by have:=BR.size;omega);clear rP rQ mD fM qC
   gi_wp2_with fail
   refine k_h hK (by first|((first|exact bP|exact bI|exact aK|exact aH.out _ (ae.drew _ X)))|(dsimp only;(first|exact bP|exact bI|exact aK|exact aH.out _ (ae.drew _ X)))) (fun hHeld=>?_);clear hK K;refine t_f hfn 9 ?_;refine mo krf ?_ _;clear hHeld;cases b8
   ·have vB:=hdq (vz.out rfl)
    gi_wp2
    go_ret;exact ⟨false,O8,rfl,kz.out,qy.out,nC.out,(fun h=>(by cases h)),fun _=>vB.out⟩
   ·obtain ⟨Ky,oW,En⟩:=vw.out rfl;have aof:Hid (nums Ky=nums pre++(byA l (lQ.take (j+1))).map (sg++·)):=hdq (by rw [oW,HPX.out])
    gi_wp2
    go_roundw
    case rel=>exact ⟨j+1,Ky,O8,by omega,by go_num,aof,En,kz.out,qy.out,nC.out,rC.out,HN8.out⟩
    case measure=>simp [intOf];omega
  ·have hjn:j=ak:=omg;have HE:Hid (nums pre'=nums pre++(byA l lQ).map (sg++·)):=hdq (by rw [wU.out,hjn,<-Kv.out,List.take_length]);clear hjn
   gi_wp2
   go_ret;exact ⟨true,O',rfl,HK.out,HO.out,zH.out,fun _=>⟨pre',HE.out,HJ.out⟩,fun h=>by cases h⟩
end
section
open Go.RowKit Go.Shelf Tri Wlk
attribute [local go_sem] Oper.semAt_some
attribute [local go_sem] run_store_func

def wI (x:Wd) (W:World):Prop:=x.Good W/\x.n<=10000/\x.a≠none
theorem wI.put {x:Wd} {W:World} {b:Nat} {r:Loop} (o:Obj) (h:wI x W) (hb:W.heap[b]?=some (.loop r)):wI x (W.putObj b o):=by
 refine ⟨?_,h.2⟩;obtain ⟨h1,h2,h3,h4,h5⟩:=h.1;refine ⟨h1,h2,h3,h4,?_⟩;rcases h5 with h5|⟨c,off,ha,hc⟩
 ·exact .inl h5
 ·refine .inr ⟨c,off,ha,fun i hi=>?_⟩;have h:=hc i hi
  have hne:c≠b:=fun e=>by
   subst e;unfold World.cell? at h;rw [hb] at h;cases h
  exact (World.cell?_of_block (w:=W) (World.putObj_heap_other hne)).trans h

theorem all_in (F:Fence) (hfn:∀f,F.fn f) (hro:F.round=none) (hd:F.depth=none) {l:List St} (hc:check l=true) (base:Nat) (K:Nat->Prop) (n sb so dZ wb wo eX dn dc yl:Nat) (da:OAd) (R:Nat) (J Jx:qg) (L:LLI) (hn:n=l.length) (hn2:n<=6001) (hns:n<=dZ/\dZ<=maxLen) (hnw:n<=eX/\eX<=maxLen) (hJ:Stable base J)
 (hY:∀(m:Nat) (pre:List Wd) (x:Wd) (O:Nat->Prop) (W1:World),nums (pre++[x]) <+: L->wI x W1->J pre O W1->YieldAt F m Tryz.prog yl #[x.v] W1 (yP J Jx (pre++[x]) O W1))
 (i:Nat) (hi:i<n) (hall:∀u,i<u->u<n->yR F base K l n sb so dZ wb wo eX dn dc yl da R J Jx L u):yR F base K l n sb so dZ wb wo eX dn dc yl da R J Jx L i:=by
 intro m pre sg O W hsg h;have htold:=WB hc (i:=i) omg;obtain ⟨asB,aog⟩:=hns;obtain ⟨asC,aoh⟩:=hnw;unfold maxLen at aog aoh;have hmx:Tryz.prog.follows .mixedOrders=true:=krf;have iW:=hdq h;have iT:=hdq hall;have qD:=hdq htold;have Fh:=hdq hJ;have Qw:=hdq hY;have aab:=fun (m:Nat)=>OB F hfn hro hd hc base K n sb so dZ wb wo eX dn dc yl da R J Jx L hn hn2 hJ i hi (goes l i (-1)) (fun a ha=>(tu ha).1) hall m;have eu:=hdq aab;have hii:(i:Int)<(n:Int):=omg;have hi0:(0:Int)<=(i:Int):=omg;have zA:R<W.heap.size:=by obtain ⟨cur,hc,_⟩:=h.room.obj;exact (hltq hc)
 have hfin:=h.tel.fin i hi;have hsb:=h.klt sb h.tel.ks;obtain ⟨fb,Fp⟩:∃fb,(l.getD i St.no).final=fb:=⟨_,rfl⟩;rw [Fp] at hfin htold;have xA:=hdq Fp;obtain ⟨X0,hX0⟩:∃X0,X0=W.alloc (.cells #[.slice (some ⟨sb,so,none⟩) n dZ,.slice da dn dc,.slice (some ⟨wb,wo,none⟩) n eX,.func (.yield yl) #[] #[]] 188):=⟨_,rfl⟩;have hk0:∀S,ae S W X0:=fun S=>by rw [hX0];exact ae.alloc S W _
 have z0:X0.heap.size=W.heap.size+1:=by rw [hX0];simp
 have hB0:X0.heap[W.heap.size]?=some (.cells #[.slice (some ⟨sb,so,none⟩) n dZ,.slice da dn dc,.slice (some ⟨wb,wo,none⟩) n eX,.func (.yield yl) #[] #[]] 188):=by rw [hX0];exact han W _
 have hf0:X0.cell? ⟨sb,so+i*2,none⟩=some (.bool fb):=(hk0 (fun _=>True)).cell hfin trivial;have hn0:¬O W.heap.size:=fun h'=>by have:=h.olt _ h';omega
 have hj0:J pre O X0:=hJ _ _ _ _ h.j (hk0 _)
 have Fq:Hid (∀(X:World) (OX:Nat->Prop) (fB:List Wd),ae (fun k=>¬O k/\k≠R) W X->(∀k,OX k->O k\/W.heap.size<=k/\k<X.heap.size)->Room R n sg X->J fB OX X->nums fB++(byA l (goes l i (-1))).map (sg++·)=nums pre++(told l i).map (sg++·) ->
  nI base K l n sb so wb wo R J L fB sg ((byA l (goes l i (-1))).map (sg++·)) OX X):=hdq fun X OX fB hk ho hr hj he=>h.more hk ho hr hj (by rw [he];exact h.told)
 clear hfin h hall htold hJ hY aab hc hn;refine callsIn_of_wp Tryz.func144 rfl (hfn _) ?_ hro;unfold tv;simp only [Tryz.ntmps144,List.size_toArray,List.length_cons,List.length_nil,Nat.reduceAdd,Nat.reduceSub,Array.replicate_succ,Array.replicate_zero,List.push_toArray,List.append_toArray,List.nil_append,List.cons_append];cases fb
 ·have hT:told l i=byA l (goes l i (-1)):=by rw [qD.out,xA.out];rfl
  have oZ:=hdq (Fq.out X0 O pre (hk0 _) (fun k h=>.inl h) (iW.out.room.keep (hk0 (fun _=>True)) trivial) hj0 (by rw [hT]));have c0:X0.cell? ⟨W.heap.size,0,none⟩=some (.slice (some ⟨sb,so,none⟩) n dZ):=by rw [af hB0];rfl
  rw [hX0] at c0 hf0;obtain ⟨X,OX,fB,hX⟩:∃X OX fB,X=X0/\OX=O/\fB=pre:=⟨_,_,_,rfl,rfl,rfl⟩;obtain ⟨rfl,rfl,rfl⟩:=hX;have nJ:Hid (ae (fun k=>¬OX k/\k≠R) W X):=hdq (hk0 _);have eY:Hid (∀k,OX k->OX k\/W.heap.size<=k/\k<X.heap.size):=hdq fun k h=>.inl h;have jd:Hid (nums fB++(byA l (goes l i (-1))).map (sg++·)=nums fB++(told l i).map (sg++·)):=hdq (by rw [hT]);have jf:=hB0;have Qx:=hn0;have zX:W.heap.size<X.heap.size:=omg;clear hT hj0 Fq Qw qD hB0 hn0
  gi_wp2
  rw [<-hX0];clear hX0 c0 hf0;obtain ⟨aa,ak,ac,hcw,hak,hac,Fs⟩:=oZ.out.tel.way i hi
  have aH:Hid (∀w',ae (fun k=>k=W.heap.size\/K k) X w'->w'.cell? ⟨W.heap.size,0,none⟩=some (.slice (some ⟨sb,so,none⟩) n dZ)/\w'.cell? ⟨W.heap.size,1,none⟩=some (.slice da dn dc)/\w'.cell? ⟨W.heap.size,2,none⟩=some (.slice (some ⟨wb,wo,none⟩) n eX)/\w'.cell? ⟨W.heap.size,3,none⟩=some (.func (.yield yl) #[] #[])/\w'.cell? ⟨wb,wo+i,none⟩=some (.slice aa ak ac)):=hdq fun w' hk=>by
   have g1:=hk.heap jf (.inl rfl);exact ⟨by rw [af g1];rfl,by rw [af g1];rfl,by rw [af g1];rfl,by rw [af g1];rfl,hk.cell hcw (.inr oZ.out.tel.kw)⟩
  have Fu:Hid (nI base K l n sb so wb wo R J L fB sg ((byA l (goes l i (-1))).map (sg++·)) OX X.drew):=hdq (oZ.out.drawn Fh.out);have xy:=hdq Fs;clear hcw Fs;refine uH (S:=(fun w'=>w'.cell? ⟨W.heap.size,0,none⟩=some (.slice (some ⟨sb,so,none⟩) n dZ)/\w'.cell? ⟨W.heap.size,1,none⟩=some (.slice da dn dc)/\w'.cell? ⟨W.heap.size,2,none⟩=some (.slice (some ⟨wb,wo,none⟩) n eX)/\w'.cell? ⟨W.heap.size,3,none⟩=some (.func (.yield yl) #[] #[])/\w'.cell? ⟨wb,wo+i,none⟩=some (.slice aa ak ac))) krf (by first|((first|exact bP|exact aH.out _ (ae.drew _ X)))|((try dsimp only);(first|exact bP|exact aH.out _ (ae.drew _ X)))) (fun hHeld=>?_);refine t_f hfn 0 ?_;refine t_f hfn 1 ?_;refine t_f hfn 2 ?_;refine t_f hfn 3 ?_;refine t_f hfn 4 ?_;refine t_f hfn 5 ?_;refine t_f hfn 6 ?_;refine r_f hfn 7 (fun K hK=>?_);go_simp
  gi_at_call 146
  refine (eu.out _ aa ak ac fB sg OX X.drew hsg hak hac (xy.out.keep (ae.drew _ _)) Fu.out).mono ?_;rintro e w8 ⟨b8,O8,rfl,fM,qC,mD,rP,rQ⟩
  have bP:=aH.out w8 ((ae.drew _ X).trans (fM.mono fun k _ h=>by
   rcases h with rfl|h
   ·exact ⟨Qx,by omega⟩
   ·exact ⟨fun h'=>oZ.out.far k h' h,fun e=>oZ.out.kR (e▸h)⟩))
  have kz:Hid (ae (fun k=>¬OX k/\k≠R) W w8):=hdq (nJ.out.trans' ((ae.drew (fun k=>¬OX k/\k≠R) X).trans fM) fun k hk h=>⟨h,fun h'=>(eY.out k h').elim h.1 (fun h''=>by omega),h.2⟩);have hz8:X.heap.size<=w8.heap.size:=fM.size;have qy:Hid (∀k,O8 k->OX k\/W.heap.size<=k/\k<w8.heap.size):=hdq fun k h=>(qC k h).elim (fun h'=>(eY.out k h').imp id fun h''=>⟨h''.1,by omega⟩) (fun h'=>.inr ⟨by have h9:=h'.1;simp only [World.drew_size'] at h9;omega,h'.2⟩);have nC:=hdq mD;have vw:=hdq rP;have vz:=hdq rQ;clear rP rQ mD qC fM
  gi_wp2_with fail
  refine k_h hK (by first|((first|exact bP|exact aH.out _ (ae.drew _ X)))|(dsimp only;(first|exact bP|exact aH.out _ (ae.drew _ X)))) (fun hHeld=>?_);clear hK K;refine t_f hfn 8 ?_;refine mo krf ?_ _;clear hHeld
  gi_wp2
  go_ret;exact ⟨b8,O8,rfl,kz.out,qy.out,nC.out,(fun hb=>by obtain ⟨pre',e1,e2⟩:=vw.out hb;exact ⟨pre',by rw [e1];exact jd.out,e2⟩),vz.out⟩
 ·have hT:told l i=[]::byA l (goes l i (-1)):=by rw [qD.out,xA.out];rfl
  have hr0:Room R n sg X0:=iW.out.room.keep (hk0 (fun _=>True)) trivial
  have hpre:nums (pre++[(⟨some ⟨R,0,none⟩,sg.length,n,sg⟩:Wd)]) <+: L:=by
   refine List.IsPrefix.trans ?_ iW.out.told;rw [hT,nums_app,List.map_cons,List.append_nil];exact ⟨(byA l (goes l i (-1))).map (sg++·),by rw [List.append_assoc];rfl⟩
  have hYA:YieldAt F (m-1) Tryz.prog yl #[.slice (some ⟨R,0,none⟩) sg.length n] X0 (yP J Jx (pre++[(⟨some ⟨R,0,none⟩,sg.length,n,sg⟩:Wd)]) O X0):=Qw.out (m-1) pre ⟨some ⟨R,0,none⟩,sg.length,n,sg⟩ O X0 hpre ⟨hr0.word,by show sg.length<=_;omega,by show some _≠none;simp⟩ hj0;obtain ⟨fn,tmps,assign,body,hy,hR⟩:=hYA;have HR:RoundIn F (m-1) Tryz.prog yl fn tmps assign body X0 (yP J Jx (pre++[(⟨some ⟨R,0,none⟩,sg.length,n,sg⟩:Wd)]) O X0):=hR;have c0:X0.cell? ⟨W.heap.size,0,none⟩=some (.slice (some ⟨sb,so,none⟩) n dZ):=by rw [af hB0];rfl
  have c3:X0.cell? ⟨W.heap.size,3,none⟩=some (.func (.yield yl) #[] #[]):=by rw [af hB0];rfl
  have oM:=hdq hr0;rw [hX0] at c0 c3 hf0 hy;clear hR hpre hr0 hj0 Qw qD
  gi_wp2
  rw [<-hX0];refine HR.mono ?_;rintro e X ⟨OX,hkX,Fv,(⟨rfl,Qy⟩|⟨rfl,aac⟩)⟩
  ·obtain ⟨fB,Qz⟩:∃fB:List Wd,fB=pre++[(⟨some ⟨R,0,none⟩,sg.length,n,sg⟩:Wd)]:=⟨_,rfl⟩;rw [<-Qz] at Qy;have hRX:Room R n sg X:=oM.out.keep hkX iW.out.no;have nJ:Hid (ae (fun k=>¬O k/\k≠R) W X):=hdq ((hk0 _).trans (hkX.mono fun k _ h=>h.1));have eY:Hid (∀k,OX k->O k\/W.heap.size<=k/\k<X.heap.size):=hdq fun k h=>(Fv k h).imp id fun h=>⟨by omega,h.2⟩
   have jd:Hid (nums fB++(byA l (goes l i (-1))).map (sg++·)=nums pre++(told l i).map (sg++·)):=hdq (by
    rw [hT,Qz,nums_app,List.map_cons,List.append_nil,List.append_assoc];rfl)
   have oZ:=hdq (Fq.out X OX fB nJ.out eY.out hRX Qy jd.out);have jf:=hkX.heap hB0 hn0;have Qx:¬OX W.heap.size:=fun h=>(Fv _ h).elim hn0 (fun h=>by omega);have zX:W.heap.size<X.heap.size:=by have:=hkX.size;omega
   clear hT Qz Qy hRX hkX Fv hX0 c0 c3 hf0 Fq hB0 hy HR oM
   gi_wp2
   obtain ⟨aa,ak,ac,hcw,hak,hac,Fs⟩:=oZ.out.tel.way i hi
   have aH:Hid (∀w',ae (fun k=>k=W.heap.size\/K k) X w'->w'.cell? ⟨W.heap.size,0,none⟩=some (.slice (some ⟨sb,so,none⟩) n dZ)/\w'.cell? ⟨W.heap.size,1,none⟩=some (.slice da dn dc)/\w'.cell? ⟨W.heap.size,2,none⟩=some (.slice (some ⟨wb,wo,none⟩) n eX)/\w'.cell? ⟨W.heap.size,3,none⟩=some (.func (.yield yl) #[] #[])/\w'.cell? ⟨wb,wo+i,none⟩=some (.slice aa ak ac)):=hdq fun w' hk=>by
    have g1:=hk.heap jf (.inl rfl);exact ⟨by rw [af g1];rfl,by rw [af g1];rfl,by rw [af g1];rfl,by rw [af g1];rfl,hk.cell hcw (.inr oZ.out.tel.kw)⟩
   have Fu:Hid (nI base K l n sb so wb wo R J L fB sg ((byA l (goes l i (-1))).map (sg++·)) OX X.drew):=hdq (oZ.out.drawn Fh.out);have xy:=hdq Fs;clear hcw Fs;refine uH (S:=(fun w'=>w'.cell? ⟨W.heap.size,0,none⟩=some (.slice (some ⟨sb,so,none⟩) n dZ)/\w'.cell? ⟨W.heap.size,1,none⟩=some (.slice da dn dc)/\w'.cell? ⟨W.heap.size,2,none⟩=some (.slice (some ⟨wb,wo,none⟩) n eX)/\w'.cell? ⟨W.heap.size,3,none⟩=some (.func (.yield yl) #[] #[])/\w'.cell? ⟨wb,wo+i,none⟩=some (.slice aa ak ac))) krf (by first|((first|exact bP|exact aH.out _ (ae.drew _ X)))|((try dsimp only);(first|exact bP|exact aH.out _ (ae.drew _ X)))) (fun hHeld=>?_);refine t_f hfn 0 ?_;refine t_f hfn 1 ?_;refine t_f hfn 2 ?_;refine t_f hfn 3 ?_;refine t_f hfn 4 ?_;refine t_f hfn 5 ?_;refine t_f hfn 6 ?_;refine r_f hfn 7 (fun K hK=>?_);go_simp
   gi_at_call 146
   refine (eu.out _ aa ak ac fB sg OX X.drew hsg hak hac (xy.out.keep (ae.drew _ _)) Fu.out).mono ?_;rintro e w8 ⟨b8,O8,rfl,fM,qC,mD,rP,rQ⟩
   have bP:=aH.out w8 ((ae.drew _ X).trans (fM.mono fun k _ h=>by
    rcases h with rfl|h
    ·exact ⟨Qx,by omega⟩
    ·exact ⟨fun h'=>oZ.out.far k h' h,fun e=>oZ.out.kR (e▸h)⟩))
   have kz:Hid (ae (fun k=>¬O k/\k≠R) W w8):=hdq (nJ.out.trans' ((ae.drew (fun k=>¬OX k/\k≠R) X).trans fM) fun k hk h=>⟨h,fun h'=>(eY.out k h').elim h.1 (fun h''=>by omega),h.2⟩);have hz8:X.heap.size<=w8.heap.size:=fM.size;have qy:Hid (∀k,O8 k->O k\/W.heap.size<=k/\k<w8.heap.size):=hdq fun k h=>(qC k h).elim (fun h'=>(eY.out k h').imp id fun h''=>⟨h''.1,by omega⟩) (fun h'=>.inr ⟨by have h9:=h'.1;simp only [World.drew_size'] at h9;omega,h'.2⟩);have nC:=hdq mD;have vw:=hdq rP;have vz:=hdq rQ;clear rP rQ mD qC fM
   gi_wp2_with fail
   refine k_h hK (by first|((first|exact bP|exact aH.out _ (ae.drew _ X)))|(dsimp only;(first|exact bP|exact aH.out _ (ae.drew _ X)))) (fun hHeld=>?_);clear hK K;refine t_f hfn 8 ?_;refine mo krf ?_ _;clear hHeld
   gi_wp2
   go_ret;exact ⟨b8,O8,rfl,kz.out,qy.out,nC.out,(fun hb=>by obtain ⟨pre',e1,e2⟩:=vw.out hb;exact ⟨pre',by rw [e1];exact jd.out,e2⟩),vz.out⟩
  ·have nJ:Hid (ae (fun k=>¬O k/\k≠R) W X):=hdq ((hk0 _).trans (hkX.mono fun k _ h=>h.1));have eY:Hid (∀k,OX k->O k\/W.heap.size<=k/\k<X.heap.size):=hdq fun k h=>(Fv k h).imp id fun h=>⟨by omega,h.2⟩;have BQ:=hdq (oM.out.keep hkX iW.out.no);have kJ:=hdq aac;clear hT hkX Fv hX0 c0 c3 hf0 Fq hB0 hy HR oM aac
   gi_wp2
   go_ret;exact ⟨false,OX,rfl,nJ.out,eY.out,BQ.out,(fun h=>(by cases h)),fun _=>⟨_,kJ.out⟩⟩

theorem Ju (F:Fence) (hfn:∀f,F.fn f) (hro:F.round=none) (hd:F.depth=none) {l:List St} (hc:check l=true) (base:Nat) (K:Nat->Prop) (n sb so dZ wb wo eX dn dc yl:Nat) (da:OAd) (R:Nat) (J Jx:qg) (L:LLI) (hn:n=l.length) (hn2:n<=6001) (hns:n<=dZ/\dZ<=maxLen) (hnw:n<=eX/\eX<=maxLen) (hJ:Stable base J)
 (hY:∀(m:Nat) (pre:List Wd) (x:Wd) (O:Nat->Prop) (W1:World),nums (pre++[x]) <+: L->wI x W1->J pre O W1->YieldAt F m Tryz.prog yl #[x.v] W1 (yP J Jx (pre++[x]) O W1)) :
 ∀(k i:Nat),i<n->n-i<=k->yR F base K l n sb so dZ wb wo eX dn dc yl da R J Jx L i
 | 0,i,hi,h=>by omega
 | k+1,i,hi,h=>all_in F hfn hro hd hc base K n sb so dZ wb wo eX dn dc yl da R J Jx L hn hn2 hns hnw hJ hY i hi fun u h1 h2=>Ju F hfn hro hd hc base K n sb so dZ wb wo eX dn dc yl da R J Jx L hn hn2 hns hnw hJ hY k u h2 omg
end
end Go.Proofs.YtkiamgcpcneggaaGreat
