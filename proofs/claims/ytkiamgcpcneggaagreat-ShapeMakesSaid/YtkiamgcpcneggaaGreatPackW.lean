import Derived.Test.YtkiamgcpcneggaaGreatPackY
set_option linter.all false
set_option maxRecDepth 100000
set_option maxHeartbeats 12800000
namespace Go.Proofs.YtkiamgcpcneggaaGreat
section
open Go.RowKit Go.Shelf Tri Wlk
attribute [local go_sem] Oper.semAt_some
attribute [local go_sem] iu

def Room (R n:Nat) (sg:List Int) (W:World):Prop :=
 W.ownsRow R 3 1 (.slice (some ⟨R,0,none⟩) sg.length n) sg.length (ah sg)/\∀z∈sg,(Lit.int .i64 z).wf=true
theorem Room.obj {R n:Nat} {sg:List Int} {W:World} (h:Room R n sg W):∃cur,W.heap[R]?=some (.cells cur 3)/\sg.length<=n/\n<=maxLen/\cur.size=n/\cur.toList.take sg.length=ah sg:=by
 rcases h.1.2 with ⟨e,_⟩|⟨g,cap,cur,e,_,h1,h2,h3,h4,h5⟩
 ·cases e
 ·simp only [Value.slice.injEq,sij,Addr.mk.injEq,true_and,and_true] at e;obtain ⟨rfl,rfl⟩:=e;exact ⟨cur,h1,h2,h3,by simpa using h4,by simpa using h5⟩
theorem Room.of {R n:Nat} {sg:List Int} {W:World} {cur:Array Value} (h1:W.heap[R]?=some (.cells cur 3)) (h2:sg.length<=n) (h3:n<=maxLen) (h4:cur.size=n) (h5:cur.toList.take sg.length=ah sg) (hw:∀z∈sg,(Lit.int .i64 z).wf=true):Room R n sg W :=
 ⟨⟨by simp [ah],.inr ⟨R,n,cur,rfl,Nat.le_refl _,h1,h2,h3,by simpa using h4,by simpa using h5⟩⟩,hw⟩
theorem Room.cut {R n:Nat} {sg t:List Int} {W:World} (h:Room R n (sg++t) W):Room R n sg W:=by
 obtain ⟨cur,h1,h2,h3,h4,h5⟩:=h.obj;rw [List.length_append] at h2;refine Room.of h1 (by omega) h3 h4 ?_ fun z hz=>h.2 z (by simp [hz])
 have:=congrArg (List.take sg.length) h5;rw [List.take_take,Nat.min_eq_left (by simp)] at this
 rw [this];simp [ah]
theorem Room.keep {R n:Nat} {sg:List Int} {W W':World} {S:Nat->Prop} (h:Room R n sg W) (hk:Keep S W W') (hR:S R):Room R n sg W' :=
 ⟨fy h.1 hk (fun r e=>by
  have:R=r:=by simpa [Value.ownBlock] using e
  rw [<-this];exact hR),h.2⟩
theorem Room.word {R n:Nat} {sg:List Int} {W:World} (h:Room R n sg W):Sl .i64 W (some ⟨R,0,none⟩) sg.length n sg:=Sl.of_owns h.1 h.2 rfl

def Arow (K:Nat->Prop) (W:World) (a:Option Addr) (k:Nat) (g:List (Int × Int)):Prop :=
 g.length=k/\(k=0\/∃b off,a=some ⟨b,off,none⟩/\K b/\∀i,i<k->W.cell? ⟨b,off+i*2,none⟩=some (.int .i64 (g.getD i (0,0)).1)/\W.cell? ⟨b,off+i*2+1,none⟩=some (.int .i64 (g.getD i (0,0)).2))
theorem Arow.keep {K:Nat->Prop} {W W':World} {a:Option Addr} {k:Nat} {g:List (Int × Int)} (h:Arow K W a k g) (hk:Keep K W W'):Arow K W' a k g:=by
 refine ⟨h.1,?_⟩;rcases h.2 with h0|⟨b,off,ha,hb,hc⟩
 ·exact .inl h0
 ·exact .inr ⟨b,off,ha,hb,fun i hi=>⟨hk.cell (hc i hi).1 hb,hk.cell (hc i hi).2 hb⟩⟩
structure Tel (K:Nat->Prop) (l:List St) (n sb so wb wo:Nat) (W:World):Prop where
 fin:∀i,i<n->W.cell? ⟨sb,so+i*2,none⟩=some (.bool (l.getD i St.no).final)
 way:∀i,i<n->∃a k c,W.cell? ⟨wb,wo+i,none⟩=some (.slice a k c)/\k<=c/\c<=maxLen/\Arow K W a k (goes l i (-1))
 ks:K sb
 kw:K wb
theorem Tel.keep {K:Nat->Prop} {l:List St} {n sb so wb wo:Nat} {W W':World} (h:Tel K l n sb so wb wo W) (hk:Keep K W W'):Tel K l n sb so wb wo W' :=
 ⟨fun i hi=>hk.cell (h.fin i hi) h.ks,fun i hi=>by
  obtain ⟨a,k,c,h1,h2,h3,h4⟩:=h.way i hi
  exact ⟨a,k,c,hk.cell h1 h.kw,h2,h3,h4.keep hk⟩,h.ks,h.kw⟩

abbrev ma:=List Wd->(Nat->Prop)->World->Prop
structure Tin (base:Nat) (K:Nat->Prop) (l:List St) (n sb so wb wo R:Nat) (J:ma) (L:List (List Int)) (pre:List Wd) (sg:List Int) (ws:List (List Int)) (O:Nat->Prop) (W:World):Prop where
 tel:Tel K l n sb so wb wo W
 room:Room R n sg W
 j:J pre O W
 told:nums pre++ws <+: L
 far:∀k,O k->¬K k
 kR:¬K R
 no:¬O R
 low:base<=W.heap.size
 lowR:base<=R
 klt:∀k,K k->k<W.heap.size
 olt:∀k,O k->k<W.heap.size
def Tout (R n:Nat) (J Jx:ma) (pre:List Wd) (sg:List Int) (ws:List (List Int)) (O:Nat->Prop) (W:World) (e:Ending) (W':World):Prop :=
 ∃(b:Bool) (O':Nat->Prop),e=.returned (.bool b)/\Keep (fun k=>¬O k/\k≠R) W W'/\(∀k,O' k->O k\/W.heap.size<=k/\k<W'.heap.size)/\Room R n sg W' /\
  (b=true->∃pre',nums pre'=nums pre++ws/\J pre' O' W')/\(b=false->∃pre',Jx pre' O' W')
theorem Tin.more {base:Nat} {K:Nat->Prop} {l:List St} {n sb so wb wo R:Nat} {J:ma} {L:List (List Int)} {pre pre':List Wd} {sg sg':List Int} {ws ws':List (List Int)} {O O':Nat->Prop} {W W':World} (h:Tin base K l n sb so wb wo R J L pre sg ws O W)
 (hk:Keep (fun k=>¬O k/\k≠R) W W') (ho:∀k,O' k->O k\/W.heap.size<=k/\k<W'.heap.size) (hR:Room R n sg' W') (hj:J pre' O' W') (ht:nums pre'++ws' <+: L):Tin base K l n sb so wb wo R J L pre' sg' ws' O' W' :=
 have hkk:Keep K W W':=hk.mono fun k _ hK=>⟨fun h'=>h.far k h' hK,fun e=>h.kR (e▸hK)⟩
 ⟨h.tel.keep hkk,hR,hj,ht,fun k hO hK=>(ho k hO).elim (fun h'=>h.far k h' hK) (fun h'=>by have:=h.klt k hK;omega),h.kR,fun h'=>(ho R h').elim h.no (fun h''=>by
  obtain ⟨cur,hc,_⟩:=h.room.obj;have:=(hltq hc)
  omega),Nat.le_trans h.low hk.size,h.lowR,fun k hK=>Nat.lt_of_lt_of_le (h.klt k hK) hk.size,fun k hO=>(ho k hO).elim (fun h'=>Nat.lt_of_lt_of_le (h.olt k h') hk.size) (fun h'=>h'.2)⟩
theorem World.drew_size' (w:World):w.drew.heap.size=w.heap.size:=rfl
theorem Tin.drawn {base:Nat} {K:Nat->Prop} {l:List St} {n sb so wb wo R:Nat} {J:ma} {L:List (List Int)} {pre:List Wd} {sg:List Int} {ws:List (List Int)} {O:Nat->Prop} {W:World} (h:Tin base K l n sb so wb wo R J L pre sg ws O W) (hJ:Stable base J):Tin base K l n sb so wb wo R J L pre sg ws O W.drew :=
 ⟨h.tel.keep (Keep.drew _ _),h.room.keep (Keep.drew (fun _=>True) _) trivial,hJ _ _ _ _ h.j (Keep.drew _ _),h.told,h.far,h.kR,h.no,h.low,h.lowR,h.klt,h.olt⟩
def tv (n sb so scap wb wo wcap dn dc yl:Nat) (da:Option Addr):Value:=.agg #[.slice (some ⟨sb,so,none⟩) n scap,.slice da dn dc,.slice (some ⟨wb,wo,none⟩) n wcap,.func (.yield yl) #[] #[]]
def AllAt (F:Fence) (base:Nat) (K:Nat->Prop) (l:List St) (n sb so scap wb wo wcap dn dc yl:Nat) (da:Option Addr) (R:Nat) (J Jx:ma) (L:List (List Int)) (i:Nat):Prop :=
 ∀(m:Nat) (pre:List Wd) (sg:List Int) (O:Nat->Prop) (W:World),sg.length<=i->Tin base K l n sb so wb wo R J L pre sg ((told l i).map (sg++·)) O W ->
  CallsIn F m Tryz.prog 144 #[tv n sb so scap wb wo wcap dn dc yl da,.int .i64 (i:Int),.slice (some ⟨R,0,none⟩) sg.length n] W (Tout R n J Jx pre sg ((told l i).map (sg++·)) O W)

theorem vn {F:Fence} {n:Nat} {w:World} {ops:Array Oper} {o:Oper} {act:Act} {K:Act->World->Prop} {Q:Exit->Act->World->Prop} {E:Prop} (hw:Region.wanted o (yielded ops act.tmps)=true) (x:Operand) (s:Int)
 (ho:o.op=.buildSlice 51 1 #[(0,x)]) (hx:act.eval x=.int .i64 s) (h:∀g w',w'.cell? ⟨g,0,none⟩=some (.int .i64 s)->g=w.heap.size->(∀S,Keep S w w')->K (act.put o.dst (.slice (some ⟨g,0,none⟩) 1 1)) w') :
 if Region.wanted o (yielded ops act.tmps)=true then o.wpIn F n Tryz.prog act w K Q else E:=by
 rw [if_pos hw];unfold Oper.wpIn;refine ⟨by simp [Oper.about,ho],?_⟩
 rw [Oper.semAt_plain F _ _ (by rw [ho];intro c hc;cases hc)]
 simp only [execOp,ho,List.map_toArray,List.map_cons,List.map_nil,hx];go_simp;exact h _ _ (by rw [World.cell?,han];rfl) rfl (fun S=>Keep.alloc S w _)
theorem yo {F:Fence} {m:Nat} {w:World} {ops:Array Oper} {o:Oper} {act:Act} {K:Act->World->Prop} {Q:Exit->Act->World->Prop} {E:Prop} (hw:Region.wanted o (yielded ops act.tmps)=true) (s x:Operand)
 (ho:o.op=.call { callee:=.builtin .append,args:=#[s,x],argTypes:=#[51,51] }) (R n k:Nat) (sg:List Int) (hk:sg.length=k) (hs:act.eval s=.slice (some ⟨R,0,none⟩) k n) (hroom:Room R n sg w) (hfit:k+1<=n)
 (g:Nat) (z:Int) (hx:act.eval x=.slice (some ⟨g,0,none⟩) 1 1) (hc:w.cell? ⟨g,0,none⟩=some (.int .i64 z)) (hz:(Lit.int .i64 z).wf=true)
 (h:∀w',Room R n (sg++[z]) w'->Keep (fun b=>b≠R) w w'->K (act.put o.dst (.slice (some ⟨R,0,none⟩) (k+1) n)) w') :
 if Region.wanted o (yielded ops act.tmps)=true then o.wpIn F m Tryz.prog act w K Q else E:=by
 subst hk;rw [if_pos hw];obtain ⟨i0,hi,hz0,hz1,hz2⟩:=info_parts fq
 obtain ⟨w',hrun,r1,r2⟩:=run_append_fits (P:=Tryz.prog) w R 51 o.type 3 i0 1 Tryz.underlying51 hi hz1 R sg.length n (ah sg) hroom.1 ⟨g,0,none⟩ 1 1 (ah [z]) (by simp [ah]) (fun j u hj=>by
  match j,hj with
  | 0,hj=>simp [ah] at hj;rw [<-hj,<-hc];simp [Addr.add]
  | j+1,hj=>simp [ah] at hj) (ints_oneCell .i64 [z]) hfit
 unfold Oper.wpIn;refine ⟨?_,?_⟩
 ·simp [Oper.about,ho,resolve,Target.leads,Sem.run_pure]
 ·rw [Oper.semAt_plain F _ _ (by rw [ho];intro c hc';cases hc')]
  simp [execOp,ho,resolve,invoke,builtin,hs,hx,hrun,Result.andThen];refine h w' ⟨?_,fun y hy=>?_⟩ (Keep.of_grownBy r2 fun r e=>by simp only [sij] at e;subst e;exact fun h=>h rfl)
  ·rw [show ah (sg++[z])=ah sg++ah [z] by simp [ah],List.length_append];exact r1
  ·rcases map1 hy with hy|hy
   ·exact hroom.2 y hy
   ·rw [msg hy];exact hz

theorem alo (F:Fence) (hfn:∀f,F.fn f) (hro:F.round=none) (hd:F.depth=none) {l:List St} (hc:check l=true) (base:Nat) (K:Nat->Prop) (n sb so scap wb wo wcap dn dc yl:Nat) (da:Option Addr) (R:Nat) (J Jx:ma) (L:List (List Int)) (hn:n=l.length) (hn2:n<=6001) (hJ:Stable base J)
 (i:Nat) (hi:i<n) (ars:List (Int × Int)) (has:∀a∈ars,a∈(l.getD i St.no).arcs) (hall:∀u,i<u->u<n->AllAt F base K l n sb so scap wb wo wcap dn dc yl da R J Jx L u)
 (m:Nat) (aa:Option Addr) (ak ac:Nat) (pre:List Wd) (sg:List Int) (O:Nat->Prop) (W:World) (hsg:sg.length<=i) (hak:ak<=ac) (hac:ac<=maxLen) (harc:Arow K W aa ak ars)
 (h:Tin base K l n sb so wb wo R J L pre sg ((byA l ars).map (sg++·)) O W) :
 CallsIn F m Tryz.prog 146 #[tv n sb so scap wb wo wcap dn dc yl da,.slice aa ak ac,.slice (some ⟨R,0,none⟩) sg.length n] W (Tout R n J Jx pre sg ((byA l ars).map (sg++·)) O W):=by
 unfold maxLen at hac
 have HARC:Hid (∀j,j<ak->∃(s:Int) (u:Nat),ars.getD j (0,0)=(s,(u:Int))/\i<u/\u<n/\(Lit.int .i64 s).wf=true/\byA l (ars.take (j+1))=byA l (ars.take j)++(told l u).map (s::·)):=hdq fun j hj=>by
  have hjl:j<ars.length:=by rw [harc.1];exact hj
  obtain ⟨s,t,hst⟩:∃s t,ars.getD j (0,0)=(s,t):=⟨_,_,rfl⟩
  have hm:(s,t)∈ars:=by
   rw [<-hst,gdq,geg hjl,Option.getD_some];exact List.getElem_mem _
  obtain ⟨h1,h2,h3⟩:=(bm hc (by omega)).1 _ (has _ hm)
  simp only at h1 h2 h3;have hg:=(Utf.dw _).1 h1;obtain ⟨u,rfl⟩:∃u:Nat,t=(u:Int):=⟨t.toNat,by omega⟩
  refine ⟨s,u,hst,by omega,by omega,WalkArith.wf_i64 (by omega),?_⟩
  unfold byA;rw [gi hjl hst,List.flatMap_append];simp
 have HTA:Hid (ars.length=ak):=hdq harc.1;have HALL:=hdq hall;have HIN:=hdq h;have HAR:=hdq harc;have HJS:=hdq hJ;clear hall h harc has hc hJ hn;refine callsIn_of_wp Tryz.func146 rfl (hfn _) ?_ hro;unfold tv;simp only [Tryz.ntmps146,List.size_toArray,List.length_cons,List.length_nil,Nat.reduceAdd,Nat.reduceSub,Array.replicate_succ,Array.replicate_zero,List.push_toArray,List.append_toArray,List.nil_append,List.cons_append]
 gi_wp2
 gi_loopw [11] (fun ix wr=>∃(j:Nat) (pre':List Wd) (O':Nat->Prop),j<=ak/\ix=.int .i64 (j:Int)/\Hid (nums pre'=nums pre++(byA l (ars.take j)).map (sg++·))/\Hid (J pre' O' wr)/\Hid (Keep (fun k=>¬O k/\k≠R) W wr)/\Hid (∀k,O' k->O k\/W.heap.size<=k/\k<wr.heap.size)/\Hid (Room R n sg wr) /\
  Hid (wr.heap[W.heap.size]?=some (.cells #[.slice (some ⟨sb,so,none⟩) n scap,.slice da dn dc,.slice (some ⟨wb,wo,none⟩) n wcap,.func (.yield yl) #[] #[]] 188 (0,0)))/\Hid (¬O' W.heap.size)) (fun ix _=>ak-(intOf ix).toNat)
 case atStart=>exact ⟨0,pre,O,Nat.zero_le _,rfl,by show _=_;simp [byA],HJS.out _ _ _ _ HIN.out.j (Keep.alloc _ _ _),Keep.alloc _ _ _,fun k h=>.inl h,HIN.out.room.keep (Keep.alloc (fun _=>True) _ _) trivial,han W _,fun h=>by have:=HIN.out.olt _ h;omega⟩
 case round =>
  obtain ⟨j,pre',O',hj,rfl,HPR,HJ,HK,HO,HRM,HBX,HNO⟩:=hrel;by_cases hlt:j<ak
  ·obtain ⟨s,u,hst,hiu,hun,hws,hby⟩:=HARC.out j hlt;have hlti:(j:Int)<(ak:Int):=by omega
   have hKK:Keep K W wr:=HK.out.mono fun k _ hK=>⟨fun h'=>HIN.out.far k h' hK,fun e=>HIN.out.kR (e▸hK)⟩;obtain ⟨b,off,rfl,hKb,hcs⟩:=(HAR.out.keep hKK).2.resolve_left (by omega)
   obtain ⟨y1,y2⟩:=hcs j hlt;rw [hst] at y1 y2;simp only at y1 y2
   have HBY:=hdq hby;have HKK:=hdq hKK;have hzb:=(hltq HBX.out);clear hst hby hcs hKK
   gi_wp2
   obtain ⟨X,hX⟩:∃X,X=wr.alloc (.cells #[.int .i64 s,.int .i64 (u:Int)] 95):=⟨_,rfl⟩;have hkX:∀S,Keep S wr X:=fun S=>by rw [hX];exact Keep.alloc S wr _
   have zX:X.heap.size=wr.heap.size+1:=by rw [hX];simp
   have hXA:X.heap[wr.heap.size]?=some (.cells #[.int .i64 s,.int .i64 (u:Int)] 95):=by rw [hX];exact han wr _
   rw [<-hX];clear hX;have hXB:X.heap[W.heap.size]?=_:=(hkX (fun _=>True)).heap HBX.out trivial;have hRW:R<W.heap.size:=by obtain ⟨cur,hc,_⟩:=HIN.out.room.obj;exact (hltq hc)
   have HSK:Hid (∀w',Keep (fun k=>k=W.heap.size\/k=wr.heap.size) X w'->w'.cell? ⟨W.heap.size,0,none⟩=some (.slice (some ⟨sb,so,none⟩) n scap)/\w'.cell? ⟨W.heap.size,1,none⟩=some (.slice da dn dc)/\w'.cell? ⟨W.heap.size,2,none⟩=some (.slice (some ⟨wb,wo,none⟩) n wcap)/\w'.cell? ⟨W.heap.size,3,none⟩=some (.func (.yield yl) #[] #[]) /\
    w'.cell? ⟨wr.heap.size,0,none⟩=some (.int .i64 s)/\w'.cell? ⟨wr.heap.size,1,none⟩=some (.int .i64 (u:Int))):=hdq fun w' hk=>by
    have g1:=hk.heap hXB (.inl rfl);have g2:=hk.heap hXA (.inr rfl);exact ⟨by rw [ae g1];rfl,by rw [ae g1];rfl,by rw [ae g1];rfl,by rw [ae g1];rfl,by rw [ae g2];rfl,by rw [ae g2];rfl⟩
   have HAW:Hid (∀wA,Keep (fun k=>k≠R) wr wA->Keep (fun k=>¬O k/\k≠R) W wA):=hdq fun wA hk=>HK.out.trans' hk fun k _ h=>⟨h,h.2⟩
   have HPX:Hid (nums pre'++(told l u).map ((sg++[s])++·)=nums pre++(byA l (ars.take (j+1))).map (sg++·)):=hdq (by
    rw [HPR.out,HBY.out,List.map_append,List.append_assoc,List.map_map]
    congr 2
    refine List.map_congr_left fun x _=>?_
    simp)
   have HTD:Hid (nums pre'++(told l u).map ((sg++[s])++·) <+: L):=hdq (by
    rw [HPX.out];refine List.IsPrefix.trans ?_ HIN.out.told;refine (List.prefix_append_right_inj _).2 ?_;refine List.IsPrefix.map _ ?_;unfold byA
    conv=>rhs;rw [<-List.take_append_drop (j+1) ars,List.flatMap_append]
    exact List.prefix_append _ _)
   have HCL:Hid (∀wA,Room R n (sg++[s]) wA->Keep (fun k=>k≠R) wr wA->∀m,CallsIn F m Tryz.prog 144 #[.agg #[.slice (some ⟨sb,so,none⟩) n scap,.slice da dn dc,.slice (some ⟨wb,wo,none⟩) n wcap,.func (.yield yl) #[] #[]],.int .i64 (u:Int),.slice (some ⟨R,0,none⟩) (sg.length+1) n] wA (Tout R n J Jx pre' (sg++[s]) ((told l u).map ((sg++[s])++·)) O' wA)):=hdq fun wA hr hk m=>by
    have hnR:¬O' R:=fun h'=>(HO.out R h').elim HIN.out.no (fun h''=>by omega)
    have hj:J pre' O' wA:=HJS.out _ _ _ _ HJ.out (hk.mono fun k _ h=>by
     rcases h with h|h
     ·have:=HIN.out.lowR;omega
     ·exact fun e=>hnR (e▸h))
    have h:=HALL.out u hiu hun m pre' (sg++[s]) O' wA (by rw [List.length_append,List.length_singleton];omega)
     (HIN.out.more (HAW.out wA hk) (fun k hO=>(HO.out k hO).imp id fun h=>⟨h.1,Nat.lt_of_lt_of_le h.2 hk.size⟩) hr hj HTD.out)
    rw [List.length_append,List.length_singleton] at h;exact h
   have HRX:=hdq (HRM.out.keep (hkX (fun _=>True)) trivial);have hfit:sg.length+1<=n:=by omega
   have hmx:Tryz.prog.follows .mixedOrders=true:=by kernel_rfl
   have HKX:=hdq hkX;clear hkX hXA hXB y1 y2 HBY;refine bp (S:=(fun w'=>w'.cell? ⟨W.heap.size,0,none⟩=some (.slice (some ⟨sb,so,none⟩) n scap)/\w'.cell? ⟨W.heap.size,1,none⟩=some (.slice da dn dc)/\w'.cell? ⟨W.heap.size,2,none⟩=some (.slice (some ⟨wb,wo,none⟩) n wcap)/\w'.cell? ⟨W.heap.size,3,none⟩=some (.func (.yield yl) #[] #[])/\w'.cell? ⟨wr.heap.size,0,none⟩=some (.int .i64 s)/\w'.cell? ⟨wr.heap.size,1,none⟩=some (.int .i64 (u:Int)))) (by kernel_rfl) (by first|((first|exact hS8|exact hS7|exact hS6|exact HSK.out _ (Keep.drew _ X)))|((try dsimp only);(first|exact hS8|exact hS7|exact hS6|exact HSK.out _ (Keep.drew _ X)))) (fun hHeld=>?_)
   refine t_f hfn 0 ?_;refine t_f hfn 1 ?_;refine t_f hfn 2 ?_;refine t_f hfn 3 ?_;refine t_f hfn 4 ?_;refine t_f hfn 5 ?_;refine r_f hfn 6 (fun K hK=>?_);refine vn (by rfl) (.tmp 20) s (by rfl) (by rfl) ?_
   intro gB wB hcB hgB hkB;have hkXB:∀S,Keep S X wB:=fun S=>(Keep.drew S X).trans (hkB S);have hS6:=HSK.out _ (hkXB _);refine k_h hK (by first|((first|exact hS8|exact hS7|exact hS6|exact HSK.out _ (Keep.drew _ X)))|(dsimp only;(first|exact hS8|exact hS7|exact hS6|exact HSK.out _ (Keep.drew _ X)))) (fun hHeld=>?_)
   clear hK K;refine r_f hfn 7 (fun K hK=>?_);refine yo (by rfl) (.tmp 18) (.tmp 21) (by rfl) R n sg.length sg rfl (by rfl) (HRX.out.keep (hkXB (fun _=>True)) trivial) hfit gB s (by rfl) hcB hws ?_
   intro wA hrA hkA;have hkRA:Keep (fun k=>k≠R) wr wA:=((HKX.out _).trans (hkXB _)).trans hkA;have hS7:=HSK.out wA ((hkXB _).trans (hkA.mono fun k _ h=>by rcases h with rfl|rfl<;>omega))
   have HRA:=hdq hrA;clear hrA;refine k_h hK (by first|((first|exact hS8|exact hS7|exact hS6|exact HSK.out _ (Keep.drew _ X)))|(dsimp only;(first|exact hS8|exact hS7|exact hS6|exact HSK.out _ (Keep.drew _ X)))) (fun hHeld=>?_)
   clear hK K;refine r_f hfn 8 (fun K hK=>?_);go_simp
   gi_at_call 144
   refine (HCL.out wA HRA.out hkRA _).mono ?_;rintro e w8 ⟨b8,O8,rfl,hk8,ho8,hr8,ht8,hf8⟩
   have hS8:=HSK.out w8 (((hkXB _).trans (hkA.mono fun k _ h=>by rcases h with rfl|rfl<;>omega)).trans (hk8.mono fun k _ h=>by
    rcases h with rfl|rfl
    ·exact ⟨HNO.out,by omega⟩
    ·exact ⟨fun h=>by rcases HO.out _ h with h|h;(have:=HIN.out.olt _ h;have:=HK.out.size;omega);omega,by omega⟩))
   have HT8:=hdq ht8;have HF8:=hdq hf8;have HK8:Hid (Keep (fun k=>¬O k/\k≠R) W w8):=hdq ((HAW.out wA hkRA).trans' hk8 fun k hk h=>⟨h,fun h'=>(HO.out k h').elim h.1 (fun h''=>by omega),h.2⟩)
   have HO8:Hid (∀k,O8 k->O k\/W.heap.size<=k/\k<w8.heap.size):=hdq fun k h=>(ho8 k h).elim (fun h'=>(HO.out k h').imp id fun h''=>⟨h''.1,by have:=hkRA.size;have:=hk8.size;omega⟩) (fun h'=>.inr ⟨by have:=hkRA.size;omega,h'.2⟩)
   have HR8:Hid (Room R n sg w8):=hdq hr8.cut;have HB8:Hid (w8.heap[W.heap.size]?=some (.cells #[.slice (some ⟨sb,so,none⟩) n scap,.slice da dn dc,.slice (some ⟨wb,wo,none⟩) n wcap,.func (.yield yl) #[] #[]] 188 (0,0))):=hdq (hk8.heap (hkRA.heap HBX.out (by omega)) ⟨HNO.out,by omega⟩)
   have HN8:Hid (¬O8 W.heap.size):=hdq fun h=>(ho8 _ h).elim HNO.out (fun h=>by have:=hkRA.size;omega)
   clear ht8 hf8 hr8 hk8 ho8
   gi_wp2_with fail
   refine k_h hK (by first|((first|exact hS8|exact hS7|exact hS6|exact HSK.out _ (Keep.drew _ X)))|(dsimp only;(first|exact hS8|exact hS7|exact hS6|exact HSK.out _ (Keep.drew _ X)))) (fun hHeld=>?_)
   clear hK K;refine t_f hfn 9 ?_;refine br (by kernel_rfl) ?_ _
   clear hHeld;cases b8
   ·have HF9:=hdq (HF8.out rfl)
    gi_wp2
    go_ret;exact ⟨false,O8,rfl,HK8.out,HO8.out,HR8.out,(fun h=>(by cases h)),fun _=>HF9.out⟩
   ·obtain ⟨pre8,hn8,hj8⟩:=HT8.out rfl;have HN8':Hid (nums pre8=nums pre++(byA l (ars.take (j+1))).map (sg++·)):=hdq (by rw [hn8,HPX.out])
    gi_wp2
    go_roundw
    case rel=>exact ⟨j+1,pre8,O8,by omega,by go_num,HN8',hj8,HK8.out,HO8.out,HR8.out,HB8.out,HN8.out⟩
    case measure=>simp [intOf];omega
  ·have hjn:j=ak:=by omega
   have HE:Hid (nums pre'=nums pre++(byA l ars).map (sg++·)):=hdq (by rw [HPR.out,hjn,<-HTA.out,List.take_length])
   clear hjn
   gi_wp2
   go_ret;exact ⟨true,O',rfl,HK.out,HO.out,HRM.out,fun _=>⟨pre',HE.out,HJ.out⟩,fun h=>by cases h⟩
end
section
open Go.RowKit Go.Shelf Tri Wlk
attribute [local go_sem] Oper.semAt_some
attribute [local go_sem] iu

def WdAt (x:Wd) (W:World):Prop:=x.Good W/\x.n<=10000/\x.a≠none
theorem WdAt.put {x:Wd} {W:World} {b:Nat} {r:Loop} (o:Obj) (h:WdAt x W) (hb:W.heap[b]?=some (.loop r)):WdAt x (W.putObj b o):=by
 refine ⟨?_,h.2⟩;obtain ⟨h1,h2,h3,h4,h5⟩:=h.1;refine ⟨h1,h2,h3,h4,?_⟩;rcases h5 with h5|⟨c,off,ha,hc⟩
 ·exact .inl h5
 ·refine .inr ⟨c,off,ha,fun i hi=>?_⟩;have h:=hc i hi
  have hne:c≠b:=fun e=>by
   subst e;unfold World.cell? at h;rw [hb] at h;cases h
  exact (World.cell?_of_block (w:=W) (World.putObj_heap_other hne)).trans h

theorem ayd (F:Fence) (hfn:∀f,F.fn f) (hro:F.round=none) (hd:F.depth=none) {l:List St} (hc:check l=true) (base:Nat) (K:Nat->Prop) (n sb so scap wb wo wcap dn dc yl:Nat) (da:Option Addr) (R:Nat) (J Jx:ma) (L:List (List Int)) (hn:n=l.length) (hn2:n<=6001) (hns:n<=scap/\scap<=maxLen) (hnw:n<=wcap/\wcap<=maxLen) (hJ:Stable base J)
 (hY:∀(m:Nat) (pre:List Wd) (x:Wd) (O:Nat->Prop) (W1:World),nums (pre++[x]) <+: L->WdAt x W1->J pre O W1->YieldAt F m Tryz.prog yl #[x.v] W1 (AnswersR J Jx (pre++[x]) O W1))
 (i:Nat) (hi:i<n) (hall:∀u,i<u->u<n->AllAt F base K l n sb so scap wb wo wcap dn dc yl da R J Jx L u):AllAt F base K l n sb so scap wb wo wcap dn dc yl da R J Jx L i:=by
 intro m pre sg O W hsg h;have htold:=ajm hc (i:=i) (by omega)
 obtain ⟨hns1,hns2⟩:=hns;obtain ⟨hnw1,hnw2⟩:=hnw;unfold maxLen at hns2 hnw2;have hmx:Tryz.prog.follows .mixedOrders=true:=by kernel_rfl
 have HIN:=hdq h;have HALL:=hdq hall;have HTO:=hdq htold;have HJS:=hdq hJ;have HYY:=hdq hY;have HBYI:=fun (m:Nat)=>alo F hfn hro hd hc base K n sb so scap wb wo wcap dn dc yl da R J Jx L hn hn2 hJ i hi (goes l i (-1)) (fun a ha=>(fw ha).1) hall m;have HBI:=hdq HBYI;have hii:(i:Int)<(n:Int):=by omega
 have hi0:(0:Int)<=(i:Int):=by omega
 have hRW:R<W.heap.size:=by obtain ⟨cur,hc,_⟩:=h.room.obj;exact (hltq hc)
 have hfin:=h.tel.fin i hi;have hsb:=h.klt sb h.tel.ks;obtain ⟨fb,hfb⟩:∃fb,(l.getD i St.no).final=fb:=⟨_,rfl⟩;rw [hfb] at hfin htold;have HFB:=hdq hfb;obtain ⟨X0,hX0⟩:∃X0,X0=W.alloc (.cells #[.slice (some ⟨sb,so,none⟩) n scap,.slice da dn dc,.slice (some ⟨wb,wo,none⟩) n wcap,.func (.yield yl) #[] #[]] 188):=⟨_,rfl⟩;have hk0:∀S,Keep S W X0:=fun S=>by rw [hX0];exact Keep.alloc S W _
 have z0:X0.heap.size=W.heap.size+1:=by rw [hX0];simp
 have hB0:X0.heap[W.heap.size]?=some (.cells #[.slice (some ⟨sb,so,none⟩) n scap,.slice da dn dc,.slice (some ⟨wb,wo,none⟩) n wcap,.func (.yield yl) #[] #[]] 188):=by rw [hX0];exact han W _
 have hf0:X0.cell? ⟨sb,so+i*2,none⟩=some (.bool fb):=(hk0 (fun _=>True)).cell hfin trivial;have hn0:¬O W.heap.size:=fun h'=>by have:=h.olt _ h';omega
 have hj0:J pre O X0:=hJ _ _ _ _ h.j (hk0 _)
 have HTAIL:Hid (∀(X:World) (OX:Nat->Prop) (preX:List Wd),Keep (fun k=>¬O k/\k≠R) W X->(∀k,OX k->O k\/W.heap.size<=k/\k<X.heap.size)->Room R n sg X->J preX OX X->nums preX++(byA l (goes l i (-1))).map (sg++·)=nums pre++(told l i).map (sg++·) ->
  Tin base K l n sb so wb wo R J L preX sg ((byA l (goes l i (-1))).map (sg++·)) OX X):=hdq fun X OX preX hk ho hr hj he=>h.more hk ho hr hj (by rw [he];exact h.told)
 clear hfin h hall htold hJ hY HBYI hc hn;refine callsIn_of_wp Tryz.func144 rfl (hfn _) ?_ hro;unfold tv;simp only [Tryz.ntmps144,List.size_toArray,List.length_cons,List.length_nil,Nat.reduceAdd,Nat.reduceSub,Array.replicate_succ,Array.replicate_zero,List.push_toArray,List.append_toArray,List.nil_append,List.cons_append];cases fb
 ·have hT:told l i=byA l (goes l i (-1)):=by rw [HTO.out,HFB.out];rfl
  have HTI:=hdq (HTAIL.out X0 O pre (hk0 _) (fun k h=>.inl h) (HIN.out.room.keep (hk0 (fun _=>True)) trivial) hj0 (by rw [hT]))
  have c0:X0.cell? ⟨W.heap.size,0,none⟩=some (.slice (some ⟨sb,so,none⟩) n scap):=by rw [ae hB0];rfl
  rw [hX0] at c0 hf0;obtain ⟨X,OX,preX,hX⟩:∃X OX preX,X=X0/\OX=O/\preX=pre:=⟨_,_,_,rfl,rfl,rfl⟩;obtain ⟨rfl,rfl,rfl⟩:=hX;have HKX:Hid (Keep (fun k=>¬OX k/\k≠R) W X):=hdq (hk0 _);have HOX:Hid (∀k,OX k->OX k\/W.heap.size<=k/\k<X.heap.size):=hdq fun k h=>.inl h;have HWS:Hid (nums preX++(byA l (goes l i (-1))).map (sg++·)=nums preX++(told l i).map (sg++·)):=hdq (by rw [hT])
  have hBX:=hB0;have hNX:=hn0;have zX:W.heap.size<X.heap.size:=by omega
  clear hT hj0 HTAIL HYY HTO hB0 hn0
  gi_wp2
  rw [<-hX0];clear hX0 c0 hf0;obtain ⟨aa,ak,ac,hcw,hak,hac,harow⟩:=HTI.out.tel.way i hi
  have HSK:Hid (∀w',Keep (fun k=>k=W.heap.size\/K k) X w'->w'.cell? ⟨W.heap.size,0,none⟩=some (.slice (some ⟨sb,so,none⟩) n scap)/\w'.cell? ⟨W.heap.size,1,none⟩=some (.slice da dn dc)/\w'.cell? ⟨W.heap.size,2,none⟩=some (.slice (some ⟨wb,wo,none⟩) n wcap)/\w'.cell? ⟨W.heap.size,3,none⟩=some (.func (.yield yl) #[] #[])/\w'.cell? ⟨wb,wo+i,none⟩=some (.slice aa ak ac)):=hdq fun w' hk=>by
   have g1:=hk.heap hBX (.inl rfl);exact ⟨by rw [ae g1];rfl,by rw [ae g1];rfl,by rw [ae g1];rfl,by rw [ae g1];rfl,hk.cell hcw (.inr HTI.out.tel.kw)⟩
  have HDI:Hid (Tin base K l n sb so wb wo R J L preX sg ((byA l (goes l i (-1))).map (sg++·)) OX X.drew):=hdq (HTI.out.drawn HJS.out);have HAW:=hdq harow;clear hcw harow;refine bp (S:=(fun w'=>w'.cell? ⟨W.heap.size,0,none⟩=some (.slice (some ⟨sb,so,none⟩) n scap)/\w'.cell? ⟨W.heap.size,1,none⟩=some (.slice da dn dc)/\w'.cell? ⟨W.heap.size,2,none⟩=some (.slice (some ⟨wb,wo,none⟩) n wcap)/\w'.cell? ⟨W.heap.size,3,none⟩=some (.func (.yield yl) #[] #[])/\w'.cell? ⟨wb,wo+i,none⟩=some (.slice aa ak ac))) (by kernel_rfl) (by first|((first|exact hS8|exact HSK.out _ (Keep.drew _ X)))|((try dsimp only);(first|exact hS8|exact HSK.out _ (Keep.drew _ X)))) (fun hHeld=>?_)
  refine t_f hfn 0 ?_;refine t_f hfn 1 ?_;refine t_f hfn 2 ?_;refine t_f hfn 3 ?_;refine t_f hfn 4 ?_;refine t_f hfn 5 ?_;refine t_f hfn 6 ?_;refine r_f hfn 7 (fun K hK=>?_);go_simp
  gi_at_call 146
  refine (HBI.out _ aa ak ac preX sg OX X.drew hsg hak hac (HAW.out.keep (Keep.drew _ _)) HDI.out).mono ?_;rintro e w8 ⟨b8,O8,rfl,hk8,ho8,hr8,ht8,hf8⟩
  have hS8:=HSK.out w8 ((Keep.drew _ X).trans (hk8.mono fun k _ h=>by
   rcases h with rfl|h
   ·exact ⟨hNX,by omega⟩
   ·exact ⟨fun h'=>HTI.out.far k h' h,fun e=>HTI.out.kR (e▸h)⟩))
  have HK8:Hid (Keep (fun k=>¬OX k/\k≠R) W w8):=hdq (HKX.out.trans' ((Keep.drew (fun k=>¬OX k/\k≠R) X).trans hk8) fun k hk h=>⟨h,fun h'=>(HOX.out k h').elim h.1 (fun h''=>by omega),h.2⟩)
  have hz8:X.heap.size<=w8.heap.size:=hk8.size;have HO8:Hid (∀k,O8 k->OX k\/W.heap.size<=k/\k<w8.heap.size):=hdq fun k h=>(ho8 k h).elim (fun h'=>(HOX.out k h').imp id fun h''=>⟨h''.1,by omega⟩) (fun h'=>.inr ⟨by have h9:=h'.1;simp only [World.drew_size'] at h9;omega,h'.2⟩)
  have HR8:=hdq hr8;have HT8:=hdq ht8;have HF8:=hdq hf8;clear ht8 hf8 hr8 ho8 hk8
  gi_wp2_with fail
  refine k_h hK (by first|((first|exact hS8|exact HSK.out _ (Keep.drew _ X)))|(dsimp only;(first|exact hS8|exact HSK.out _ (Keep.drew _ X)))) (fun hHeld=>?_)
  clear hK K;refine t_f hfn 8 ?_;refine br (by kernel_rfl) ?_ _
  clear hHeld
  gi_wp2
  go_ret;exact ⟨b8,O8,rfl,HK8.out,HO8.out,HR8.out,(fun hb=>by obtain ⟨pre',e1,e2⟩:=HT8.out hb;exact ⟨pre',by rw [e1];exact HWS.out,e2⟩),HF8.out⟩
 ·have hT:told l i=[]::byA l (goes l i (-1)):=by rw [HTO.out,HFB.out];rfl
  have hr0:Room R n sg X0:=HIN.out.room.keep (hk0 (fun _=>True)) trivial
  have hpre:nums (pre++[(⟨some ⟨R,0,none⟩,sg.length,n,sg⟩:Wd)]) <+: L:=by
   refine List.IsPrefix.trans ?_ HIN.out.told;rw [hT,nums_app,List.map_cons,List.append_nil];exact ⟨(byA l (goes l i (-1))).map (sg++·),by rw [List.append_assoc];rfl⟩
  have hYA:YieldAt F (m-1) Tryz.prog yl #[.slice (some ⟨R,0,none⟩) sg.length n] X0 (AnswersR J Jx (pre++[(⟨some ⟨R,0,none⟩,sg.length,n,sg⟩:Wd)]) O X0):=HYY.out (m-1) pre ⟨some ⟨R,0,none⟩,sg.length,n,sg⟩ O X0 hpre ⟨hr0.word,by show sg.length<=_;omega,by show some _≠none;simp⟩ hj0
  obtain ⟨fn,tmps,assign,body,hy,hR⟩:=hYA;have HR:RoundIn F (m-1) Tryz.prog yl fn tmps assign body X0 (AnswersR J Jx (pre++[(⟨some ⟨R,0,none⟩,sg.length,n,sg⟩:Wd)]) O X0):=hR;have c0:X0.cell? ⟨W.heap.size,0,none⟩=some (.slice (some ⟨sb,so,none⟩) n scap):=by rw [ae hB0];rfl
  have c3:X0.cell? ⟨W.heap.size,3,none⟩=some (.func (.yield yl) #[] #[]):=by rw [ae hB0];rfl
  have HR0:=hdq hr0;rw [hX0] at c0 c3 hf0 hy;clear hR hpre hr0 hj0 HYY HTO
  gi_wp2
  rw [<-hX0];refine HR.mono ?_;rintro e X ⟨OX,hkX,hoX,(⟨rfl,hJX⟩|⟨rfl,hJxX⟩)⟩
  ·obtain ⟨preX,hpX⟩:∃preX:List Wd,preX=pre++[(⟨some ⟨R,0,none⟩,sg.length,n,sg⟩:Wd)]:=⟨_,rfl⟩;rw [<-hpX] at hJX;have hRX:Room R n sg X:=HR0.out.keep hkX HIN.out.no;have HKX:Hid (Keep (fun k=>¬O k/\k≠R) W X):=hdq ((hk0 _).trans (hkX.mono fun k _ h=>h.1));have HOX:Hid (∀k,OX k->O k\/W.heap.size<=k/\k<X.heap.size):=hdq fun k h=>(hoX k h).imp id fun h=>⟨by omega,h.2⟩
   have HWS:Hid (nums preX++(byA l (goes l i (-1))).map (sg++·)=nums pre++(told l i).map (sg++·)):=hdq (by
    rw [hT,hpX,nums_app,List.map_cons,List.append_nil,List.append_assoc];rfl)
   have HTI:=hdq (HTAIL.out X OX preX HKX.out HOX.out hRX hJX HWS.out);have hBX:=hkX.heap hB0 hn0;have hNX:¬OX W.heap.size:=fun h=>(hoX _ h).elim hn0 (fun h=>by omega)
   have zX:W.heap.size<X.heap.size:=by have:=hkX.size;omega
   clear hT hpX hJX hRX hkX hoX hX0 c0 c3 hf0 HTAIL hB0 hy HR HR0
   gi_wp2
   obtain ⟨aa,ak,ac,hcw,hak,hac,harow⟩:=HTI.out.tel.way i hi
   have HSK:Hid (∀w',Keep (fun k=>k=W.heap.size\/K k) X w'->w'.cell? ⟨W.heap.size,0,none⟩=some (.slice (some ⟨sb,so,none⟩) n scap)/\w'.cell? ⟨W.heap.size,1,none⟩=some (.slice da dn dc)/\w'.cell? ⟨W.heap.size,2,none⟩=some (.slice (some ⟨wb,wo,none⟩) n wcap)/\w'.cell? ⟨W.heap.size,3,none⟩=some (.func (.yield yl) #[] #[])/\w'.cell? ⟨wb,wo+i,none⟩=some (.slice aa ak ac)):=hdq fun w' hk=>by
    have g1:=hk.heap hBX (.inl rfl);exact ⟨by rw [ae g1];rfl,by rw [ae g1];rfl,by rw [ae g1];rfl,by rw [ae g1];rfl,hk.cell hcw (.inr HTI.out.tel.kw)⟩
   have HDI:Hid (Tin base K l n sb so wb wo R J L preX sg ((byA l (goes l i (-1))).map (sg++·)) OX X.drew):=hdq (HTI.out.drawn HJS.out);have HAW:=hdq harow;clear hcw harow;refine bp (S:=(fun w'=>w'.cell? ⟨W.heap.size,0,none⟩=some (.slice (some ⟨sb,so,none⟩) n scap)/\w'.cell? ⟨W.heap.size,1,none⟩=some (.slice da dn dc)/\w'.cell? ⟨W.heap.size,2,none⟩=some (.slice (some ⟨wb,wo,none⟩) n wcap)/\w'.cell? ⟨W.heap.size,3,none⟩=some (.func (.yield yl) #[] #[])/\w'.cell? ⟨wb,wo+i,none⟩=some (.slice aa ak ac))) (by kernel_rfl) (by first|((first|exact hS8|exact HSK.out _ (Keep.drew _ X)))|((try dsimp only);(first|exact hS8|exact HSK.out _ (Keep.drew _ X)))) (fun hHeld=>?_)
   refine t_f hfn 0 ?_;refine t_f hfn 1 ?_;refine t_f hfn 2 ?_;refine t_f hfn 3 ?_;refine t_f hfn 4 ?_;refine t_f hfn 5 ?_;refine t_f hfn 6 ?_;refine r_f hfn 7 (fun K hK=>?_);go_simp
   gi_at_call 146
   refine (HBI.out _ aa ak ac preX sg OX X.drew hsg hak hac (HAW.out.keep (Keep.drew _ _)) HDI.out).mono ?_;rintro e w8 ⟨b8,O8,rfl,hk8,ho8,hr8,ht8,hf8⟩
   have hS8:=HSK.out w8 ((Keep.drew _ X).trans (hk8.mono fun k _ h=>by
    rcases h with rfl|h
    ·exact ⟨hNX,by omega⟩
    ·exact ⟨fun h'=>HTI.out.far k h' h,fun e=>HTI.out.kR (e▸h)⟩))
   have HK8:Hid (Keep (fun k=>¬O k/\k≠R) W w8):=hdq (HKX.out.trans' ((Keep.drew (fun k=>¬OX k/\k≠R) X).trans hk8) fun k hk h=>⟨h,fun h'=>(HOX.out k h').elim h.1 (fun h''=>by omega),h.2⟩)
   have hz8:X.heap.size<=w8.heap.size:=hk8.size;have HO8:Hid (∀k,O8 k->O k\/W.heap.size<=k/\k<w8.heap.size):=hdq fun k h=>(ho8 k h).elim (fun h'=>(HOX.out k h').imp id fun h''=>⟨h''.1,by omega⟩) (fun h'=>.inr ⟨by have h9:=h'.1;simp only [World.drew_size'] at h9;omega,h'.2⟩)
   have HR8:=hdq hr8;have HT8:=hdq ht8;have HF8:=hdq hf8;clear ht8 hf8 hr8 ho8 hk8
   gi_wp2_with fail
   refine k_h hK (by first|((first|exact hS8|exact HSK.out _ (Keep.drew _ X)))|(dsimp only;(first|exact hS8|exact HSK.out _ (Keep.drew _ X)))) (fun hHeld=>?_)
   clear hK K;refine t_f hfn 8 ?_;refine br (by kernel_rfl) ?_ _
   clear hHeld
   gi_wp2
   go_ret;exact ⟨b8,O8,rfl,HK8.out,HO8.out,HR8.out,(fun hb=>by obtain ⟨pre',e1,e2⟩:=HT8.out hb;exact ⟨pre',by rw [e1];exact HWS.out,e2⟩),HF8.out⟩
  ·have HKX:Hid (Keep (fun k=>¬O k/\k≠R) W X):=hdq ((hk0 _).trans (hkX.mono fun k _ h=>h.1));have HOX:Hid (∀k,OX k->O k\/W.heap.size<=k/\k<X.heap.size):=hdq fun k h=>(hoX k h).imp id fun h=>⟨by omega,h.2⟩
   have HRX:=hdq (HR0.out.keep hkX HIN.out.no);have HJX:=hdq hJxX;clear hT hkX hoX hX0 c0 c3 hf0 HTAIL hB0 hy HR HR0 hJxX
   gi_wp2
   go_ret;exact ⟨false,OX,rfl,HKX.out,HOX.out,HRX.out,(fun h=>(by cases h)),fun _=>⟨_,HJX.out⟩⟩

theorem vh (F:Fence) (hfn:∀f,F.fn f) (hro:F.round=none) (hd:F.depth=none) {l:List St} (hc:check l=true) (base:Nat) (K:Nat->Prop) (n sb so scap wb wo wcap dn dc yl:Nat) (da:Option Addr) (R:Nat) (J Jx:ma) (L:List (List Int)) (hn:n=l.length) (hn2:n<=6001) (hns:n<=scap/\scap<=maxLen) (hnw:n<=wcap/\wcap<=maxLen) (hJ:Stable base J)
 (hY:∀(m:Nat) (pre:List Wd) (x:Wd) (O:Nat->Prop) (W1:World),nums (pre++[x]) <+: L->WdAt x W1->J pre O W1->YieldAt F m Tryz.prog yl #[x.v] W1 (AnswersR J Jx (pre++[x]) O W1)) :
 ∀(k i:Nat),i<n->n-i<=k->AllAt F base K l n sb so scap wb wo wcap dn dc yl da R J Jx L i
 | 0,i,hi,h=>by omega
 | k+1,i,hi,h=>ayd F hfn hro hd hc base K n sb so scap wb wo wcap dn dc yl da R J Jx L hn hn2 hns hnw hJ hY i hi fun u h1 h2=>vh F hfn hro hd hc base K n sb so scap wb wo wcap dn dc yl da R J Jx L hn hn2 hns hnw hJ hY k u h2 (by omega)
end
end Go.Proofs.YtkiamgcpcneggaaGreat
