import Derived.Test.YtkiamgcpcneggaaGreatPackAM
import Derived.Test.YtkiamgcpcneggaaGreatPackO
import Derived.Test.YtkiamgcpcneggaaGreatPackL
import Derived.Test.YtkiamgcpcneggaaGreatPackP
import Derived.Test.YtkiamgcpcneggaaGreatPackQ
set_option linter.all false
set_option maxRecDepth 100000
set_option maxHeartbeats 12800000
namespace Go.Proofs.YtkiamgcpcneggaaGreat
theorem z7 {P:Prop} (h:P:=by
 have hV2:V.heap.size+2<=V1.heap.size:=HZ1.out;have Zd:W.heap.size<V.heap.size:=HVG.out;have hVr:w2.heap.size<V.heap.size:=HVR.out;have PT:Below V.heap.size V (V2.alloc (.cells #[.slice (some ⟨V.heap.size+1,0,none⟩) LL.length LL.length,.slice (some ⟨V1.heap.size+1,0,none⟩) RR.length RR.length,.int .u64 C] 74)):=bE.out.alloc bE.out.size _;refine ⟨_,PU,L+1,outs++[⟨some ⟨V.heap.size+1,0,none⟩,LL.length,LL.length,LL,some ⟨V1.heap.size+1,0,none⟩,RR.length,RR.length,RR,C⟩],rfl,hsd1,((jC.out.kept (yD bE.out) smp smp).alloc _).kept gW.out (by have:=yZ.out;simp;omega) (by have:=wN.out;simp;omega),jq.out,by simp [bD.out],?_,?_,?_⟩
 ·intro x hx;rcases map1 hx with hx|hx
  ·exact ⟨((eO.out x hx).1.below PT lrf).grown gW.out (eO.out x hx).2.1,(eO.out x hx).2⟩
  ·rw [msg hx];have hf:∀k,k<V.heap.size->Rw.Far (some k) ⟨some ⟨V.heap.size+1,0,none⟩,LL.length,LL.length,LL,some ⟨V1.heap.size+1,0,none⟩,RR.length,RR.length,RR,C⟩:=fun k hk=>Rw.Far.high rfl rfl omg omg;exact ⟨(Bw.out.alloc _).grown gW.out (hf _ Zd),hf _ Zd,hf _ hVr,fun k hk=>hf k (by have h8:w.heap.size<=W.heap.size:=Nat.le_of_lt yZ.out;omega)⟩
 ·rw [aem];exact fA.out.step (r:=⟨LL,RR,C⟩) HRC.out Ey.out Kb.out
 ·exact (PV.out.trans (PT.mono (PV.out.size))).grown gW.out (Nat.le_trans PV.out.size PT.size) (fun k hk=>by cases hk;exact Nat.le_of_lt yZ.out)):P:=h
theorem z8 {P:Prop} (h:P:=by
 have hnew:=((jC.out.kept (yD bE.out) smp smp).alloc (.cells #[.slice (some ⟨V.heap.size+1,0,none⟩) LL.length LL.length,.slice (some ⟨V1.heap.size+1,0,none⟩) RR.length RR.length,.int .u64 C] 74)).kept gW.out (by have:=yZ.out;simp;omega) (by have:=wN.out;simp;omega);rw [hnew.left_eq,Ze.out.left_eq]
 exact ana.out):P:=h
open Go.RowKit Go.Maps Go.Sort

theorem yD {w w':World} (h:Below w.heap.size w w'):w.grownBy w' none:=⟨h.os,h.tape,h.output,h.size,fun k hk _=>h.block k hk⟩
theorem Vx {w:World} {b n:Nat} {k:TypeId} {R:Value->Option (DataW Unit × List MemPlace)} {D:DataW Unit} (h:w.ownsMap Tryz.prog k R b n D):IsMap D:=by
 obtain ⟨es,clock,_,_,_,rfl⟩:=h;exact ⟨_,rfl⟩
theorem Nz {w w':World} (h:w.grownBy w' none):Below w.heap.size w w':=⟨h.os,h.tape,h.output,h.size,fun k hk=>h.block k hk smp⟩
theorem Vy:∃i,Tryz.prog.info? 74=some i/\i.zero=some (.agg #[.slice none 0 0,.slice none 0 0,.int .u64 0])/\i.size=3/\i.bytes=56:=by
 obtain ⟨i,hi,h⟩:=Option.map_eq_some_iff.1 UB;simp only [Prod.mk.injEq] at h;exact ⟨i,hi,h.1,h.2.1,h.2.2⟩
def Col (w wr:World) (g r sd L:Nat) (D:DataW Unit) (left:Lit->Bool) (outs:List Rw):Prop :=
 wr.ownsRow g 74 3 (.slice (some ⟨g,0,none⟩) L sd) L (aZ outs)/\outs.length=L/\(∀x∈outs,x.Good wr/\x.Far (some g)/\x.Far (some r)/\∀k,k<w.heap.size->x.Far (some k))/\Got D left (aA outs)/\Below w.heap.size w wr
theorem NA {w:World} {base size g n c:Nat} {e:TypeId} {l:List Value} (h:w.ownsRow base e size (.slice (some ⟨g,0,none⟩) n c) n l):base<=g/\g<w.heap.size/\n<=c/\c<=maxLen:=by
 rcases h.2 with ⟨hv,_⟩|⟨g',c',cur,hv,hgB,hh,hnc,hcm,_,_⟩
 ·simp at hv
 ·simp only [Value.slice.injEq,sij,Addr.mk.injEq] at hv;obtain ⟨⟨rfl,_,_⟩,_,rfl⟩:=hv;exact ⟨hgB,(hltq hh),hnc,hcm⟩
theorem DF {w:World} {ops:Array Oper} {o:Oper} {act:Act} {K:Act->World->Prop} {Q:Exit->Act->World->Prop} {E:Prop} (hw:Region.wanted o (yielded ops act.tmps)=true) (ty:TypeId) (x:Operand) (ho:o.op=.load ty x)
 (g off:Nat) (hx:act.eval x=.pointer (some ⟨g,off,none⟩)) (l:LIn) (hc:∀j v,(l.map (Value.int .i64))[j]?=some v->w.cell? ⟨g,off+j,none⟩=some v) (d:TypeDesc)
 (hu:Tryz.prog.underlying ty=some d) (hd:(match d with|.struct _|.array _ _=>true|_=>false)=true) (hi:(Tryz.prog.info? ty).map (·.size)=some l.length)
 (h:K (act.put o.dst (.agg (ax l))) w):if Region.wanted o (yielded ops act.tmps)=true then o.wp Tryz.prog act w K Q else E:=by
 rw [if_pos hw]
 have hl:(loadCells ⟨g,off,none⟩ (l.map (Value.int .i64)).length).run Tryz.prog w=.ok (ax l) w :=
  run_loadCells_list (P:=Tryz.prog) w ⟨g,off,none⟩ (l.map (Value.int .i64)) (fun j v hv=>by
   have hadd:(⟨g,off,none⟩:Addr).add j=⟨g,off+j,none⟩:=by simp [Addr.add]
   rw [hadd];exact hc j v hv)
 have hrun:(loadVar ty ⟨g,off,none⟩).run Tryz.prog w=.ok (.agg (ax l)) w:=by
  cases hq:Tryz.prog.info? ty with
  | none=>simp [hq] at hi
  | some i =>
    have hs:i.size=l.length:=by simpa [hq] using hi
    have hagg:(isAgg ty).run Tryz.prog w=.ok true w:=by
     unfold isAgg;rw [Sem.run_bind,run_underlying hu w];cases d<;>simp_all
    rw [List.length_map] at hl;simp [loadVar,Sem.run_bind,hagg,sizeOf,typeInfo,hq,hs,hl]
 unfold Oper.wp execOp;simp only [ho,hx,Instr.loadAt,Instr.sureAddr,Sem.run_bind,Sem.run_pure,Result.andThen_ok,hrun];exact h
theorem NB {w:World} {ops:Array Oper} {o:Oper} {act:Act} {K:Act->World->Prop} {Q:Exit->Act->World->Prop} {E:Prop} (hw:Region.wanted o (yielded ops act.tmps)=true) (s x:Operand)
 (ho:o.op=.call { callee:=.builtin .append,args:=#[s,x],argTypes:=#[24,24] }) (B g k cap:Nat) (xs:List Rw) (hs:act.eval s=.slice (some ⟨g,0,none⟩) k cap)
 (hown:w.ownsRow B 74 3 (.slice (some ⟨g,0,none⟩) k cap) k (aZ xs)) (ad:Addr) (m c:Nat) (zs:List Rw) (hx:act.eval x=.slice (some ad) m c) (hz:Rs w (some ad) m c zs) (h0:0<m) (b1:k+m<=cap)
 (h:∀w',w'.ownsRow B 74 3 (.slice (some ⟨g,0,none⟩) (k+m) cap) (k+m) (aZ (xs++zs))->w.grownBy w' (some g)->K (act.put o.dst (.slice (some ⟨g,0,none⟩) (k+m) cap)) w') :
 if Region.wanted o (yielded ops act.tmps)=true then o.wp Tryz.prog act w K Q else E:=by
 rw [if_pos hw];obtain ⟨i0,hi,_,hz1,_⟩:=Vy;obtain ⟨y,hy,hnews⟩:=hz.news h0;cases hy;obtain ⟨w',hrun,r1,r2⟩:=run_append_fits (P:=Tryz.prog) w B 24 o.type 74 i0 3 Tryz.underlying24 hi hz1 g k cap (aZ xs) hown ad m c (aZ zs) (by rw [Av,hz.1]) hnews (MF zs) b1;unfold Oper.wp;simp [execOp,ho,resolve,invoke,builtin,hs,hx,hrun,Result.andThen];exact h w' (by rw [UA];exact r1) r2
theorem Rw.Far.high {k:Nat} {x:Rw} {b b':Nat} (h1:x.la=some ⟨b,0,none⟩) (h2:x.ra=some ⟨b',0,none⟩) (hb:k<b) (hb':k<b'):x.Far (some k) :=
 ⟨.inr ⟨b,0,h1,fun e=>by cases e;omega⟩,.inr ⟨b',0,h2,fun e=>by cases e;omega⟩⟩
theorem agN {r:aj} (h8:r.L.length<=8) {j:Nat} {v:Value} (h:((aF true r.L).map (Value.int .i64))[j]?=some v):(ax (di true r))[j]?=some v:=by
 have hj:j<((aF true r.L).map (Value.int .i64)).length:=by
  rcases Nat.lt_or_ge j ((aF true r.L).map (Value.int .i64)).length with h' | h'
  ·exact h'
  ·rw [List.getElem?_eq_none h'] at h;cases h
 unfold ax di;rw [if_pos rfl,List.getElem?_toArray,List.map_append,List.getElem?_append_left hj];exact h
theorem agO {r:aj} (h8:r.L.length<=8) {j:Nat} {v:Value} (h:((aF true r.R).map (Value.int .i64))[j]?=some v):(ax (di true r))[9+j]?=some v:=by
 have h9:((aF true r.L).map (Value.int .i64)).length=9:=by rw [List.length_map,qP _ _ (fun _=>h8)]
 unfold ax di;rw [if_pos rfl,List.getElem?_toArray,List.map_append,List.getElem?_append_right (by rw [h9];omega),h9,Nat.add_sub_cancel_left];exact h
theorem uG (w:World) (A:Obj):w.heap.size<(w.alloc A).heap.size:=by unfold World.alloc;simp
theorem Jc {xs:List Rw} {j:Nat} {x:Rw} (hj:j<xs.length) (hx:xs.getD j Rw.no=x):(aA xs).take (j+1)=(aA xs).take j++[x.r]:=by
 have hj':j<(aA xs).length:=by rw [gP];exact hj
 rw [tsa hj']
 congr 2
 have:=lY xs j;rw [hx,gdq,geg hj',Option.getD_some] at this;exact this

def NC (w w':World) (e:Ending) (l:List aj) (most:Nat):Prop :=
 ∃a' n' c' outs,e=.returned (.slice a' n' c')/\Rs w' a' n' c' outs/\aA outs=l/\n'<=most/\(a'=none->c'=0)/\Below w.heap.size w w'/\w'.ownsRow w.heap.size 74 3 (.slice a' n' c') n' (aZ outs)/\(∀x∈outs,x.Far (Value.slice a' n' c').ownBlock)/\∀k,k<w.heap.size->∀x∈outs,x.Far (some k)
theorem NC.is {w w':World} {e:Ending} {l:List aj} {most:Nat} (h:NC w w' e l most):Nw w w' e l most:=by
 obtain ⟨a',n',c',outs,h1,h2,h3,h4,h5,h6,_⟩:=h;exact ⟨a',n',c',outs,h1,h2,h3,h4,h5,h6⟩
theorem agP (a:OAd) (n cap:Nat) (xs:List Rw) (w:World) (hs:Rs w a n cap xs) (hn:n<=20000) :
 Calls Tryz.prog 90 #[.slice a n cap] w fun e w'=>NC w w' e (nrm (aA xs)) n:=by
 have hnc:=hs.2.1;have hcm:=hs.2.2.1;unfold maxLen at hcm;have hmm:=@run_makeMap Tryz.prog;have HS:=hdq hs;have uW:=hdq hs.1;clear hs;go_enter Tryz.func90,Tryz.ntmps90;go_wp2;go_loopw [16] (fun ix wr=>∃(j:Nat) (D:DataW Unit),j<=n/\ix=.int .i64 (j:Int)/\Hid (wr.ownsMap Tryz.prog 173 (plainElem Tryz.prog 23) w.heap.size j D)/\Hid (fU dB ((aA xs).take j) (iO D))/\Hid (Below w.heap.size w wr)) (fun ix _=>n-(intOf ix).toNat)
 case atStart =>
  refine ⟨0,.map [],Nat.zero_le _,rfl,World.ownsMap_made _ _ _ _,?_,(Below.refl _ w).alloc lrf _⟩;have e:iO (.map []:DataW Unit)=fun _=>none:=funext fun k=>agn k;show fU _ _ _;rw [e];exact fU.start dB
 case round =>
  obtain ⟨j,D,hj,rfl,HOW,iA,ai⟩:=hrel;by_cases hlt:j<n
  ·obtain ⟨b1,o1,la,ln,lc,LL,ra,rn,rc,RR,C,rfl,hb1,hx1,hx2,hx3,hsl,gI,hC0,uX,hz1⟩:=HS.out.one j hlt;have hB:=ai.out;have Bz:wr.cell? ⟨b1,o1+j*3,none⟩=some (.slice la ln lc):=by rw [hB.cell (p:=⟨b1,o1+j*3,none⟩) hb1];exact hx1
   have uS:wr.cell? ⟨b1,o1+j*3+1,none⟩=some (.slice ra rn rc):=by rw [hB.cell (p:=⟨b1,o1+j*3+1,none⟩) hb1];exact hx2
   have BB:wr.cell? ⟨b1,o1+j*3+2,none⟩=some (.int .u64 C):=by rw [hB.cell (p:=⟨b1,o1+j*3+2,none⟩) hb1];exact hx3
   have fF:Hid ((⟨la,ln,lc,LL,ra,rn,rc,RR,C⟩:Rw).Good wr):=Rw.Good.below (w:=w) ⟨hsl,gI,hC0,uX⟩ hB lrf;have HZ1:=hdq hz1;have kJ:Hid (j<xs.length):=by show j<_;rw [uW.out];exact hlt
   have bB:(j:Int)<(n:Int):=omg;have bM:Hid (w.heap.size<=wr.heap.size):=hB.size;obtain ⟨ck,hck⟩:∃b,chk ⟨LL,RR,C⟩=b:=⟨_,rfl⟩;have aC:=hdq hck;have BC:Hid (Lit.wf (.int .u64 C)=true):=by exact WalkArith.wf_u64 omg
   have hsz:(di ck ⟨LL,RR,C⟩).length=18:=Nj (fun h=>by rw [hck,h]);have HI:Hid ((Tryz.prog.info? 173).map (·.size)=some (ax (di ck ⟨LL,RR,C⟩)).size):=by show _=_;rw [Dy,iN,hsz]
   have HZ:Hid ((ax (List.replicate 18 0)).size=(ax (di ck ⟨LL,RR,C⟩)).size):=by show _=_;rw [iN,iN,hsz];rfl
   clear hsl gI hz1 hck hx1 hx2 hx3 hB hsz;go_wp2_with fail;refine (UU ⟨la,ln,lc,LL,ra,rn,rc,RR,C⟩ ck _ (fF.out.alloc _) aC.out).mono ?_;rintro e w1 ⟨rfl,qm⟩;have HB1:=hdq qm;clear qm;cases ck
   ·go_wp2_with (first
     | (refine gQ rfq 173 (.tmp 6) (.tmp 23) rfq w1.heap.size (ax (di false ⟨LL,RR,C⟩)) rfq rfq 173 (ax (List.replicate 18 0)) (han _ _) HI.out HZ.out (jK _) ?_
        intro w2 hw2 fZ hsz2;have hb2:=ma HB1.out fZ;have nz:=hdq hw2;have tN:Hid (w2.heap[wr.heap.size]?=some (.cells #[.slice la ln lc,.slice ra rn rc,.int .u64 C] 74 (0,0))):=(hb2.block _ (uG _ _)).trans (han _ _);have ze:w2.cell? ⟨wr.heap.size,2,none⟩=some (.int .u64 C):=cell_of_row w2 _ 2 _ _ _ tN.out;have HB2:Hid (Below wr.heap.size wr w2):=((Below.refl _ wr).alloc lrf _).trans (hb2.mono (Nat.le_of_lt (uG _ _)));have mG:Hid (w2.ownsMap Tryz.prog 173 (plainElem Tryz.prog 23) w.heap.size j D):=HOW.out.kept (yD HB2.out) smp;have eT:Hid (Below w.heap.size w w2):=ai.out.trans (HB2.out.mono bM.out)
        clear hw2 fZ hsz2 hb2))
    go_roundw
    case rel =>
     refine ⟨j+1,D,by omega,by go_num,mG.out.mono (Nat.le_succ _),?_,eT.out⟩;show fU _ _ _;rw [Jc kJ.out HZ1.out];exact iA.out.pass (r:=⟨LL,RR,C⟩) aC.out
    case measure=>simp [intOf];omega
   ·obtain ⟨c0,_,PW,anb⟩:=HOW.out.lookup_int pX Tryz.underlying168 Tryz.underlying23 (IZ _) (qR aC.out);have HAT:=hdq PW;obtain ⟨hh,hhas⟩:∃b,Maps.has D (dB ⟨LL,RR,C⟩)=b:=⟨_,rfl⟩;have Ez:=hdq hhas;clear PW anb hhas;cases hh
    ·go_wp2_with (first
      | (refine gQ rfq 173 (.tmp 6) (.tmp 23) rfq w1.heap.size (ax (di true ⟨LL,RR,C⟩)) rfq rfq 173 (ax (List.replicate 18 0)) (han _ _) HI.out HZ.out (jK _) ?_
         intro w2 hw2 fZ hsz2;have hb2:=ma HB1.out fZ;have nz:=hdq hw2;have tN:Hid (w2.heap[wr.heap.size]?=some (.cells #[.slice la ln lc,.slice ra rn rc,.int .u64 C] 74 (0,0))):=(hb2.block _ (uG _ _)).trans (han _ _);have ze:w2.cell? ⟨wr.heap.size,2,none⟩=some (.int .u64 C):=cell_of_row w2 _ 2 _ _ _ tN.out;have HB2:Hid (Below wr.heap.size wr w2):=((Below.refl _ wr).alloc lrf _).trans (hb2.mono (Nat.le_of_lt (uG _ _)));have mG:Hid (w2.ownsMap Tryz.prog 173 (plainElem Tryz.prog 23) w.heap.size j D):=HOW.out.kept (yD HB2.out) smp;have eT:Hid (Below w.heap.size w w2):=ai.out.trans (HB2.out.mono bM.out)
         clear hw2 fZ hsz2 hb2)
      | (refine eQ rfq 173 (.tmp 6) rfq w1.heap.size rfq 173 (ax (di true ⟨LL,RR,C⟩)) (0,0) _ nz.out Tryz.underlying173 rfq HI.out ?_)
      | (at_lookup
         refine wpList_lookup_own_ok_int _ rfq _ _ 168 rfq 173 23 .u64 pX Tryz.underlying168 Tryz.underlying23 (IZ _) w.heap.size j D rfq mG.out (.agg (ax (di true ⟨LL,RR,C⟩))) (dB ⟨LL,RR,C⟩) rfq (qR aC.out) ?_;intro c hat hwc;have hce:c=c0:=by have h:=hat.symm.trans HAT.out;simpa using h
         rw [Ez.out,hce]
         clear hat hwc hce)
      | (at_mapUpdate
         refine wpList_mapUpdate_own _ rfq _ _ _ 168 rfq 173 23 pX Tryz.underlying168 (plainElem Tryz.prog 23) w.heap.size j D rfq mG.out (by unfold maxLen;omega) (.agg (ax (di true ⟨LL,RR,C⟩))) (.int .u64 C) (dB ⟨LL,RR,C⟩) rfq rfq (qR aC.out) (.lit (.int .u64 C)) [] (plainElem_int Tryz.underlying23 BC.out) ?_;intro w3 hown3 wY;have wZ:=hdq hown3;have oF:Hid (Below w.heap.size w w3):=eT.out.grown wY eT.out.size (fun k hk=>by cases hk;exact Nat.le_refl _)
         clear hown3 wY))
     go_roundw
     case rel =>
      refine ⟨j+1,D.put (dB ⟨LL,RR,C⟩) (.lit (.int .u64 C)),by omega,by go_num,wZ.out,?_,oF.out⟩;show fU _ _ _;rw [Jc kJ.out HZ1.out];exact iA.out.put (r:=⟨LL,RR,C⟩) aC.out (fun c h=>by rw [Vs Ez.out] at h;cases h) (Vt (Vx mG.out) (Nr aC.out) C) (fun k hk=>Vu hk C)
     case measure=>simp [intOf];omega
    ·have Kb:Hid (iO D (dB ⟨LL,RR,C⟩)=some c0):=Nq Ez.out HAT.out;by_cases hlc:C<c0
     ·go_wp2_with (first
       | (refine gQ rfq 173 (.tmp 6) (.tmp 23) rfq w1.heap.size (ax (di true ⟨LL,RR,C⟩)) rfq rfq 173 (ax (List.replicate 18 0)) (han _ _) HI.out HZ.out (jK _) ?_
          intro w2 hw2 fZ hsz2;have hb2:=ma HB1.out fZ;have nz:=hdq hw2;have tN:Hid (w2.heap[wr.heap.size]?=some (.cells #[.slice la ln lc,.slice ra rn rc,.int .u64 C] 74 (0,0))):=(hb2.block _ (uG _ _)).trans (han _ _);have ze:w2.cell? ⟨wr.heap.size,2,none⟩=some (.int .u64 C):=cell_of_row w2 _ 2 _ _ _ tN.out;have HB2:Hid (Below wr.heap.size wr w2):=((Below.refl _ wr).alloc lrf _).trans (hb2.mono (Nat.le_of_lt (uG _ _)));have mG:Hid (w2.ownsMap Tryz.prog 173 (plainElem Tryz.prog 23) w.heap.size j D):=HOW.out.kept (yD HB2.out) smp;have eT:Hid (Below w.heap.size w w2):=ai.out.trans (HB2.out.mono bM.out)
          clear hw2 fZ hsz2 hb2)
       | (refine eQ rfq 173 (.tmp 6) rfq w1.heap.size rfq 173 (ax (di true ⟨LL,RR,C⟩)) (0,0) _ nz.out Tryz.underlying173 rfq HI.out ?_)
       | (at_lookup
          refine wpList_lookup_own_ok_int _ rfq _ _ 168 rfq 173 23 .u64 pX Tryz.underlying168 Tryz.underlying23 (IZ _) w.heap.size j D rfq mG.out (.agg (ax (di true ⟨LL,RR,C⟩))) (dB ⟨LL,RR,C⟩) rfq (qR aC.out) ?_;intro c hat hwc;have hce:c=c0:=by have h:=hat.symm.trans HAT.out;simpa using h
          rw [Ez.out,hce]
          clear hat hwc hce)
       | (at_mapUpdate
          refine wpList_mapUpdate_own _ rfq _ _ _ 168 rfq 173 23 pX Tryz.underlying168 (plainElem Tryz.prog 23) w.heap.size j D rfq mG.out (by unfold maxLen;omega) (.agg (ax (di true ⟨LL,RR,C⟩))) (.int .u64 C) (dB ⟨LL,RR,C⟩) rfq rfq (qR aC.out) (.lit (.int .u64 C)) [] (plainElem_int Tryz.underlying23 BC.out) ?_;intro w3 hown3 wY;have wZ:=hdq hown3;have oF:Hid (Below w.heap.size w w3):=eT.out.grown wY eT.out.size (fun k hk=>by cases hk;exact Nat.le_refl _)
          clear hown3 wY))
      go_roundw
      case rel =>
       refine ⟨j+1,D.put (dB ⟨LL,RR,C⟩) (.lit (.int .u64 C)),by omega,by go_num,wZ.out,?_,oF.out⟩;show fU _ _ _;rw [Jc kJ.out HZ1.out];exact iA.out.put (r:=⟨LL,RR,C⟩) aC.out (fun c h=>by rw [Kb.out] at h;cases h;exact Int.le_of_lt hlc) (Vt (Vx mG.out) (Nr aC.out) C) (fun k hk=>Vu hk C)
      case measure=>simp [intOf];omega
     ·go_wp2_with (first
       | (refine gQ rfq 173 (.tmp 6) (.tmp 23) rfq w1.heap.size (ax (di true ⟨LL,RR,C⟩)) rfq rfq 173 (ax (List.replicate 18 0)) (han _ _) HI.out HZ.out (jK _) ?_
          intro w2 hw2 fZ hsz2;have hb2:=ma HB1.out fZ;have nz:=hdq hw2;have tN:Hid (w2.heap[wr.heap.size]?=some (.cells #[.slice la ln lc,.slice ra rn rc,.int .u64 C] 74 (0,0))):=(hb2.block _ (uG _ _)).trans (han _ _);have ze:w2.cell? ⟨wr.heap.size,2,none⟩=some (.int .u64 C):=cell_of_row w2 _ 2 _ _ _ tN.out;have HB2:Hid (Below wr.heap.size wr w2):=((Below.refl _ wr).alloc lrf _).trans (hb2.mono (Nat.le_of_lt (uG _ _)));have mG:Hid (w2.ownsMap Tryz.prog 173 (plainElem Tryz.prog 23) w.heap.size j D):=HOW.out.kept (yD HB2.out) smp;have eT:Hid (Below w.heap.size w w2):=ai.out.trans (HB2.out.mono bM.out)
          clear hw2 fZ hsz2 hb2)
       | (refine eQ rfq 173 (.tmp 6) rfq w1.heap.size rfq 173 (ax (di true ⟨LL,RR,C⟩)) (0,0) _ nz.out Tryz.underlying173 rfq HI.out ?_)
       | (at_lookup
          refine wpList_lookup_own_ok_int _ rfq _ _ 168 rfq 173 23 .u64 pX Tryz.underlying168 Tryz.underlying23 (IZ _) w.heap.size j D rfq mG.out (.agg (ax (di true ⟨LL,RR,C⟩))) (dB ⟨LL,RR,C⟩) rfq (qR aC.out) ?_;intro c hat hwc;have hce:c=c0:=by have h:=hat.symm.trans HAT.out;simpa using h
          rw [Ez.out,hce]
          clear hat hwc hce)
       | (at_mapUpdate
          refine wpList_mapUpdate_own _ rfq _ _ _ 168 rfq 173 23 pX Tryz.underlying168 (plainElem Tryz.prog 23) w.heap.size j D rfq mG.out (by unfold maxLen;omega) (.agg (ax (di true ⟨LL,RR,C⟩))) (.int .u64 C) (dB ⟨LL,RR,C⟩) rfq rfq (qR aC.out) (.lit (.int .u64 C)) [] (plainElem_int Tryz.underlying23 BC.out) ?_;intro w3 hown3 wY;have wZ:=hdq hown3;have oF:Hid (Below w.heap.size w w3):=eT.out.grown wY eT.out.size (fun k hk=>by cases hk;exact Nat.le_refl _)
          clear hown3 wY))
      go_roundw
      case rel =>
       refine ⟨j+1,D,by omega,by go_num,mG.out.mono (Nat.le_succ _),?_,eT.out⟩;show fU _ _ _;rw [Jc kJ.out HZ1.out];exact iA.out.keep (r:=⟨LL,RR,C⟩) Kb.out (by show _<=_;omega)
      case measure=>simp [intOf];omega
  ·obtain rfl:j=n:=omg
   have Zf:fU dB (aA xs) (iO D):=by
    have h:=iA.out
    rwa [tol (by rw [gP,uW.out];exact Nat.le_refl _)] at h
   have zf:=hdq Zf;obtain ⟨sd,hsd⟩:∃s,Maps.size D=s:=⟨_,rfl⟩;have arV:sd<=j:=by rw [<-hsd];exact size_le HOW.out
   have Zg:=hdq hsd;obtain ⟨W,hW⟩:∃W,W=wr:=⟨_,rfl⟩;subst hW;obtain ⟨i0,hi,hz0,hz1,hz2⟩:=Vy;clear Zf hsd iA hj hlt
   go_wp2_with (first
    | (at_len
       refine wpList_len_own _ rfq _ 168 rfq 173 23 Tryz.underlying168 (plainElem Tryz.prog 23) w.heap.size j D rfq HOW.out ?_
       rw [Zg.out])
    | (refine wpList_make_own W rfq (.const (.int .i64 0)) (.tmp 47) 24 rfq W.heap.size 74 i0 _ 3 Tryz.underlying24 hi hz0 hz1 .i64 .i64 (sd:Int) sd rfq rfq rfl (by rw [hz2];omega) (by unfold maxLen;omega) lrf ?_
       intro w2 hown2 fZ;have bD:=hdq hown2;have mG:Hid (w2.ownsMap Tryz.prog 173 (plainElem Tryz.prog 23) w.heap.size j D):=HOW.out.kept fZ smp;have eT:Hid (Below w.heap.size w w2):=ai.out.trans ((Nz fZ).mono ai.out.size)
       clear hown2 fZ)
    | (at_range
       refine wpList_range_own _ rfq _ 168 rfq 173 23 pX Tryz.underlying168 (plainElem Tryz.prog 23) w.heap.size j D rfq mG.out ?_;intro w3 hrg3 hg3 hs3;have Zh:w3.ranges Tryz.prog 173 (plainElem Tryz.prog 23) w.heap.size w2.heap.size j D (Maps.has D) sd:=by rw [<-Zg.out];exact hrg3
       have anc:=hdq Zh;have dU:Hid (w3.ownsRow W.heap.size 74 3 (.slice (some ⟨W.heap.size,0,none⟩) 0 sd) 0 (aZ [])):=ownsRow_below bD.out (Nz hg3) lrf;have oF:Hid (Below w.heap.size w w3):=eT.out.trans ((Nz hg3).mono eT.out.size)
       clear hrg3 hg3 hs3 Zh))
   go_frame;have wN:Hid (W.heap.size<w2.heap.size):=(NA bD.out).2.1;have yZ:Hid (w.heap.size<W.heap.size):=HOW.out.lt;have hmx:Tryz.prog.follows .mixedOrders=true:=krf;have gq:=hdq hmx;clear hmx;go_loopw [10] (fun ov wr=>∃(left:Lit->Bool) (cnt L:Nat) (outs:List Rw),ov=.slice (some ⟨W.heap.size,0,none⟩) L sd/\L+cnt<=sd/\Hid (wr.ranges Tryz.prog 173 (plainElem Tryz.prog 23) w.heap.size w2.heap.size j D left cnt)/\Hid (Col w wr W.heap.size w2.heap.size sd L D left outs)) (fun _ wr=>wr.rangeLeft w.heap.size w2.heap.size)
   case atStart=>exact ⟨Maps.has D,sd,0,[],rfl,by omega,anc.out,dU.out,rfl,by simp,Got.start D,oF.out⟩
   case round =>
    obtain ⟨left,cnt,L,outs,rfl,EA,Ze,qp⟩:=hrel;go_wp2_with (at_next;refine wpList_next_ranges _ rfq _ rfq 173 pX (plainElem Tryz.prog 23) (fun x:Array Value=>Value.agg x) (Value.int .u64) agw agx w.heap.size w2.heap.size j D left cnt rfq Ze.out ?_ ?_)
    ·intro _ hl0;have tO:=hdq hl0;clear hl0;obtain ⟨ho1,ho2,ho3,EB,BD⟩:=qp.out;have hof:=NA ho1;have hgg:∀x∈outs,∀V,wr.grownBy V (some W.heap.size)->x.Good V:=fun x hx V hV=>(ho3 x hx).1.grown hV (ho3 x hx).2.1;have BF:=hdq hof;have ru:=hdq hgg;have Zi:Hid (∀x∈outs,x.Far (some W.heap.size)/\∀k,k<w.heap.size->x.Far (some k)):=fun x hx=>⟨(ho3 x hx).2.1,(ho3 x hx).2.2.2⟩;have gV:=hdq ho1;have bD:=hdq ho2;have fA:=hdq EB;have jR:=hdq BD;have eg:∀args w,(callFunc 135 args).run Tryz.prog w=.ok (.enter 135 args) w:=enters_of Tryz.func135 krf rfl;have HEG:=hdq eg;clear ho1 ho2 ho3 EB BD hof hgg eg;go_wp2_with (go_at_call 134;refine (agK (B:=W.heap.size) 135 uF (agH Vv) HEG.out (fun x y V hx hy=>agE x y V hx hy) outs ru.out bD.out omg gV.out BF.out.2.1 BF.out.2.2).mono ?_;rintro e w6 ⟨rfl,ys,hys,hperm,hpw,hmem,tQ,xe⟩);go_ret
     have hlS:∀a b:aj,0<=uF b a->bY b a=false:=fun a b h=>by
      have h1:eF b a=false:=by rw [<-Vv];exact decide_eq_false omg
      rw [Mx,Bool.or_eq_false_iff] at h1;exact h1.1
     exact ⟨_,_,_,ys,rfl,hys,fA.out.norm tO.out zf.out hperm (hpw.imp fun {a b} h=>hlS a b h),by omega,(fun h=>by cases h),jR.out.grown tQ jR.out.size (fun k hk=>by cases hk;exact Nat.le_of_lt yZ.out),lW xe (Nat.le_of_lt yZ.out),(fun x hx=>(Zi.out x (hmem x hx)).1),fun k hk x hx=>(Zi.out x (hmem x hx)).2 k hk⟩
    ·intro x c1 kl yd yp w4 PU hkey hlk hv hat Zj BG jP rq hen
     have hat':∀z,D.atKey kl z=.lit (.int .u64 c1):=fun z=>by
      obtain ⟨c',ec,hz,_⟩:=plainElem_int_inv Tryz.underlying23 hv;cases ec;simp only [Prod.mk.injEq] at hz;rw [hat z,hz.1]
     have hwc:(Lit.int .u64 c1).wf=true:=by
      obtain ⟨c',ec,_,h⟩:=plainElem_int_inv Tryz.underlying23 hv;cases ec;exact h
     obtain ⟨⟨LL,RR,C⟩,hrm,hrc,rfl,rfl,rfl,yU⟩:=zf.out.comes hkey hat';obtain ⟨ho1,ho2,ho3,EB,BD⟩:=qp.out;have hcb:=bounds_u64 hwc;have hcg:=nX hrc;have rf:Hid (WfI LL):=Ja hcg.1;have JR:Hid (WfI RR):=Ja hcg.2;have BH:Hid (LL.length<=8):=jl hcg.1;have nC:Hid (RR.length<=8):=jl hcg.2;have PX:Hid (0<=C/\C<18446744073709551616):=⟨hcb.1,by have h2:C<=18446744073709551615:=hcb.2;show C<_;omega⟩;have HRC:=hdq hrc;have Ey:=hdq hlk;have Kb:=hdq yU;have ang:=hdq Zj;have ana:=hdq BG;have gV:Hid (w4.ownsRow W.heap.size 74 3 (.slice (some ⟨W.heap.size,0,none⟩) L sd) L (aZ outs)):=ho1.kept jP (.inr (by show some W.heap.size≠some w2.heap.size;have:=wN.out;simp;omega));have bD:=hdq ho2;have dU:Hid (∀x∈outs,x.Good w4/\x.Far (some W.heap.size)/\x.Far (some w2.heap.size)/\∀k,k<w.heap.size->x.Far (some k)):=fun x hx=>⟨(ho3 x hx).1.grown jP (ho3 x hx).2.2.1,(ho3 x hx).2⟩;have fA:=hdq EB;have jR:Hid (Below w.heap.size w w4):=BD.grown jP BD.size (fun k hk=>by cases hk;have:=wN.out;have:=yZ.out;omega);have HIS:Hid ((Tryz.prog.info? 173).map (·.size)=some (ax (di true ⟨LL,RR,C⟩)).size):=by show _=_;rw [Dy,iN,(Jb hrc).1]
     have qh:Hid ((ax (List.replicate 18 0)).size=(ax (di true ⟨LL,RR,C⟩)).size):=by show _=_;rw [iN,iN,(Jb hrc).1];rfl
     have Zk:Hid ((Tryz.prog.info? 171).map (·.size)=some (aF true LL).length):=by show _=_;rw [AL,qP _ _ (fun _=>BH.out)]
     have PY:Hid ((Tryz.prog.info? 171).map (·.size)=some (aF true RR).length):=by show _=_;rw [AL,qP _ _ (fun _=>nC.out)]
     have hsd1:L+1+PU<=sd:=omg;clear hkey hlk hv hat Zj BG jP rq hat' hwc hrm hrc yU ho1 ho2 ho3 EB BD hcb hcg
     go_wp2_with (first
      | (refine gQ rfq 173 (.tmp 11) (.tmp 54) rfq w4.heap.size (ax (di true ⟨LL,RR,C⟩)) rfq rfq 173 (ax (List.replicate 18 0)) (han _ _) HIS.out qh.out (jK _) ?_
         intro w5 Zl hgr5 hsz5;have tN:=hdq Zl;have eU:Hid (Below w4.heap.size w4 w5):=((Below.refl _ w4).alloc lrf _).grown hgr5 (Nat.le_of_lt (uG _ _)) (fun k hk=>by cases hk;exact Nat.le_refl _)
         clear Zl hgr5 hsz5)
      | fail)
     have hmx:=gq.out;refine wp_region_any hmx ?_
     try (change wpAny _ _ _ _ _ _ _ (World.drew _))
     generalize hV:World.drew w5=V;have Kc:V.heap=w5.heap:=by rw [<-hV];rfl
     have HVS:=hdq Kc;have uY:Hid (w4.heap.size<V.heap.size):=by show _<_;rw [Kc];exact (hltq tN.out)
     have Zm:Hid (V.heap[w4.heap.size]?=some (.cells (ax (di true ⟨LL,RR,C⟩)) 173 (0,0))):=by show _=_;rw [Kc];exact tN.out
     have kK:Hid (V.ownsRow W.heap.size 74 3 (.slice (some ⟨W.heap.size,0,none⟩) L sd) L (aZ outs)):=by rw [<-hV];exact ownsRow_below gV.out eU.out.drew lrf
     have eO:Hid (∀x∈outs,x.Good V/\x.Far (some W.heap.size)/\x.Far (some w2.heap.size)/\∀k,k<w.heap.size->x.Far (some k)):=fun x hx=>⟨by rw [<-hV];exact (dU.out x hx).1.below eU.out.drew lrf,(dU.out x hx).2⟩;have jC:Hid (V.ranges Tryz.prog 173 (plainElem Tryz.prog 23) w.heap.size w2.heap.size j D (fun z=>left z&&!z.sameKey (dB ⟨LL,RR,C⟩)) PU):=by rw [<-hV];exact ang.out.kept (yD eU.out.drew) smp smp
     have PV:Hid (Below w.heap.size w V):=by rw [<-hV];exact (jR.out.trans (eU.out.mono jR.out.size)).drew
     have HVG:Hid (W.heap.size<V.heap.size):=(NA kK.out).2.1;have HVR:Hid (w2.heap.size<V.heap.size):=jC.out.lt
     have Zn:Hid (∀j v,((aF true LL).map (Value.int .i64))[j]?=some v->V.cell? ⟨w4.heap.size,0+j,none⟩=some v):=fun j v h=>by
      rw [cell_of_row V _ _ _ _ _ Zm.out,Nat.zero_add];exact agN BH.out h
     have tT:Hid (∀j v,((aF true RR).map (Value.int .i64))[j]?=some v->V.cell? ⟨w4.heap.size,9+j,none⟩=some v):=fun j v h=>by
      rw [cell_of_row V _ _ _ _ _ Zm.out];exact agO BH.out h
     clear Kc hV;refine t_n 0 ?_;refine t_n 1 ?_;refine t_n 4 ?_;refine t_n 7 ?_;refine Ui 2 5 (fun K hK=>?_) (fun K hK=>?_)
     ·refine DF rfq 171 (.tmp 57) rfq w4.heap.size 0 rfq (aF true LL) Zn.out _ Tryz.underlying171 rfq Zk.out ?_;refine k_n hK ?_;clear hK K;refine Ui 3 5 (fun K hK=>?_) (fun K hK=>?_)
      ·go_simp;refine (AP LL V rf.out BH.out).mono ?_;rintro e V1 ⟨rfl,hs1,hb1,hz1⟩;have bR:=hdq hs1;have HB1:=hdq hb1;have HZ1:=hdq hz1;clear hs1 hb1 hz1;refine k_n hK ?_;clear hK K;refine r_n 5 (fun K hK=>?_);refine DF rfq 171 (.tmp 60) rfq w4.heap.size 9 rfq (aF true RR) (fun j v h=>(HB1.out.cell (p:=⟨w4.heap.size,9+j,none⟩) uY.out).trans (tT.out j v h)) _ Tryz.underlying171 rfq PY.out ?_;refine k_n hK ?_;clear hK K;refine r_n 6 (fun K hK=>?_);go_simp;refine (AP RR V1 JR.out nC.out).mono ?_;rintro e V2 ⟨rfl,hs2,hb2,hz2⟩;have HS2:=hdq hs2;have HB2:=hdq hb2;have HZ2:=hdq hz2;clear hs2 hb2 hz2;refine k_n hK ?_;clear hK K;refine r_n 8 (fun K hK=>?_);go_simp;refine k_n hK ?_;clear hK K;refine r_n 9 (fun K hK=>?_);go_simp;refine k_n hK ?_;clear hK K;refine r_n 10 (fun K hK=>?_);have bE:Hid (Below V.heap.size V V2):=HB1.out.trans (HB2.out.mono HB1.out.size);have Bw:Hid (Rw.Good V2 ⟨some ⟨V.heap.size+1,0,none⟩,LL.length,LL.length,LL,some ⟨V1.heap.size+1,0,none⟩,RR.length,RR.length,RR,C⟩):=⟨bR.out.below HB2.out lrf,HS2.out,PX.out⟩;refine NB rfq (.tmp 56) (.tmp 65) rfq W.heap.size W.heap.size L sd outs rfq ((ownsRow_below kK.out bE.out lrf).alloc _) ⟨V2.heap.size,0,none⟩ 1 1 [⟨some ⟨V.heap.size+1,0,none⟩,LL.length,LL.length,LL,some ⟨V1.heap.size+1,0,none⟩,RR.length,RR.length,RR,C⟩] rfq (Rs.single (Bw.out.alloc _) (bX.new V2 ⟨some ⟨V.heap.size+1,0,none⟩,LL.length,LL.length,LL,some ⟨V1.heap.size+1,0,none⟩,RR.length,RR.length,RR,C⟩ 74)) omg omg ?_;intro w6 hown6 tQ;have jq:=hdq hown6;have gW:=hdq tQ;clear hown6 tQ;refine k_n hK ?_;clear hK K;refine t_n 11 ?_;refine wpAny_done krf ?_ _;go_wp2;go_roundw
       case rel =>
        exact z7
       case measure =>
        exact z8
      ·refine DF rfq 171 (.tmp 60) rfq w4.heap.size 9 rfq (aF true RR) tT.out _ Tryz.underlying171 rfq PY.out ?_;refine k_n hK ?_;clear hK K;refine r_n 3 (fun K hK=>?_);go_simp;refine (AP LL V rf.out BH.out).mono ?_;rintro e V1 ⟨rfl,hs1,hb1,hz1⟩;have bR:=hdq hs1;have HB1:=hdq hb1;have HZ1:=hdq hz1;clear hs1 hb1 hz1;refine k_n hK ?_;clear hK K;refine r_n 6 (fun K hK=>?_);go_simp;refine (AP RR V1 JR.out nC.out).mono ?_;rintro e V2 ⟨rfl,hs2,hb2,hz2⟩;have HS2:=hdq hs2;have HB2:=hdq hb2;have HZ2:=hdq hz2;clear hs2 hb2 hz2;refine k_n hK ?_;clear hK K;refine r_n 8 (fun K hK=>?_);go_simp;refine k_n hK ?_;clear hK K;refine r_n 9 (fun K hK=>?_);go_simp;refine k_n hK ?_;clear hK K;refine r_n 10 (fun K hK=>?_);have bE:Hid (Below V.heap.size V V2):=HB1.out.trans (HB2.out.mono HB1.out.size);have Bw:Hid (Rw.Good V2 ⟨some ⟨V.heap.size+1,0,none⟩,LL.length,LL.length,LL,some ⟨V1.heap.size+1,0,none⟩,RR.length,RR.length,RR,C⟩):=⟨bR.out.below HB2.out lrf,HS2.out,PX.out⟩;refine NB rfq (.tmp 56) (.tmp 65) rfq W.heap.size W.heap.size L sd outs rfq ((ownsRow_below kK.out bE.out lrf).alloc _) ⟨V2.heap.size,0,none⟩ 1 1 [⟨some ⟨V.heap.size+1,0,none⟩,LL.length,LL.length,LL,some ⟨V1.heap.size+1,0,none⟩,RR.length,RR.length,RR,C⟩] rfq (Rs.single (Bw.out.alloc _) (bX.new V2 ⟨some ⟨V.heap.size+1,0,none⟩,LL.length,LL.length,LL,some ⟨V1.heap.size+1,0,none⟩,RR.length,RR.length,RR,C⟩ 74)) omg omg ?_;intro w6 hown6 tQ;have jq:=hdq hown6;have gW:=hdq tQ;clear hown6 tQ;refine k_n hK ?_;clear hK K;refine t_n 11 ?_;refine wpAny_done krf ?_ _;go_wp2;go_roundw
       case rel =>
        exact z7
       case measure =>
        exact z8
     ·refine DF rfq 171 (.tmp 60) rfq w4.heap.size 9 rfq (aF true RR) tT.out _ Tryz.underlying171 rfq PY.out ?_;refine k_n hK ?_;clear hK K;refine r_n 2 (fun K hK=>?_);refine DF rfq 171 (.tmp 57) rfq w4.heap.size 0 rfq (aF true LL) Zn.out _ Tryz.underlying171 rfq Zk.out ?_;refine k_n hK ?_;clear hK K;refine r_n 3 (fun K hK=>?_);go_simp;refine (AP LL V rf.out BH.out).mono ?_;rintro e V1 ⟨rfl,hs1,hb1,hz1⟩;have bR:=hdq hs1;have HB1:=hdq hb1;have HZ1:=hdq hz1;clear hs1 hb1 hz1;refine k_n hK ?_;clear hK K;refine r_n 6 (fun K hK=>?_);go_simp;refine (AP RR V1 JR.out nC.out).mono ?_;rintro e V2 ⟨rfl,hs2,hb2,hz2⟩;have HS2:=hdq hs2;have HB2:=hdq hb2;have HZ2:=hdq hz2;clear hs2 hb2 hz2;refine k_n hK ?_;clear hK K;refine r_n 8 (fun K hK=>?_);go_simp;refine k_n hK ?_;clear hK K;refine r_n 9 (fun K hK=>?_);go_simp;refine k_n hK ?_;clear hK K;refine r_n 10 (fun K hK=>?_);have bE:Hid (Below V.heap.size V V2):=HB1.out.trans (HB2.out.mono HB1.out.size);have Bw:Hid (Rw.Good V2 ⟨some ⟨V.heap.size+1,0,none⟩,LL.length,LL.length,LL,some ⟨V1.heap.size+1,0,none⟩,RR.length,RR.length,RR,C⟩):=⟨bR.out.below HB2.out lrf,HS2.out,PX.out⟩;refine NB rfq (.tmp 56) (.tmp 65) rfq W.heap.size W.heap.size L sd outs rfq ((ownsRow_below kK.out bE.out lrf).alloc _) ⟨V2.heap.size,0,none⟩ 1 1 [⟨some ⟨V.heap.size+1,0,none⟩,LL.length,LL.length,LL,some ⟨V1.heap.size+1,0,none⟩,RR.length,RR.length,RR,C⟩] rfq (Rs.single (Bw.out.alloc _) (bX.new V2 ⟨some ⟨V.heap.size+1,0,none⟩,LL.length,LL.length,LL,some ⟨V1.heap.size+1,0,none⟩,RR.length,RR.length,RR,C⟩ 74)) omg omg ?_;intro w6 hown6 tQ;have jq:=hdq hown6;have gW:=hdq tQ;clear hown6 tQ;refine k_n hK ?_;clear hK K;refine t_n 11 ?_;refine wpAny_done krf ?_ _;go_wp2;go_roundw
      case rel =>
       exact z7
      case measure =>
       exact z8

theorem agQ (a:OAd) (n cap:Nat) (xs:List Rw) (w:World) (hs:Rs w a n cap xs) (hn:n<=20000) :
 Calls Tryz.prog 90 #[.slice a n cap] w fun e w'=>Nw w w' e (nrm (aA xs)) n :=
 (agP a n cap xs w hs hn).mono fun _ _ h=>h.is

end Go.Proofs.YtkiamgcpcneggaaGreat
