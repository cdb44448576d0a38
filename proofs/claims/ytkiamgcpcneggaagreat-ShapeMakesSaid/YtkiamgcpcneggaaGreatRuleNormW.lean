import Derived.Test.YtkiamgcpcneggaaGreatPackAM
import Derived.Test.YtkiamgcpcneggaaGreatPackO
import Derived.Test.YtkiamgcpcneggaaGreatPackL
import Derived.Test.YtkiamgcpcneggaaGreatPackP
import Derived.Test.YtkiamgcpcneggaaGreatPackQ
set_option linter.all false
set_option maxRecDepth 100000
set_option maxHeartbeats 12800000
namespace Go.Proofs.YtkiamgcpcneggaaGreat
theorem z7 {P:Prop} (h:P:=by
 have hV2:V.heap.size+2<=V1.heap.size:=HZ1.out;have hVg:W.heap.size<V.heap.size:=HVG.out;have hVr:w2.heap.size<V.heap.size:=HVR.out;have hBA:Below V.heap.size V (V2.alloc (.cells #[.slice (some ⟨V.heap.size+1,0,none⟩) LL.length LL.length,.slice (some ⟨V1.heap.size+1,0,none⟩) RR.length RR.length,.int .u64 C] 74)):=HBV.out.alloc HBV.out.size _;refine ⟨_,cnt4,L+1,outs++[⟨some ⟨V.heap.size+1,0,none⟩,LL.length,LL.length,LL,some ⟨V1.heap.size+1,0,none⟩,RR.length,RR.length,RR,C⟩],rfl,hsd1,((HP3.out.kept (gn HBV.out) (by simp) (by simp)).alloc _).kept HG6.out (by have:=HMW.out;simp;omega) (by have:=HGR.out;simp;omega),HO6.out,by simp [HO2.out],?_,?_,?_⟩
 ·intro x hx;rcases map1 hx with hx|hx
  ·exact ⟨((HP2.out x hx).1.below hBA lrf).grown HG6.out (HP2.out x hx).2.1,(HP2.out x hx).2⟩
  ·rw [msg hx];have hf:∀k,k<V.heap.size->Rw.Far (some k) ⟨some ⟨V.heap.size+1,0,none⟩,LL.length,LL.length,LL,some ⟨V1.heap.size+1,0,none⟩,RR.length,RR.length,RR,C⟩:=fun k hk=>Rw.Far.high rfl rfl (by omega) (by omega)
   exact ⟨(HGN.out.alloc _).grown HG6.out (hf _ hVg),hf _ hVg,hf _ hVr,fun k hk=>hf k (by have h8:w.heap.size<=W.heap.size:=Nat.le_of_lt HMW.out;omega)⟩
 ·rw [mq];exact HO4.out.step (r:=⟨LL,RR,C⟩) HRC.out HLK.out HCA.out
 ·exact (HP4.out.trans (hBA.mono (HP4.out.size))).grown HG6.out (Nat.le_trans HP4.out.size hBA.size) (fun k hk=>by cases hk;exact Nat.le_of_lt HMW.out)):P:=h
theorem z8 {P:Prop} (h:P:=by
 have hnew:=((HP3.out.kept (gn HBV.out) (by simp) (by simp)).alloc (.cells #[.slice (some ⟨V.heap.size+1,0,none⟩) LL.length LL.length,.slice (some ⟨V1.heap.size+1,0,none⟩) RR.length RR.length,.int .u64 C] 74)).kept HG6.out (by have:=HMW.out;simp;omega) (by have:=HGR.out;simp;omega)
 rw [hnew.left_eq,HRG.out.left_eq]
 exact HLT4.out):P:=h
open Go.RowKit Go.Maps Go.Sort

theorem gn {w w':World} (h:Below w.heap.size w w'):w.grownBy w' none:=⟨h.os,h.tape,h.output,h.size,fun k hk _=>h.block k hk⟩
theorem acr {w:World} {b n:Nat} {k:TypeId} {R:Value->Option (DataW Unit × List MemPlace)} {D:DataW Unit} (h:w.ownsMap Tryz.prog k R b n D):IsMap D:=by
 obtain ⟨es,clock,_,_,_,rfl⟩:=h;exact ⟨_,rfl⟩
theorem pd {w w':World} (h:w.grownBy w' none):Below w.heap.size w w':=⟨h.os,h.tape,h.output,h.size,fun k hk=>h.block k hk (by simp)⟩
theorem wg:∃i,Tryz.prog.info? 74=some i/\i.zero=some (.agg #[.slice none 0 0,.slice none 0 0,.int .u64 0])/\i.size=3/\i.bytes=56:=by
 obtain ⟨i,hi,h⟩:=Option.map_eq_some_iff.1 ace;simp only [Prod.mk.injEq] at h;exact ⟨i,hi,h.1,h.2.1,h.2.2⟩
def Col (w wr:World) (g r sd L:Nat) (D:DataW Unit) (left:Lit->Bool) (outs:List Rw):Prop :=
 wr.ownsRow g 74 3 (.slice (some ⟨g,0,none⟩) L sd) L (rcells outs)/\outs.length=L/\(∀x∈outs,x.Good wr/\x.Far (some g)/\x.Far (some r)/\∀k,k<w.heap.size->x.Far (some k))/\Got D left (ruls outs)/\Below w.heap.size w wr
theorem rf {w:World} {base size g n c:Nat} {e:TypeId} {l:List Value} (h:w.ownsRow base e size (.slice (some ⟨g,0,none⟩) n c) n l):base<=g/\g<w.heap.size/\n<=c/\c<=maxLen:=by
 rcases h.2 with ⟨hv,_⟩|⟨g',c',cur,hv,hgB,hh,hnc,hcm,_,_⟩
 ·simp at hv
 ·simp only [Value.slice.injEq,sij,Addr.mk.injEq] at hv;obtain ⟨⟨rfl,_,_⟩,_,rfl⟩:=hv;exact ⟨hgB,(hltq hh),hnc,hcm⟩
theorem ig {w:World} {ops:Array Oper} {o:Oper} {act:Act} {K:Act->World->Prop} {Q:Exit->Act->World->Prop} {E:Prop} (hw:Region.wanted o (yielded ops act.tmps)=true) (ty:TypeId) (x:Operand) (ho:o.op=.load ty x)
 (g off:Nat) (hx:act.eval x=.pointer (some ⟨g,off,none⟩)) (l:List Int) (hc:∀j v,(l.map (Value.int .i64))[j]?=some v->w.cell? ⟨g,off+j,none⟩=some v) (d:TypeDesc)
 (hu:Tryz.prog.underlying ty=some d) (hd:(match d with|.struct _|.array _ _=>true|_=>false)=true) (hi:(Tryz.prog.info? ty).map (·.size)=some l.length)
 (h:K (act.put o.dst (.agg (cellsI l))) w):if Region.wanted o (yielded ops act.tmps)=true then o.wp Tryz.prog act w K Q else E:=by
 rw [if_pos hw]
 have hl:(loadCells ⟨g,off,none⟩ (l.map (Value.int .i64)).length).run Tryz.prog w=.ok (cellsI l) w :=
  run_loadCells_list (P:=Tryz.prog) w ⟨g,off,none⟩ (l.map (Value.int .i64)) (fun j v hv=>by
   have hadd:(⟨g,off,none⟩:Addr).add j=⟨g,off+j,none⟩:=by simp [Addr.add]
   rw [hadd];exact hc j v hv)
 have hrun:(loadVar ty ⟨g,off,none⟩).run Tryz.prog w=.ok (.agg (cellsI l)) w:=by
  cases hq:Tryz.prog.info? ty with
  | none=>simp [hq] at hi
  | some i =>
    have hs:i.size=l.length:=by simpa [hq] using hi
    have hagg:(isAgg ty).run Tryz.prog w=.ok true w:=by
     unfold isAgg;rw [Sem.run_bind,run_underlying hu w];cases d<;>simp_all
    rw [List.length_map] at hl;simp [loadVar,Sem.run_bind,hagg,sizeOf,typeInfo,hq,hs,hl]
 unfold Oper.wp execOp;simp only [ho,hx,Instr.loadAt,Instr.sureAddr,Sem.run_bind,Sem.run_pure,Result.andThen_ok,hrun];exact h
theorem kf {w:World} {ops:Array Oper} {o:Oper} {act:Act} {K:Act->World->Prop} {Q:Exit->Act->World->Prop} {E:Prop} (hw:Region.wanted o (yielded ops act.tmps)=true) (s x:Operand)
 (ho:o.op=.call { callee:=.builtin .append,args:=#[s,x],argTypes:=#[24,24] }) (B g k cap:Nat) (xs:List Rw) (hs:act.eval s=.slice (some ⟨g,0,none⟩) k cap)
 (hown:w.ownsRow B 74 3 (.slice (some ⟨g,0,none⟩) k cap) k (rcells xs)) (ad:Addr) (m c:Nat) (zs:List Rw) (hx:act.eval x=.slice (some ad) m c) (hz:Rs w (some ad) m c zs) (h0:0<m) (b1:k+m<=cap)
 (h:∀w',w'.ownsRow B 74 3 (.slice (some ⟨g,0,none⟩) (k+m) cap) (k+m) (rcells (xs++zs))->w.grownBy w' (some g)->K (act.put o.dst (.slice (some ⟨g,0,none⟩) (k+m) cap)) w') :
 if Region.wanted o (yielded ops act.tmps)=true then o.wp Tryz.prog act w K Q else E:=by
 rw [if_pos hw];obtain ⟨i0,hi,_,hz1,_⟩:=wg;obtain ⟨y,hy,hnews⟩:=hz.news h0;cases hy;obtain ⟨w',hrun,r1,r2⟩:=run_append_fits (P:=Tryz.prog) w B 24 o.type 74 i0 3 Tryz.underlying24 hi hz1 g k cap (rcells xs) hown ad m c (rcells zs) (by rw [dz,hz.1]) hnews (qo zs) b1
 unfold Oper.wp;simp [execOp,ho,resolve,invoke,builtin,hs,hx,hrun,Result.andThen];exact h w' (by rw [zg];exact r1) r2
theorem Rw.Far.high {k:Nat} {x:Rw} {b b':Nat} (h1:x.la=some ⟨b,0,none⟩) (h2:x.ra=some ⟨b',0,none⟩) (hb:k<b) (hb':k<b'):x.Far (some k) :=
 ⟨.inr ⟨b,0,h1,fun e=>by cases e;omega⟩,.inr ⟨b',0,h2,fun e=>by cases e;omega⟩⟩
theorem akw {r:Rul} (h8:r.L.length<=8) {j:Nat} {v:Value} (h:((sideC true r.L).map (Value.int .i64))[j]?=some v):(cellsI (sidesC true r))[j]?=some v:=by
 have hj:j<((sideC true r.L).map (Value.int .i64)).length:=by
  rcases Nat.lt_or_ge j ((sideC true r.L).map (Value.int .i64)).length with h' | h'
  ·exact h'
  ·rw [List.getElem?_eq_none h'] at h;cases h
 unfold cellsI sidesC;rw [if_pos rfl,List.getElem?_toArray,List.map_append,List.getElem?_append_left hj];exact h
theorem aic {r:Rul} (h8:r.L.length<=8) {j:Nat} {v:Value} (h:((sideC true r.R).map (Value.int .i64))[j]?=some v):(cellsI (sidesC true r))[9+j]?=some v:=by
 have h9:((sideC true r.L).map (Value.int .i64)).length=9:=by rw [List.length_map,cq _ _ (fun _=>h8)]
 unfold cellsI sidesC;rw [if_pos rfl,List.getElem?_toArray,List.map_append,List.getElem?_append_right (by rw [h9];omega),h9,Nat.add_sub_cancel_left]
 exact h
theorem kg (w:World) (A:Obj):w.heap.size<(w.alloc A).heap.size:=by unfold World.alloc;simp
theorem nu {xs:List Rw} {j:Nat} {x:Rw} (hj:j<xs.length) (hx:xs.getD j Rw.no=x):(ruls xs).take (j+1)=(ruls xs).take j++[x.r]:=by
 have hj':j<(ruls xs).length:=by rw [av];exact hj
 rw [tsa hj']
 congr 2
 have:=fh xs j;rw [hx,gdq,geg hj',Option.getD_some] at this;exact this

def RulesOwn (w w':World) (e:Ending) (l:List Rul) (most:Nat):Prop :=
 ∃a' n' c' outs,e=.returned (.slice a' n' c')/\Rs w' a' n' c' outs/\ruls outs=l/\n'<=most/\(a'=none->c'=0)/\Below w.heap.size w w'/\w'.ownsRow w.heap.size 74 3 (.slice a' n' c') n' (rcells outs)/\(∀x∈outs,x.Far (Value.slice a' n' c').ownBlock)/\∀k,k<w.heap.size->∀x∈outs,x.Far (some k)
theorem RulesOwn.is {w w':World} {e:Ending} {l:List Rul} {most:Nat} (h:RulesOwn w w' e l most):RulesIs w w' e l most:=by
 obtain ⟨a',n',c',outs,h1,h2,h3,h4,h5,h6,_⟩:=h;exact ⟨a',n',c',outs,h1,h2,h3,h4,h5,h6⟩
theorem asn (a:Option Addr) (n cap:Nat) (xs:List Rw) (w:World) (hs:Rs w a n cap xs) (hn:n<=20000) :
 Calls Tryz.prog 90 #[.slice a n cap] w fun e w'=>RulesOwn w w' e (nrm (ruls xs)) n:=by
 have hnc:=hs.2.1;have hcm:=hs.2.2.1;unfold maxLen at hcm;have hmm:=@run_makeMap Tryz.prog;have HS:=hdq hs;have HXN:=hdq hs.1;clear hs;go_enter Tryz.func90,Tryz.ntmps90;go_wp2;go_loopw [16] (fun ix wr=>∃(j:Nat) (D:DataW Unit),j<=n/\ix=.int .i64 (j:Int)/\Hid (wr.ownsMap Tryz.prog 173 (plainElem Tryz.prog 23) w.heap.size j D)/\Hid (Least keyR ((ruls xs).take j) (costAt D))/\Hid (Below w.heap.size w wr)) (fun ix _=>n-(intOf ix).toNat)
 case atStart =>
  refine ⟨0,.map [],Nat.zero_le _,rfl,World.ownsMap_made _ _ _ _,?_,(Below.refl _ w).alloc lrf _⟩;have e:costAt (.map []:DataW Unit)=fun _=>none:=funext fun k=>afi k;show Least _ _ _;rw [e];exact Least.start keyR
 case round =>
  obtain ⟨j,D,hj,rfl,HOW,HLE,HBW⟩:=hrel;by_cases hlt:j<n
  ·obtain ⟨b1,o1,la,ln,lc,LL,ra,rn,rc,RR,C,rfl,hb1,hx1,hx2,hx3,hsl,hsr,hC0,hC1,hz1⟩:=HS.out.one j hlt;have hB:=HBW.out;have hx1':wr.cell? ⟨b1,o1+j*3,none⟩=some (.slice la ln lc):=by rw [hB.cell (p:=⟨b1,o1+j*3,none⟩) hb1];exact hx1
   have hx2':wr.cell? ⟨b1,o1+j*3+1,none⟩=some (.slice ra rn rc):=by rw [hB.cell (p:=⟨b1,o1+j*3+1,none⟩) hb1];exact hx2
   have hx3':wr.cell? ⟨b1,o1+j*3+2,none⟩=some (.int .u64 C):=by rw [hB.cell (p:=⟨b1,o1+j*3+2,none⟩) hb1];exact hx3
   have HGX:Hid ((⟨la,ln,lc,LL,ra,rn,rc,RR,C⟩:Rw).Good wr):=Rw.Good.below (w:=w) ⟨hsl,hsr,hC0,hC1⟩ hB lrf;have HZ1:=hdq hz1;have HJX:Hid (j<xs.length):=by show j<_;rw [HXN.out];exact hlt
   have hlti:(j:Int)<(n:Int):=by omega
   have HBS:Hid (w.heap.size<=wr.heap.size):=hB.size;obtain ⟨ck,hck⟩:∃b,chk ⟨LL,RR,C⟩=b:=⟨_,rfl⟩;have HCK:=hdq hck;have HCW:Hid (Lit.wf (.int .u64 C)=true):=by exact WalkArith.wf_u64 (by omega)
   have hsz:(sidesC ck ⟨LL,RR,C⟩).length=18:=ly (fun h=>by rw [hck,h])
   have HI:Hid ((Tryz.prog.info? 173).map (·.size)=some (cellsI (sidesC ck ⟨LL,RR,C⟩)).size):=by show _=_;rw [ka,az,hsz]
   have HZ:Hid ((cellsI (List.replicate 18 0)).size=(cellsI (sidesC ck ⟨LL,RR,C⟩)).size):=by show _=_;rw [az,az,hsz];rfl
   clear hsl hsr hz1 hck hx1 hx2 hx3 hB hsz;go_wp2_with fail;refine (anb ⟨la,ln,lc,LL,ra,rn,rc,RR,C⟩ ck _ (HGX.out.alloc _) HCK.out).mono ?_;rintro e w1 ⟨rfl,hb1w⟩;have HB1:=hdq hb1w;clear hb1w;cases ck
   ·go_wp2_with (first
     | (refine ai (by rfl) 173 (.tmp 6) (.tmp 23) (by rfl) w1.heap.size (cellsI (sidesC false ⟨LL,RR,C⟩)) (by rfl) (by rfl) 173 (cellsI (List.replicate 18 0)) (han _ _) HI.out HZ.out (bt _) ?_
        intro w2 hw2 hgr2 hsz2;have hb2:=bj HB1.out hgr2;have HF6:=hdq hw2;have HF5:Hid (w2.heap[wr.heap.size]?=some (.cells #[.slice la ln lc,.slice ra rn rc,.int .u64 C] 74 (0,0))):=(hb2.block _ (kg _ _)).trans (han _ _);have hc5:w2.cell? ⟨wr.heap.size,2,none⟩=some (.int .u64 C):=cell_of_row w2 _ 2 _ _ _ HF5.out;have HB2:Hid (Below wr.heap.size wr w2):=((Below.refl _ wr).alloc lrf _).trans (hb2.mono (Nat.le_of_lt (kg _ _)));have HOW2:Hid (w2.ownsMap Tryz.prog 173 (plainElem Tryz.prog 23) w.heap.size j D):=HOW.out.kept (gn HB2.out) (by simp)
        have HBW2:Hid (Below w.heap.size w w2):=HBW.out.trans (HB2.out.mono HBS.out)
        clear hw2 hgr2 hsz2 hb2))
    go_roundw
    case rel =>
     refine ⟨j+1,D,by omega,by go_num,HOW2.out.mono (Nat.le_succ _),?_,HBW2.out⟩
     show Least _ _ _;rw [nu HJX.out HZ1.out];exact HLE.out.pass (r:=⟨LL,RR,C⟩) HCK.out
    case measure=>simp [intOf];omega
   ·obtain ⟨c0,_,hat0,hwc0⟩:=HOW.out.lookup_int cz Tryz.underlying168 Tryz.underlying23 (nr _) (dy HCK.out);have HAT:=hdq hat0;obtain ⟨hh,hhas⟩:∃b,Maps.has D (keyR ⟨LL,RR,C⟩)=b:=⟨_,rfl⟩;have HHAS:=hdq hhas;clear hat0 hwc0 hhas;cases hh
    ·go_wp2_with (first
      | (refine ai (by rfl) 173 (.tmp 6) (.tmp 23) (by rfl) w1.heap.size (cellsI (sidesC true ⟨LL,RR,C⟩)) (by rfl) (by rfl) 173 (cellsI (List.replicate 18 0)) (han _ _) HI.out HZ.out (bt _) ?_
         intro w2 hw2 hgr2 hsz2;have hb2:=bj HB1.out hgr2;have HF6:=hdq hw2;have HF5:Hid (w2.heap[wr.heap.size]?=some (.cells #[.slice la ln lc,.slice ra rn rc,.int .u64 C] 74 (0,0))):=(hb2.block _ (kg _ _)).trans (han _ _);have hc5:w2.cell? ⟨wr.heap.size,2,none⟩=some (.int .u64 C):=cell_of_row w2 _ 2 _ _ _ HF5.out;have HB2:Hid (Below wr.heap.size wr w2):=((Below.refl _ wr).alloc lrf _).trans (hb2.mono (Nat.le_of_lt (kg _ _)));have HOW2:Hid (w2.ownsMap Tryz.prog 173 (plainElem Tryz.prog 23) w.heap.size j D):=HOW.out.kept (gn HB2.out) (by simp)
         have HBW2:Hid (Below w.heap.size w w2):=HBW.out.trans (HB2.out.mono HBS.out)
         clear hw2 hgr2 hsz2 hb2)
      | (refine ag (by rfl) 173 (.tmp 6) (by rfl) w1.heap.size (by rfl) 173 (cellsI (sidesC true ⟨LL,RR,C⟩)) (0,0) _ HF6.out Tryz.underlying173 (by rfl) HI.out ?_)
      | (at_lookup
         refine wpList_lookup_own_ok_int _ (by rfl) _ _ 168 (by rfl) 173 23 .u64 cz Tryz.underlying168 Tryz.underlying23 (nr _) w.heap.size j D (by rfl) HOW2.out (.agg (cellsI (sidesC true ⟨LL,RR,C⟩))) (keyR ⟨LL,RR,C⟩) (by rfl) (dy HCK.out) ?_
         intro c hat hwc;have hce:c=c0:=by have h:=hat.symm.trans HAT.out;simpa using h
         rw [HHAS.out,hce]
         clear hat hwc hce)
      | (at_mapUpdate
         refine wpList_mapUpdate_own _ (by rfl) _ _ _ 168 (by rfl) 173 23 cz Tryz.underlying168 (plainElem Tryz.prog 23) w.heap.size j D (by rfl) HOW2.out (by unfold maxLen;omega) (.agg (cellsI (sidesC true ⟨LL,RR,C⟩))) (.int .u64 C) (keyR ⟨LL,RR,C⟩) (by rfl) (by rfl) (dy HCK.out) (.lit (.int .u64 C)) [] (plainElem_int Tryz.underlying23 HCW.out) ?_
         intro w3 hown3 hgr3;have HOW3:=hdq hown3;have HBW3:Hid (Below w.heap.size w w3):=HBW2.out.grown hgr3 HBW2.out.size (fun k hk=>by cases hk;exact Nat.le_refl _)
         clear hown3 hgr3))
     go_roundw
     case rel =>
      refine ⟨j+1,D.put (keyR ⟨LL,RR,C⟩) (.lit (.int .u64 C)),by omega,by go_num,HOW3.out,?_,HBW3.out⟩
      show Least _ _ _;rw [nu HJX.out HZ1.out];exact HLE.out.put (r:=⟨LL,RR,C⟩) HCK.out (fun c h=>by rw [vz HHAS.out] at h;cases h) (np (acr HOW2.out) (xw HCK.out) C) (fun k hk=>mt hk C)
     case measure=>simp [intOf];omega
    ·have HCA:Hid (costAt D (keyR ⟨LL,RR,C⟩)=some c0):=oy HHAS.out HAT.out;by_cases hlc:C<c0
     ·go_wp2_with (first
       | (refine ai (by rfl) 173 (.tmp 6) (.tmp 23) (by rfl) w1.heap.size (cellsI (sidesC true ⟨LL,RR,C⟩)) (by rfl) (by rfl) 173 (cellsI (List.replicate 18 0)) (han _ _) HI.out HZ.out (bt _) ?_
          intro w2 hw2 hgr2 hsz2;have hb2:=bj HB1.out hgr2;have HF6:=hdq hw2;have HF5:Hid (w2.heap[wr.heap.size]?=some (.cells #[.slice la ln lc,.slice ra rn rc,.int .u64 C] 74 (0,0))):=(hb2.block _ (kg _ _)).trans (han _ _);have hc5:w2.cell? ⟨wr.heap.size,2,none⟩=some (.int .u64 C):=cell_of_row w2 _ 2 _ _ _ HF5.out;have HB2:Hid (Below wr.heap.size wr w2):=((Below.refl _ wr).alloc lrf _).trans (hb2.mono (Nat.le_of_lt (kg _ _)));have HOW2:Hid (w2.ownsMap Tryz.prog 173 (plainElem Tryz.prog 23) w.heap.size j D):=HOW.out.kept (gn HB2.out) (by simp)
          have HBW2:Hid (Below w.heap.size w w2):=HBW.out.trans (HB2.out.mono HBS.out)
          clear hw2 hgr2 hsz2 hb2)
       | (refine ag (by rfl) 173 (.tmp 6) (by rfl) w1.heap.size (by rfl) 173 (cellsI (sidesC true ⟨LL,RR,C⟩)) (0,0) _ HF6.out Tryz.underlying173 (by rfl) HI.out ?_)
       | (at_lookup
          refine wpList_lookup_own_ok_int _ (by rfl) _ _ 168 (by rfl) 173 23 .u64 cz Tryz.underlying168 Tryz.underlying23 (nr _) w.heap.size j D (by rfl) HOW2.out (.agg (cellsI (sidesC true ⟨LL,RR,C⟩))) (keyR ⟨LL,RR,C⟩) (by rfl) (dy HCK.out) ?_
          intro c hat hwc;have hce:c=c0:=by have h:=hat.symm.trans HAT.out;simpa using h
          rw [HHAS.out,hce]
          clear hat hwc hce)
       | (at_mapUpdate
          refine wpList_mapUpdate_own _ (by rfl) _ _ _ 168 (by rfl) 173 23 cz Tryz.underlying168 (plainElem Tryz.prog 23) w.heap.size j D (by rfl) HOW2.out (by unfold maxLen;omega) (.agg (cellsI (sidesC true ⟨LL,RR,C⟩))) (.int .u64 C) (keyR ⟨LL,RR,C⟩) (by rfl) (by rfl) (dy HCK.out) (.lit (.int .u64 C)) [] (plainElem_int Tryz.underlying23 HCW.out) ?_
          intro w3 hown3 hgr3;have HOW3:=hdq hown3;have HBW3:Hid (Below w.heap.size w w3):=HBW2.out.grown hgr3 HBW2.out.size (fun k hk=>by cases hk;exact Nat.le_refl _)
          clear hown3 hgr3))
      go_roundw
      case rel =>
       refine ⟨j+1,D.put (keyR ⟨LL,RR,C⟩) (.lit (.int .u64 C)),by omega,by go_num,HOW3.out,?_,HBW3.out⟩
       show Least _ _ _;rw [nu HJX.out HZ1.out];exact HLE.out.put (r:=⟨LL,RR,C⟩) HCK.out (fun c h=>by rw [HCA.out] at h;cases h;exact Int.le_of_lt hlc) (np (acr HOW2.out) (xw HCK.out) C) (fun k hk=>mt hk C)
      case measure=>simp [intOf];omega
     ·go_wp2_with (first
       | (refine ai (by rfl) 173 (.tmp 6) (.tmp 23) (by rfl) w1.heap.size (cellsI (sidesC true ⟨LL,RR,C⟩)) (by rfl) (by rfl) 173 (cellsI (List.replicate 18 0)) (han _ _) HI.out HZ.out (bt _) ?_
          intro w2 hw2 hgr2 hsz2;have hb2:=bj HB1.out hgr2;have HF6:=hdq hw2;have HF5:Hid (w2.heap[wr.heap.size]?=some (.cells #[.slice la ln lc,.slice ra rn rc,.int .u64 C] 74 (0,0))):=(hb2.block _ (kg _ _)).trans (han _ _);have hc5:w2.cell? ⟨wr.heap.size,2,none⟩=some (.int .u64 C):=cell_of_row w2 _ 2 _ _ _ HF5.out;have HB2:Hid (Below wr.heap.size wr w2):=((Below.refl _ wr).alloc lrf _).trans (hb2.mono (Nat.le_of_lt (kg _ _)));have HOW2:Hid (w2.ownsMap Tryz.prog 173 (plainElem Tryz.prog 23) w.heap.size j D):=HOW.out.kept (gn HB2.out) (by simp)
          have HBW2:Hid (Below w.heap.size w w2):=HBW.out.trans (HB2.out.mono HBS.out)
          clear hw2 hgr2 hsz2 hb2)
       | (refine ag (by rfl) 173 (.tmp 6) (by rfl) w1.heap.size (by rfl) 173 (cellsI (sidesC true ⟨LL,RR,C⟩)) (0,0) _ HF6.out Tryz.underlying173 (by rfl) HI.out ?_)
       | (at_lookup
          refine wpList_lookup_own_ok_int _ (by rfl) _ _ 168 (by rfl) 173 23 .u64 cz Tryz.underlying168 Tryz.underlying23 (nr _) w.heap.size j D (by rfl) HOW2.out (.agg (cellsI (sidesC true ⟨LL,RR,C⟩))) (keyR ⟨LL,RR,C⟩) (by rfl) (dy HCK.out) ?_
          intro c hat hwc;have hce:c=c0:=by have h:=hat.symm.trans HAT.out;simpa using h
          rw [HHAS.out,hce]
          clear hat hwc hce)
       | (at_mapUpdate
          refine wpList_mapUpdate_own _ (by rfl) _ _ _ 168 (by rfl) 173 23 cz Tryz.underlying168 (plainElem Tryz.prog 23) w.heap.size j D (by rfl) HOW2.out (by unfold maxLen;omega) (.agg (cellsI (sidesC true ⟨LL,RR,C⟩))) (.int .u64 C) (keyR ⟨LL,RR,C⟩) (by rfl) (by rfl) (dy HCK.out) (.lit (.int .u64 C)) [] (plainElem_int Tryz.underlying23 HCW.out) ?_
          intro w3 hown3 hgr3;have HOW3:=hdq hown3;have HBW3:Hid (Below w.heap.size w w3):=HBW2.out.grown hgr3 HBW2.out.size (fun k hk=>by cases hk;exact Nat.le_refl _)
          clear hown3 hgr3))
      go_roundw
      case rel =>
       refine ⟨j+1,D,by omega,by go_num,HOW2.out.mono (Nat.le_succ _),?_,HBW2.out⟩
       show Least _ _ _;rw [nu HJX.out HZ1.out];exact HLE.out.keep (r:=⟨LL,RR,C⟩) HCA.out (by show _<=_;omega)
      case measure=>simp [intOf];omega
  ·obtain rfl:j=n:=by omega
   have hLE:Least keyR (ruls xs) (costAt D):=by
    have h:=HLE.out
    rwa [tol (by rw [av,HXN.out];exact Nat.le_refl _)] at h
   have HLX:=hdq hLE;obtain ⟨sd,hsd⟩:∃s,Maps.size D=s:=⟨_,rfl⟩;have hsdn:sd<=j:=by rw [<-hsd];exact size_le HOW.out
   have HSDE:=hdq hsd;obtain ⟨W,hW⟩:∃W,W=wr:=⟨_,rfl⟩;subst hW;obtain ⟨i0,hi,hz0,hz1,hz2⟩:=wg;clear hLE hsd HLE hj hlt
   go_wp2_with (first
    | (at_len
       refine wpList_len_own _ (by rfl) _ 168 (by rfl) 173 23 Tryz.underlying168 (plainElem Tryz.prog 23) w.heap.size j D (by rfl) HOW.out ?_
       rw [HSDE.out])
    | (refine wpList_make_own W (by rfl) (.const (.int .i64 0)) (.tmp 47) 24 (by rfl) W.heap.size 74 i0 _ 3 Tryz.underlying24 hi hz0 hz1 .i64 .i64 (sd:Int) sd (by rfl) (by rfl) rfl (by rw [hz2];omega) (by unfold maxLen;omega) lrf ?_
       intro w2 hown2 hgr2;have HO2:=hdq hown2;have HOW2:Hid (w2.ownsMap Tryz.prog 173 (plainElem Tryz.prog 23) w.heap.size j D):=HOW.out.kept hgr2 (by simp)
       have HBW2:Hid (Below w.heap.size w w2):=HBW.out.trans ((pd hgr2).mono HBW.out.size)
       clear hown2 hgr2)
    | (at_range
       refine wpList_range_own _ (by rfl) _ 168 (by rfl) 173 23 cz Tryz.underlying168 (plainElem Tryz.prog 23) w.heap.size j D (by rfl) HOW2.out ?_
       intro w3 hrg3 hg3 hs3;have hrg3':w3.ranges Tryz.prog 173 (plainElem Tryz.prog 23) w.heap.size w2.heap.size j D (Maps.has D) sd:=by rw [<-HSDE.out];exact hrg3
       have HRG3:=hdq hrg3';have HO3:Hid (w3.ownsRow W.heap.size 74 3 (.slice (some ⟨W.heap.size,0,none⟩) 0 sd) 0 (rcells [])):=af HO2.out (pd hg3) lrf;have HBW3:Hid (Below w.heap.size w w3):=HBW2.out.trans ((pd hg3).mono HBW2.out.size)
       clear hrg3 hg3 hs3 hrg3'))
   go_frame;have HGR:Hid (W.heap.size<w2.heap.size):=(rf HO2.out).2.1;have HMW:Hid (w.heap.size<W.heap.size):=HOW.out.lt;have hmx:Tryz.prog.follows .mixedOrders=true:=by kernel_rfl
   have HMX:=hdq hmx;clear hmx;go_loopw [10] (fun ov wr=>∃(left:Lit->Bool) (cnt L:Nat) (outs:List Rw),ov=.slice (some ⟨W.heap.size,0,none⟩) L sd/\L+cnt<=sd/\Hid (wr.ranges Tryz.prog 173 (plainElem Tryz.prog 23) w.heap.size w2.heap.size j D left cnt)/\Hid (Col w wr W.heap.size w2.heap.size sd L D left outs)) (fun _ wr=>wr.rangeLeft w.heap.size w2.heap.size)
   case atStart=>exact ⟨Maps.has D,sd,0,[],rfl,by omega,HRG3.out,HO3.out,rfl,by simp,Got.start D,HBW3.out⟩
   case round =>
    obtain ⟨left,cnt,L,outs,rfl,hLc,HRG,HCO⟩:=hrel;go_wp2_with (at_next;refine wpList_next_ranges _ (by rfl) _ (by rfl) 173 cz (plainElem Tryz.prog 23) (fun x:Array Value=>Value.agg x) (Value.int .u64) anu ash w.heap.size w2.heap.size j D left cnt (by rfl) HRG.out ?_ ?_)
    ·intro _ hl0;have HL0:=hdq hl0;clear hl0;obtain ⟨ho1,ho2,ho3,ho4,ho5⟩:=HCO.out;have hof:=rf ho1;have hgg:∀x∈outs,∀V,wr.grownBy V (some W.heap.size)->x.Good V:=fun x hx V hV=>(ho3 x hx).1.grown hV (ho3 x hx).2.1;have HOF:=hdq hof;have HGG:=hdq hgg;have HFO:Hid (∀x∈outs,x.Far (some W.heap.size)/\∀k,k<w.heap.size->x.Far (some k)):=fun x hx=>⟨(ho3 x hx).2.1,(ho3 x hx).2.2.2⟩;have HO1:=hdq ho1;have HO2:=hdq ho2;have HO4:=hdq ho4;have HO5:=hdq ho5;have eg:∀args w,(callFunc 135 args).run Tryz.prog w=.ok (.enter 135 args) w:=enters_of Tryz.func135 (by kernel_rfl) rfl
     have HEG:=hdq eg;clear ho1 ho2 ho3 ho4 ho5 hof hgg eg;go_wp2_with (go_at_call 134;refine (aec (B:=W.heap.size) 135 cmpR (asl ajh) HEG.out (fun x y V hx hy=>awf x y V hx hy) outs HGG.out HO2.out (by omega) HO1.out HOF.out.2.1 HOF.out.2.2).mono ?_;rintro e w6 ⟨rfl,ys,hys,hperm,hpw,hmem,hgr6,hyo⟩)
     go_ret
     have hlS:∀a b:Rul,0<=cmpR b a->lessS b a=false:=fun a b h=>by
      have h1:lessR b a=false:=by rw [<-ajh];exact decide_eq_false (by omega)
      rw [tf,Bool.or_eq_false_iff] at h1;exact h1.1
     exact ⟨_,_,_,ys,rfl,hys,HO4.out.norm HL0.out HLX.out hperm (hpw.imp fun {a b} h=>hlS a b h),by omega,(fun h=>by cases h),HO5.out.grown hgr6 HO5.out.size (fun k hk=>by cases hk;exact Nat.le_of_lt HMW.out),fp hyo (Nat.le_of_lt HMW.out),(fun x hx=>(HFO.out x (hmem x hx)).1),fun k hk x hx=>(HFO.out x (hmem x hx)).2 k hk⟩
    ·intro x c1 kl yd yp w4 cnt4 hkey hlk hv hat hrg4 hlt4 hgr4 hsz4 hen
     have hat':∀z,D.atKey kl z=.lit (.int .u64 c1):=fun z=>by
      obtain ⟨c',ec,hz,_⟩:=plainElem_int_inv Tryz.underlying23 hv;cases ec;simp only [Prod.mk.injEq] at hz;rw [hat z,hz.1]
     have hwc:(Lit.int .u64 c1).wf=true:=by
      obtain ⟨c',ec,_,h⟩:=plainElem_int_inv Tryz.underlying23 hv;cases ec;exact h
     obtain ⟨⟨LL,RR,C⟩,hrm,hrc,rfl,rfl,rfl,hca⟩:=HLX.out.comes hkey hat';obtain ⟨ho1,ho2,ho3,ho4,ho5⟩:=HCO.out;have hcb:=bounds_u64 hwc;have hcg:=ef hrc;have HWL:Hid (WfI LL):=re hcg.1;have HWR:Hid (WfI RR):=re hcg.2;have HL8:Hid (LL.length<=8):=bg hcg.1;have HR8:Hid (RR.length<=8):=bg hcg.2;have HCB:Hid (0<=C/\C<18446744073709551616):=⟨hcb.1,by have h2:C<=18446744073709551615:=hcb.2;show C<_;omega⟩
     have HRC:=hdq hrc;have HLK:=hdq hlk;have HCA:=hdq hca;have HRG4:=hdq hrg4;have HLT4:=hdq hlt4;have HO1:Hid (w4.ownsRow W.heap.size 74 3 (.slice (some ⟨W.heap.size,0,none⟩) L sd) L (rcells outs)):=ho1.kept hgr4 (.inr (by show some W.heap.size≠some w2.heap.size;have:=HGR.out;simp;omega))
     have HO2:=hdq ho2;have HO3:Hid (∀x∈outs,x.Good w4/\x.Far (some W.heap.size)/\x.Far (some w2.heap.size)/\∀k,k<w.heap.size->x.Far (some k)):=fun x hx=>⟨(ho3 x hx).1.grown hgr4 (ho3 x hx).2.2.1,(ho3 x hx).2⟩;have HO4:=hdq ho4;have HO5:Hid (Below w.heap.size w w4):=ho5.grown hgr4 ho5.size (fun k hk=>by cases hk;have:=HGR.out;have:=HMW.out;omega)
     have HIS:Hid ((Tryz.prog.info? 173).map (·.size)=some (cellsI (sidesC true ⟨LL,RR,C⟩)).size):=by show _=_;rw [ka,az,(nt hrc).1]
     have HZS:Hid ((cellsI (List.replicate 18 0)).size=(cellsI (sidesC true ⟨LL,RR,C⟩)).size):=by show _=_;rw [az,az,(nt hrc).1];rfl
     have H9L:Hid ((Tryz.prog.info? 171).map (·.size)=some (sideC true LL).length):=by show _=_;rw [jr,cq _ _ (fun _=>HL8.out)]
     have H9R:Hid ((Tryz.prog.info? 171).map (·.size)=some (sideC true RR).length):=by show _=_;rw [jr,cq _ _ (fun _=>HR8.out)]
     have hsd1:L+1+cnt4<=sd:=by omega
     clear hkey hlk hv hat hrg4 hlt4 hgr4 hsz4 hat' hwc hrm hrc hca ho1 ho2 ho3 ho4 ho5 hcb hcg
     go_wp2_with (first
      | (refine ai (by rfl) 173 (.tmp 11) (.tmp 54) (by rfl) w4.heap.size (cellsI (sidesC true ⟨LL,RR,C⟩)) (by rfl) (by rfl) 173 (cellsI (List.replicate 18 0)) (han _ _) HIS.out HZS.out (bt _) ?_
         intro w5 hw5 hgr5 hsz5;have HF5:=hdq hw5;have HB5:Hid (Below w4.heap.size w4 w5):=((Below.refl _ w4).alloc lrf _).grown hgr5 (Nat.le_of_lt (kg _ _)) (fun k hk=>by cases hk;exact Nat.le_refl _)
         clear hw5 hgr5 hsz5)
      | fail)
     have hmx:=HMX.out;refine wp_region_any hmx ?_
     try (change wpAny _ _ _ _ _ _ _ (World.drew _))
     generalize hV:World.drew w5=V;have hVs:V.heap=w5.heap:=by rw [<-hV];rfl
     have HVS:=hdq hVs;have HLT:Hid (w4.heap.size<V.heap.size):=by show _<_;rw [hVs];exact (hltq HF5.out)
     have HFV:Hid (V.heap[w4.heap.size]?=some (.cells (cellsI (sidesC true ⟨LL,RR,C⟩)) 173 (0,0))):=by show _=_;rw [hVs];exact HF5.out
     have HP1:Hid (V.ownsRow W.heap.size 74 3 (.slice (some ⟨W.heap.size,0,none⟩) L sd) L (rcells outs)):=by rw [<-hV];exact af HO1.out HB5.out.drew lrf
     have HP2:Hid (∀x∈outs,x.Good V/\x.Far (some W.heap.size)/\x.Far (some w2.heap.size)/\∀k,k<w.heap.size->x.Far (some k)):=fun x hx=>⟨by rw [<-hV];exact (HO3.out x hx).1.below HB5.out.drew lrf,(HO3.out x hx).2⟩
     have HP3:Hid (V.ranges Tryz.prog 173 (plainElem Tryz.prog 23) w.heap.size w2.heap.size j D (fun z=>left z&&!z.sameKey (keyR ⟨LL,RR,C⟩)) cnt4):=by rw [<-hV];exact HRG4.out.kept (gn HB5.out.drew) (by simp) (by simp)
     have HP4:Hid (Below w.heap.size w V):=by rw [<-hV];exact (HO5.out.trans (HB5.out.mono HO5.out.size)).drew
     have HVG:Hid (W.heap.size<V.heap.size):=(rf HP1.out).2.1;have HVR:Hid (w2.heap.size<V.heap.size):=HP3.out.lt
     have HLD:Hid (∀j v,((sideC true LL).map (Value.int .i64))[j]?=some v->V.cell? ⟨w4.heap.size,0+j,none⟩=some v):=fun j v h=>by
      rw [cell_of_row V _ _ _ _ _ HFV.out,Nat.zero_add];exact akw HL8.out h
     have HRD:Hid (∀j v,((sideC true RR).map (Value.int .i64))[j]?=some v->V.cell? ⟨w4.heap.size,9+j,none⟩=some v):=fun j v h=>by
      rw [cell_of_row V _ _ _ _ _ HFV.out];exact aic HL8.out h
     clear hVs hV;refine t_n 0 ?_;refine t_n 1 ?_;refine t_n 4 ?_;refine t_n 7 ?_;refine r2_n 2 5 (fun K hK=>?_) (fun K hK=>?_)
     ·refine ig (by rfl) 171 (.tmp 57) (by rfl) w4.heap.size 0 (by rfl) (sideC true LL) HLD.out _ Tryz.underlying171 (by rfl) H9L.out ?_
      refine k_n hK ?_;clear hK K;refine r2_n 3 5 (fun K hK=>?_) (fun K hK=>?_)
      ·go_simp;refine (pt LL V HWL.out HL8.out).mono ?_;rintro e V1 ⟨rfl,hs1,hb1,hz1⟩;have HS1:=hdq hs1;have HB1:=hdq hb1;have HZ1:=hdq hz1;clear hs1 hb1 hz1;refine k_n hK ?_;clear hK K;refine r_n 5 (fun K hK=>?_);refine ig (by rfl) 171 (.tmp 60) (by rfl) w4.heap.size 9 (by rfl) (sideC true RR) (fun j v h=>(HB1.out.cell (p:=⟨w4.heap.size,9+j,none⟩) HLT.out).trans (HRD.out j v h)) _ Tryz.underlying171 (by rfl) H9R.out ?_
       refine k_n hK ?_;clear hK K;refine r_n 6 (fun K hK=>?_);go_simp;refine (pt RR V1 HWR.out HR8.out).mono ?_;rintro e V2 ⟨rfl,hs2,hb2,hz2⟩;have HS2:=hdq hs2;have HB2:=hdq hb2;have HZ2:=hdq hz2;clear hs2 hb2 hz2;refine k_n hK ?_;clear hK K;refine r_n 8 (fun K hK=>?_);go_simp;refine k_n hK ?_;clear hK K;refine r_n 9 (fun K hK=>?_);go_simp;refine k_n hK ?_;clear hK K;refine r_n 10 (fun K hK=>?_);have HBV:Hid (Below V.heap.size V V2):=HB1.out.trans (HB2.out.mono HB1.out.size);have HGN:Hid (Rw.Good V2 ⟨some ⟨V.heap.size+1,0,none⟩,LL.length,LL.length,LL,some ⟨V1.heap.size+1,0,none⟩,RR.length,RR.length,RR,C⟩):=⟨HS1.out.below HB2.out lrf,HS2.out,HCB.out⟩;refine kf (by rfl) (.tmp 56) (.tmp 65) (by rfl) W.heap.size W.heap.size L sd outs (by rfl) ((af HP1.out HBV.out lrf).alloc _) ⟨V2.heap.size,0,none⟩ 1 1 [⟨some ⟨V.heap.size+1,0,none⟩,LL.length,LL.length,LL,some ⟨V1.heap.size+1,0,none⟩,RR.length,RR.length,RR,C⟩] (by rfl) (Rs.single (HGN.out.alloc _) (RwAt.new V2 ⟨some ⟨V.heap.size+1,0,none⟩,LL.length,LL.length,LL,some ⟨V1.heap.size+1,0,none⟩,RR.length,RR.length,RR,C⟩ 74)) (by omega) (by omega) ?_
       intro w6 hown6 hgr6;have HO6:=hdq hown6;have HG6:=hdq hgr6;clear hown6 hgr6;refine k_n hK ?_;clear hK K;refine t_n 11 ?_;refine wpAny_done (by kernel_rfl) ?_ _
       go_wp2;go_roundw
       case rel =>
        exact z7
       case measure =>
        exact z8
      ·refine ig (by rfl) 171 (.tmp 60) (by rfl) w4.heap.size 9 (by rfl) (sideC true RR) HRD.out _ Tryz.underlying171 (by rfl) H9R.out ?_
       refine k_n hK ?_;clear hK K;refine r_n 3 (fun K hK=>?_);go_simp;refine (pt LL V HWL.out HL8.out).mono ?_;rintro e V1 ⟨rfl,hs1,hb1,hz1⟩;have HS1:=hdq hs1;have HB1:=hdq hb1;have HZ1:=hdq hz1;clear hs1 hb1 hz1;refine k_n hK ?_;clear hK K;refine r_n 6 (fun K hK=>?_);go_simp;refine (pt RR V1 HWR.out HR8.out).mono ?_;rintro e V2 ⟨rfl,hs2,hb2,hz2⟩;have HS2:=hdq hs2;have HB2:=hdq hb2;have HZ2:=hdq hz2;clear hs2 hb2 hz2;refine k_n hK ?_;clear hK K;refine r_n 8 (fun K hK=>?_);go_simp;refine k_n hK ?_;clear hK K;refine r_n 9 (fun K hK=>?_);go_simp;refine k_n hK ?_;clear hK K;refine r_n 10 (fun K hK=>?_);have HBV:Hid (Below V.heap.size V V2):=HB1.out.trans (HB2.out.mono HB1.out.size);have HGN:Hid (Rw.Good V2 ⟨some ⟨V.heap.size+1,0,none⟩,LL.length,LL.length,LL,some ⟨V1.heap.size+1,0,none⟩,RR.length,RR.length,RR,C⟩):=⟨HS1.out.below HB2.out lrf,HS2.out,HCB.out⟩;refine kf (by rfl) (.tmp 56) (.tmp 65) (by rfl) W.heap.size W.heap.size L sd outs (by rfl) ((af HP1.out HBV.out lrf).alloc _) ⟨V2.heap.size,0,none⟩ 1 1 [⟨some ⟨V.heap.size+1,0,none⟩,LL.length,LL.length,LL,some ⟨V1.heap.size+1,0,none⟩,RR.length,RR.length,RR,C⟩] (by rfl) (Rs.single (HGN.out.alloc _) (RwAt.new V2 ⟨some ⟨V.heap.size+1,0,none⟩,LL.length,LL.length,LL,some ⟨V1.heap.size+1,0,none⟩,RR.length,RR.length,RR,C⟩ 74)) (by omega) (by omega) ?_
       intro w6 hown6 hgr6;have HO6:=hdq hown6;have HG6:=hdq hgr6;clear hown6 hgr6;refine k_n hK ?_;clear hK K;refine t_n 11 ?_;refine wpAny_done (by kernel_rfl) ?_ _
       go_wp2;go_roundw
       case rel =>
        exact z7
       case measure =>
        exact z8
     ·refine ig (by rfl) 171 (.tmp 60) (by rfl) w4.heap.size 9 (by rfl) (sideC true RR) HRD.out _ Tryz.underlying171 (by rfl) H9R.out ?_
      refine k_n hK ?_;clear hK K;refine r_n 2 (fun K hK=>?_);refine ig (by rfl) 171 (.tmp 57) (by rfl) w4.heap.size 0 (by rfl) (sideC true LL) HLD.out _ Tryz.underlying171 (by rfl) H9L.out ?_
      refine k_n hK ?_;clear hK K;refine r_n 3 (fun K hK=>?_);go_simp;refine (pt LL V HWL.out HL8.out).mono ?_;rintro e V1 ⟨rfl,hs1,hb1,hz1⟩;have HS1:=hdq hs1;have HB1:=hdq hb1;have HZ1:=hdq hz1;clear hs1 hb1 hz1;refine k_n hK ?_;clear hK K;refine r_n 6 (fun K hK=>?_);go_simp;refine (pt RR V1 HWR.out HR8.out).mono ?_;rintro e V2 ⟨rfl,hs2,hb2,hz2⟩;have HS2:=hdq hs2;have HB2:=hdq hb2;have HZ2:=hdq hz2;clear hs2 hb2 hz2;refine k_n hK ?_;clear hK K;refine r_n 8 (fun K hK=>?_);go_simp;refine k_n hK ?_;clear hK K;refine r_n 9 (fun K hK=>?_);go_simp;refine k_n hK ?_;clear hK K;refine r_n 10 (fun K hK=>?_);have HBV:Hid (Below V.heap.size V V2):=HB1.out.trans (HB2.out.mono HB1.out.size);have HGN:Hid (Rw.Good V2 ⟨some ⟨V.heap.size+1,0,none⟩,LL.length,LL.length,LL,some ⟨V1.heap.size+1,0,none⟩,RR.length,RR.length,RR,C⟩):=⟨HS1.out.below HB2.out lrf,HS2.out,HCB.out⟩;refine kf (by rfl) (.tmp 56) (.tmp 65) (by rfl) W.heap.size W.heap.size L sd outs (by rfl) ((af HP1.out HBV.out lrf).alloc _) ⟨V2.heap.size,0,none⟩ 1 1 [⟨some ⟨V.heap.size+1,0,none⟩,LL.length,LL.length,LL,some ⟨V1.heap.size+1,0,none⟩,RR.length,RR.length,RR,C⟩] (by rfl) (Rs.single (HGN.out.alloc _) (RwAt.new V2 ⟨some ⟨V.heap.size+1,0,none⟩,LL.length,LL.length,LL,some ⟨V1.heap.size+1,0,none⟩,RR.length,RR.length,RR,C⟩ 74)) (by omega) (by omega) ?_
      intro w6 hown6 hgr6;have HO6:=hdq hown6;have HG6:=hdq hgr6;clear hown6 hgr6;refine k_n hK ?_;clear hK K;refine t_n 11 ?_;refine wpAny_done (by kernel_rfl) ?_ _
      go_wp2;go_roundw
      case rel =>
       exact z7
      case measure =>
       exact z8

theorem aso (a:Option Addr) (n cap:Nat) (xs:List Rw) (w:World) (hs:Rs w a n cap xs) (hn:n<=20000) :
 Calls Tryz.prog 90 #[.slice a n cap] w fun e w'=>RulesIs w w' e (nrm (ruls xs)) n :=
 (asn a n cap xs w hs hn).mono fun _ _ h=>h.is

end Go.Proofs.YtkiamgcpcneggaaGreat
