import Derived.Test.YtkiamgcpcneggaaGreatPackK
set_option linter.all false
set_option maxRecDepth 100000
set_option maxHeartbeats 12800000
namespace Go.Proofs.YtkiamgcpcneggaaGreat
section
open Go.RowKit Go.Maps Go.WideMaps

theorem UL:Tryz.prog.cellsOf 3=1:=krf
theorem UM:Tryz.prog.cellsOf 169=8:=krf
theorem Ng:Tryz.prog.cellsOf 171=9:=krf
theorem UN:Tryz.prog.cellsOf 173=18:=krf
theorem aeY:Tryz.prog.keyType 173=true:=krf

theorem aeZ (d:Nat) (a0 a1 a2 a3 a4 a5 a6 a7 n b0 b1 b2 b3 b4 b5 b6 b7 m:Int) (ha0:(Lit.int .i64 a0).wf=true) (ha1:(Lit.int .i64 a1).wf=true) (ha2:(Lit.int .i64 a2).wf=true) (Eh:(Lit.int .i64 a3).wf=true) (Ei:(Lit.int .i64 a4).wf=true) (Ej:(Lit.int .i64 a5).wf=true) (El:(Lit.int .i64 a6).wf=true) (Em:(Lit.int .i64 a7).wf=true) (hn:(Lit.int .i64 n).wf=true) (hb0:(Lit.int .i64 b0).wf=true) (hb1:(Lit.int .i64 b1).wf=true) (hb2:(Lit.int .i64 b2).wf=true) (hb3:(Lit.int .i64 b3).wf=true) (hb4:(Lit.int .i64 b4).wf=true) (hb5:(Lit.int .i64 b5).wf=true) (hb6:(Lit.int .i64 b6).wf=true) (az:(Lit.int .i64 b7).wf=true) (hm:(Lit.int .i64 m).wf=true) :
 Tryz.prog.keyLits (d+4) 173 ([.int .i64 a0,.int .i64 a1,.int .i64 a2,.int .i64 a3,.int .i64 a4,.int .i64 a5,.int .i64 a6,.int .i64 a7,.int .i64 n,.int .i64 b0,.int .i64 b1,.int .i64 b2,.int .i64 b3,.int .i64 b4,.int .i64 b5,.int .i64 b6,.int .i64 b7,.int .i64 m]:List Value)=some ([.int .i64 a0,.int .i64 a1,.int .i64 a2,.int .i64 a3,.int .i64 a4,.int .i64 a5,.int .i64 a6,.int .i64 a7,.int .i64 n,.int .i64 b0,.int .i64 b1,.int .i64 b2,.int .i64 b3,.int .i64 b4,.int .i64 b5,.int .i64 b6,.int .i64 b7,.int .i64 m]:List Lit):=by
 have hr:List.range 8=[0,1,2,3,4,5,6,7]:=rfl;simp [Program.keyLits,Tryz.underlying173,Tryz.underlying171,Tryz.underlying169,Tryz.underlying3,UN,Ng,UM,UL,hr,List.mapM_cons,ha0,ha1,ha2,Eh,Ei,Ej,El,Em,hn,hb0,hb1,hb2,hb3,hb4,hb5,hb6,az,hm];rw [if_pos (by decide),if_pos (by decide)]
 first|rfl|simp

theorem afa (a0 a1 a2 a3 a4 a5 a6 a7 n b0 b1 b2 b3 b4 b5 b6 b7 m:Int) (ha0:(Lit.int .i64 a0).wf=true) (ha1:(Lit.int .i64 a1).wf=true) (ha2:(Lit.int .i64 a2).wf=true) (Eh:(Lit.int .i64 a3).wf=true) (Ei:(Lit.int .i64 a4).wf=true) (Ej:(Lit.int .i64 a5).wf=true) (El:(Lit.int .i64 a6).wf=true) (Em:(Lit.int .i64 a7).wf=true) (hn:(Lit.int .i64 n).wf=true) (hb0:(Lit.int .i64 b0).wf=true) (hb1:(Lit.int .i64 b1).wf=true) (hb2:(Lit.int .i64 b2).wf=true) (hb3:(Lit.int .i64 b3).wf=true) (hb4:(Lit.int .i64 b4).wf=true) (hb5:(Lit.int .i64 b5).wf=true) (hb6:(Lit.int .i64 b6).wf=true) (az:(Lit.int .i64 b7).wf=true) (hm:(Lit.int .i64 m).wf=true) :
 keyOf Tryz.prog 173 (.agg #[.int .i64 a0,.int .i64 a1,.int .i64 a2,.int .i64 a3,.int .i64 a4,.int .i64 a5,.int .i64 a6,.int .i64 a7,.int .i64 n,.int .i64 b0,.int .i64 b1,.int .i64 b2,.int .i64 b3,.int .i64 b4,.int .i64 b5,.int .i64 b6,.int .i64 b7,.int .i64 m])=some (.string (keyBytes [.int .i64 a0,.int .i64 a1,.int .i64 a2,.int .i64 a3,.int .i64 a4,.int .i64 a5,.int .i64 a6,.int .i64 a7,.int .i64 n,.int .i64 b0,.int .i64 b1,.int .i64 b2,.int .i64 b3,.int .i64 b4,.int .i64 b5,.int .i64 b6,.int .i64 b7,.int .i64 m])):=by
 have hk:=aeZ (Tryz.prog.types.size-3) a0 a1 a2 a3 a4 a5 a6 a7 n b0 b1 b2 b3 b4 b5 b6 b7 m ha0 ha1 ha2 Eh Ei Ej El Em hn hb0 hb1 hb2 hb3 hb4 hb5 hb6 az hm
 have hs:Tryz.prog.types.size-3+4=Tryz.prog.types.size+1:=by
  have:3<=Tryz.prog.types.size:=of_decide_eq_true krf;omega
 rw [hs] at hk;unfold keyOf;simp only [Tryz.underlying173];rw [if_pos (by simp [aeY,Value.formed,Tryz.underlying173,UN])];rw [show (Value.agg #[.int .i64 a0,.int .i64 a1,.int .i64 a2,.int .i64 a3,.int .i64 a4,.int .i64 a5,.int .i64 a6,.int .i64 a7,.int .i64 n,.int .i64 b0,.int .i64 b1,.int .i64 b2,.int .i64 b3,.int .i64 b4,.int .i64 b5,.int .i64 b6,.int .i64 b7,.int .i64 m]).cells.toList=([.int .i64 a0,.int .i64 a1,.int .i64 a2,.int .i64 a3,.int .i64 a4,.int .i64 a5,.int .i64 a6,.int .i64 a7,.int .i64 n,.int .i64 b0,.int .i64 b1,.int .i64 b2,.int .i64 b3,.int .i64 b4,.int .i64 b5,.int .i64 b6,.int .i64 b7,.int .i64 m]:List Value) from rfl,hk];rfl

end
section
theorem z5 {P:Prop} (h:P:=by
 have hg:Utf.good n=false:=by simp [Utf.good];omega
 rw [hg];go_enter Tryz.func60,Tryz.ntmps60;go_wp2;go_ret
 exact ⟨rfl,rfl⟩):P:=h
theorem z6 {P:Prop} (h:P:=by
 have hg:Utf.good n=true:=by simp [Utf.good];omega
 rw [hg];go_enter Tryz.func60,Tryz.ntmps60;go_wp2;go_ret
 exact ⟨rfl,rfl⟩):P:=h
open Go.RowKit

theorem yA (n:Int) (w:World) (h0:-9223372036854775808<=n) (h1:n<=9223372036854775807) :
 Calls Tryz.prog 60 #[.int .i64 n] w fun e w'=>e=.returned (.bool (Utf.good n))/\w=w':=by
 by_cases a:n<0
 ·exact z5
 ·by_cases b:1114111<n
  ·exact z5
  ·by_cases c:55296<=n
   ·by_cases d:n<=57343
    ·exact z5
    ·exact z6
   ·exact z6

end
section
open Go.RowKit

def aF (ok:Bool) (l:LIn):LIn:=if ok=true then l++List.replicate (8-l.length) 0++[(l.length:Int)] else List.replicate 9 0
def afb (ok:Bool) (l:LIn):Value:=.agg ((aF ok l).map (Value.int .i64)).toArray
def kZ (l:LIn) (j:Nat) (n:Int):LIn:=l.take j++List.replicate (8-j) 0++[n]
def ax (l:LIn):Array Value:=(l.map (Value.int .i64)).toArray

theorem afc {l:LIn} {j:Nat} (hj:j<l.length) (h8:j<8) (n:Int):(kZ l j n).set j (l.getD j 0)=kZ l (j+1) n:=by
 have e1:8-j=(8-(j+1))+1:=omg;have e2:(l.take j).length=j:=by simp;omega
 have e3:l.take (j+1)=l.take j++[l.getD j 0]:=by rw [tsa hj];simp [hj]
 unfold kZ;rw [e1,List.replicate_succ,List.append_assoc,List.set_append_right _ _ omg,e2,Nat.sub_self,e3];simp only [List.cons_append,List.set_cons_zero,List.append_assoc,List.nil_append]
theorem afd (l:LIn) (j:Nat) (n:Int) (hj:j<=l.length) (h8:j<=8):(kZ l j n).length=9:=by
 unfold kZ;simp;omega
theorem afe {l:LIn} (h8:l.length<=8):kZ l l.length (l.length:Int)=aF true l:=by
 unfold kZ aF;simp
theorem iN (l:LIn):(ax l).size=l.length:=by simp [ax]
theorem jK (l:LIn):(ax l).all (·.oneCell')=true:=by
 rw [Array.all_eq_true_iff_forall_mem];intro v hv;simp only [ax,List.mem_toArray,List.mem_map] at hv;obtain ⟨z,_,rfl⟩:=hv;rfl
theorem qP (ok:Bool) (l:LIn) (h:ok=true->l.length<=8):(aF ok l).length=9:=by
 unfold aF;split
 ·rename_i h';have:=h h';simp;omega
 ·simp
theorem aff (l:LIn) (j:Nat) (z:Int):(ax l).setIfInBounds j (.int .i64 z)=ax (l.set j z):=by
 simp [ax,List.map_set]

theorem AL:(Tryz.prog.info? 171).map (·.size)=some 9:=krf
theorem Dy:(Tryz.prog.info? 173).map (·.size)=some 18:=krf

theorem UO (a:OAd) (n cap:Nat) (L:LIn) (r:Bool) (w:World) (hs:Sl .i64 w a n cap L) (hr:gZ L=r) :
 Calls Tryz.prog 164 #[.slice a n cap] w fun e w'=>e=.returned (.tuple #[afb r L,.bool r])/\Below w.heap.size w w':=by
 have hnc:=hs.2.1;have hcm:=hs.2.2.1;unfold maxLen at hcm;have HS:=hdq hs;have HL:=hdq hs.1;have HI:Hid ((Tryz.prog.info? 171).map (·.size)=some (ax (List.replicate 9 0)).size):=by rw [AL];rfl
 have HR:=hdq hr;have HB:∀o,Hid (Below w.heap.size w (w.alloc o)):=fun o=>(Below.refl _ w).alloc lrf o;have HN:Hid (∀o,(w.alloc o).heap[w.heap.size]?=some o):=fun o=>han w o;clear hs hr;by_cases h8:8<n
 ·have h8i:(8:Int)<(n:Int):=omg
  have hr0:r=false:=by
   rw [<-HR.out];unfold gZ;rw [show decide (L.length<=8)=false from by rw [decide_eq_false_iff_not,HL.out];omega,Bool.and_false]
  subst hr0;go_enter Tryz.func164,Tryz.ntmps164;go_wp2;refine bodyPost_ret (mW rfl _ _ w.heap.size 171 (ax (List.replicate 9 0)) (0,0) _ rfq (HN.out _) Tryz.underlying171 rfq HI.out) rfl ?_;exact ⟨rfl,(HB _).out⟩
 ·have h8i:¬(8:Int)<(n:Int):=omg;go_enter Tryz.func164,Tryz.ntmps164;go_wp2;go_loopw [16] (fun ix wr=>∃j:Nat,j<=n/\ix=.int .i64 (j:Int)/\Hid (∀z∈L.take j,Utf.good z=true)/\Hid (wr.heap[w.heap.size]?=some (.cells (ax (List.replicate 9 0)) 171 (0,0)))/\Hid (wr.heap[w.heap.size+1]?=some (.cells (ax (kZ L j n)) 171 (0,0)))/\Hid (Below w.heap.size w wr)) (fun ix _=>n-(intOf ix).toNat)
  case atStart =>
   refine ⟨0,Nat.zero_le _,rfl,(fun z hz=>by simp at hz),?_,?_,?_⟩
   ·exact heap_alloc2_old w _ _
   ·exact heap_alloc2_new w _ _
   ·exact (HB _).out.alloc smp _
  case round =>
   obtain ⟨j,hj,rfl,HG,H0,H1,ai⟩:=hrel;by_cases hlt:j<n
   ·obtain ⟨b1,o1,rfl,hb1,hc1⟩:=HS.out.at omg;obtain ⟨x,hx⟩:∃x,x=L.getD j 0:=⟨_,rfl⟩;have hx1:=hc1 j hlt;rw [<-hx] at hx1;have hx2:wr.cell? ⟨b1,o1+j,none⟩=some (.int .i64 x):=by rw [ai.out.cell (p:=⟨b1,o1+j,none⟩) hb1];exact hx1
    have hxm:x∈L:=by rw [hx,gdq,geg (by rw [HL.out];exact hlt),Option.getD_some];exact List.getElem_mem _
    have PI:=bounds_i64 (HS.out.2.2.2.1 x hxm);have dS:=hdq hxm;have HX:=hdq hx;have bB:(j:Int)<(n:Int):=omg;have En:(j:Int)<8:=omg;have hxa:=PI.1;have hxb:=PI.2;obtain ⟨g,hg⟩:∃g,Utf.good x=g:=⟨_,rfl⟩;have fF:=hdq hg
    have HC:Hid (Calls Tryz.prog 60 #[.int .i64 x] wr fun e w'=>e=.returned (.bool g)/\wr=w'):=by
     have h:=yA x wr hxa hxb;rw [hg] at h;exact h
    clear hc1 hx1 hx hg hxm PI hxa hxb;cases g
    ·have hr0:r=false:=by
      rw [<-HR.out];unfold gZ;rw [show L.all Utf.good=false from by rw [List.all_eq_false];exact ⟨x,dS.out,by rw [fF.out];decide⟩,Bool.false_and]
     subst hr0;go_wp2_with fail;refine HC.out.mono ?_;rintro e w1 ⟨rfl,rfl⟩;go_wp2_with (refine wpList_store_row rfq 171 (.tmp 2) (.tmp 24) rfq w.heap.size (ax (List.replicate 9 0)) rfq rfq 171 (ax (List.replicate 9 0)) H0.out HI.out rfl (jK _) ?_);refine bodyPost_ret (mW rfl _ _ w.heap.size 171 (ax (List.replicate 9 0)) (0,0) _ rfq (setRow_heap _ _ _ _ _ _ H0.out) Tryz.underlying171 rfq HI.out) rfl ?_;exact ⟨rfl,below_setRow ai.out lrf _⟩
    ·have hcell:wr.cell? ⟨w.heap.size+1,j,none⟩=some (.int .i64 ((kZ L j n).getD j 0)):=by
      rw [cell_of_row wr (w.heap.size+1) j _ _ _ H1.out];have hl9:=afd L j n (by rw [HL.out];omega) omg;simp [ax,show j<(kZ L j n).length by omega]
     have hfr:wr.frozen? ⟨w.heap.size+1,j,none⟩=false:=by
      have h:=H1.out;simp [World.frozen?,h]
     go_wp2_with fail;refine HC.out.mono ?_;rintro e w1 ⟨rfl,rfl⟩;go_wp2;go_roundw
     case rel =>
      refine ⟨j+1,by omega,by go_num,?_,?_,?_,?_⟩
      ·intro z hz;rw [tsa (by rw [HL.out];exact hlt)] at hz;rcases map1 hz with hz|hz
       ·exact HG.out z hz
       ·rw [msg hz];have:=HX.out;rw [gdq,geg (by rw [HL.out];exact hlt),Option.getD_some] at this;rw [<-this];exact fF.out
      ·show (World.setCell _ _ _).heap[_]?=_;rw [heap_setCell_other _ _ _ _ (by show w.heap.size≠w.heap.size+1;omega)];exact H0.out
      ·show (World.setCell _ _ _).heap[_]?=_;rw [heap_setCell_same _ _ _ _ _ _ H1.out,aff,HX.out,afc (by rw [HL.out];exact hlt) omg]
      ·exact ai.out.setCell (by show w.heap.size<=w.heap.size+1;omega) _
     case measure=>simp [intOf];omega
   ·obtain rfl:j=n:=omg
    have hr1:r=true:=by
     rw [<-HR.out];unfold gZ;rw [Bool.and_eq_true,List.all_eq_true,decide_eq_true_iff,HL.out];refine ⟨fun z hz=>HG.out z ?_,by omega⟩;rw [tol (by rw [HL.out];omega)];exact hz
    subst hr1
    have HP:Hid (kZ L j j=aF true L):=by
     show _=_;have:=afe (l:=L) (by rw [HL.out];omega)
     rwa [HL.out] at this
    have HI2:Hid ((Tryz.prog.info? 171).map (·.size)=some (ax (kZ L j j)).size):=by
     show _=_;rw [AL,iN,HP.out,qP _ _ (fun _=>by rw [HL.out];omega)]
    have HI3:Hid ((ax (List.replicate 9 0)).size=(ax (kZ L j j)).size):=by
     show _=_;rw [iN,iN,HP.out,qP _ _ (fun _=>by rw [HL.out];omega)];rfl
    go_wp2_with (first
     | (refine wpList_load_row rfq 171 (.tmp 4) rfq (w.heap.size+1) rfq 171 (ax (kZ L j j)) (0,0) _ H1.out Tryz.underlying171 rfq HI2.out ?_)
     | (refine wpList_store_row rfq 171 (.tmp 2) (.tmp 30) rfq w.heap.size (ax (kZ L j j)) rfq rfq 171 (ax (List.replicate 9 0)) H0.out HI2.out HI3.out (jK _) ?_))
    refine bodyPost_ret (mW rfl _ _ w.heap.size 171 (ax (kZ L j j)) (0,0) _ rfq (setRow_heap _ _ _ _ _ _ H0.out) Tryz.underlying171 rfq HI2.out) rfl ?_;exact ⟨by rw [HP.out];rfl,below_setRow ai.out lrf _⟩

end
section
open Go.RowKit Go.Maps Go.WideMaps

def wm (l:LIn):List Lit:=l.map (Lit.int .i64)
theorem UQ:∀{l l':LIn},wm l=wm l'->l=l'
 | [],[],_=>rfl
 | [],_::_,h=>by simp [wm] at h
 | _::_,[],h=>by simp [wm] at h
 | a::l,b::l',h=>by
   simp only [wm,List.map_cons,List.cons.injEq,Lit.int.injEq,true_and] at h;rw [h.1,UQ h.2]
def WfI (l:LIn):Prop:=∀z∈l,(Lit.int .i64 z).wf=true

theorem IX {ok:Bool} {l:LIn} (h:WfI l) (h8:ok=true->l.length<=8):WfI (aF ok l):=by
 intro z hz;unfold aF at hz;split at hz
 ·rename_i h';have:=h8 h';simp only [List.append_assoc,List.mem_append,List.mem_replicate,List.mem_singleton] at hz;rcases hz with hz|⟨_,rfl⟩|rfl
  ·exact h z hz
  ·decide
  ·exact WalkArith.wf_i64 omg
 ·rw [List.eq_of_mem_replicate hz];decide

theorem UR (d:Nat) (l:LIn) (h9:l.length=9) (hw:WfI l):Tryz.prog.keyLits (d+3) 171 (ax l).toList=some (wm l):=by
 match l,h9 with
 | [a0,a1,a2,a3,a4,a5,a6,a7,n],_ =>
   have ha0:=hw a0 smp;have ha1:=hw a1 smp;have ha2:=hw a2 smp;have Eh:=hw a3 smp;have Ei:=hw a4 smp;have Ej:=hw a5 smp;have El:=hw a6 smp;have Em:=hw a7 smp;have hn:=hw n smp;have hr:List.range 8=[0,1,2,3,4,5,6,7]:=rfl;show Tryz.prog.keyLits (d+3) 171 ([.int .i64 a0,.int .i64 a1,.int .i64 a2,.int .i64 a3,.int .i64 a4,.int .i64 a5,.int .i64 a6,.int .i64 a7,.int .i64 n]:List Value)=some ([.int .i64 a0,.int .i64 a1,.int .i64 a2,.int .i64 a3,.int .i64 a4,.int .i64 a5,.int .i64 a6,.int .i64 a7,.int .i64 n]:List Lit);simp [Program.keyLits,Tryz.underlying171,Tryz.underlying169,Tryz.underlying3,Ng,UM,UL,hr,List.mapM_cons,ha0,ha1,ha2,Eh,Ei,Ej,El,Em,hn]

theorem afg (l:LIn) (h18:l.length=18) (hw:WfI l):keyOf Tryz.prog 173 (.agg (ax l))=some (.string (keyBytes (wm l))):=by
 match l,h18 with
 | [a0,a1,a2,a3,a4,a5,a6,a7,n,b0,b1,b2,b3,b4,b5,b6,b7,m],_ =>
   exact afa a0 a1 a2 a3 a4 a5 a6 a7 n b0 b1 b2 b3 b4 b5 b6 b7 m (hw _ smp) (hw _ smp) (hw _ smp) (hw _ smp) (hw _ smp) (hw _ smp) (hw _ smp) (hw _ smp) (hw _ smp) (hw _ smp) (hw _ smp) (hw _ smp) (hw _ smp) (hw _ smp) (hw _ smp) (hw _ smp) (hw _ smp) (hw _ smp)

theorem UT (l:LIn) (h9:l.length=9):(Value.agg (ax l)).formed Tryz.prog 171=true:=by
 simp [Value.formed,Tryz.underlying171,Ng,iN,h9]

theorem afh (l l':LIn) (w:World) (h9:l.length=9) (Bl:l'.length=9) (hw:WfI l) (hw':WfI l') :
 (binOp .eql 171 (.agg (ax l)) (.agg (ax l'))).run Tryz.prog w=.ok (.bool (decide (l=l'))) w:=by
 obtain ⟨r,hr,hiff⟩:=run_equalIn_deep (P:=Tryz.prog) 9997 3 171 krf w 3 3 (.agg (ax l)) (.agg (ax l')) _ _ (UT l h9) (UT l' Bl) (UR 0 l h9 hw) (UR 0 l' Bl hw');rw [run_eql_struct,show (10000:Nat)=9997+3 from rfl,hr]
 have:r=decide (l=l'):=by
  rw [Bool.eq_iff_iff,hiff,decide_eq_true_iff];exact ⟨UQ,fun h=>by rw [h]⟩
 rw [this];rfl

theorem Nh {ops:Array Oper} {rest:List Oper} {o:Oper} {a:Act} {w:World} {Q:Exit->Act->World->Prop} (hwt:Region.wanted o (yielded ops a.tmps)=true) (x y:Operand) (ho:o.op=.binOp .eql 171 x y 171)
 (l l':LIn) (h9:l.length=9) (Bl:l'.length=9) (hw:WfI l) (hw':WfI l') (r:Bool) (hr:decide (l=l')=r) (hx:a.eval x=.agg (ax l)) (hy:a.eval y=.agg (ax l'))
 (h:wpList Tryz.prog ops Q rest (a.put o.dst (.bool r)) w):wpList Tryz.prog ops Q (o::rest) a w:=by
 refine wpList_step fun K hK=>?_;rw [if_pos hwt];have hg:=run_eqGuard_agg (P:=Tryz.prog) w BinOp.eql 171 x y (ax l) (ax l') krf;unfold Oper.wp execOp;simp only [ho,hx,hy,Sem.run_bind,hg,Result.andThen_ok,afh l l' w h9 Bl hw hw',hr];exact hK _ _ h
end
end Go.Proofs.YtkiamgcpcneggaaGreat
