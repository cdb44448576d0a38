import Derived.Test.YtkiamgcpcneggaaGreatPackM
import Derived.Test.YtkiamgcpcneggaaGreatPackAS
set_option linter.all false
set_option maxRecDepth 100000
set_option maxHeartbeats 12800000
namespace Go.Proofs.YtkiamgcpcneggaaGreat
section
open Go.RowKit

def di (ok:Bool) (r:aj):LIn:=if ok=true then aF true r.L++aF true r.R else List.replicate 18 0

theorem jl {l:LIn} (h:gZ l=true):l.length<=8:=by
 unfold gZ at h;rw [Bool.and_eq_true,decide_eq_true_iff] at h;exact h.2
theorem Ni {l l':LIn} (h8:l.length<=8) (h8':l'.length<=8) (h:aF true l=aF true l'):l=l':=by
 unfold aF at h;rw [if_pos rfl,if_pos rfl] at h;have h1:=List.append_inj' h rfl;have h2:l.length=l'.length:=by have:=h1.2;simp only [List.cons.injEq,and_true] at this;omega
 exact (List.append_inj h1.1 h2).1
theorem afi (r:aj):chk r=(gZ r.L&&gZ r.R&&decide (r.C<18446744073709551615)&&!decide (r.L=r.R)):=rfl
theorem nX {r:aj} (h:chk r=true):gZ r.L=true/\gZ r.R=true:=by
 rw [afi] at h;simp only [Bool.and_eq_true] at h;exact ⟨h.1.1.1,h.1.1.2⟩
theorem Nj {ok:Bool} {r:aj} (h:ok=true->chk r=true):(di ok r).length=18:=by
 unfold di;split
 ·rename_i h';have hc:=nX (h h');rw [List.length_append,qP _ _ (fun _=>jl hc.1),qP _ _ (fun _=>jl hc.2)]
 ·simp
theorem afj {ok:Bool} {r:aj} (hL:WfI r.L) (hR:WfI r.R) (h:ok=true->chk r=true):WfI (di ok r):=by
 unfold di;split
 ·rename_i h';have hc:=nX (h h');intro z hz;rcases map1 hz with hz|hz
  ·exact IX hL (fun _=>jl hc.1) z hz
  ·exact IX hR (fun _=>jl hc.2) z hz
 ·intro z hz;rw [List.eq_of_mem_replicate hz];decide
theorem Sl.wf {w:World} {a:OAd} {n cap:Nat} {zs:LIn} (h:Sl .i64 w a n cap zs):WfI zs:=h.2.2.2.1

theorem afk (a0 a1 a2 a3 a4 a5 a6 a7 n b0 b1 b2 b3 b4 b5 b6 b7 m:Int):Tryz.prog.built 173 [(0,.agg #[.int .i64 a0,.int .i64 a1,.int .i64 a2,.int .i64 a3,.int .i64 a4,.int .i64 a5,.int .i64 a6,.int .i64 a7,.int .i64 n]),(1,.agg #[.int .i64 b0,.int .i64 b1,.int .i64 b2,.int .i64 b3,.int .i64 b4,.int .i64 b5,.int .i64 b6,.int .i64 b7,.int .i64 m])]=some (#[.int .i64 a0,.int .i64 a1,.int .i64 a2,.int .i64 a3,.int .i64 a4,.int .i64 a5,.int .i64 a6,.int .i64 a7,.int .i64 n,.int .i64 b0,.int .i64 b1,.int .i64 b2,.int .i64 b3,.int .i64 b4,.int .i64 b5,.int .i64 b6,.int .i64 b7,.int .i64 m]:Array Value):=krf
theorem afl (l l':LIn) (h:l.length=9) (h':l'.length=9):Tryz.prog.built 173 [(0,.agg (ax l)),(1,.agg (ax l'))]=some (ax (l++l')):=by
 match l,h,l',h' with
 | [a0,a1,a2,a3,a4,a5,a6,a7,n],_,[b0,b1,b2,b3,b4,b5,b6,b7,m],_=>exact afk a0 a1 a2 a3 a4 a5 a6 a7 n b0 b1 b2 b3 b4 b5 b6 b7 m

theorem afm {ops:Array Oper} {rest:List Oper} {o:Oper} {a:Act} {w:World} {Q:Exit->Act->World->Prop} (hg:o.guard=none) (x y:Operand) (ho:o.op=.build 173 #[(0,x),(1,y)])
 (l l':LIn) (h9:l.length=9) (Bl:l'.length=9) (hx:a.eval x=.agg (ax l)) (hy:a.eval y=.agg (ax l'))
 (h:wpList Tryz.prog ops Q rest (a.put o.dst (.agg (ax (l++l')))) w):wpList Tryz.prog ops Q (o::rest) a w:=by
 have e:Tryz.prog.built 173 ((#[(0,x),(1,y)]:Array (Nat × Operand)).map fun (i,x)=>(i,a.eval x)).toList=some (ax (l++l')):=by
  simp only [List.map_toArray,List.map_cons,List.map_nil,hx,hy];exact afl l l' h9 Bl
 refine wpList_build hg 173 _ ho (by rw [e];rfl) ?_;rw [e];exact h

theorem UU (x:Rw) (r:Bool) (w:World) (hx:x.Good w) (hr:chk x.r=r) :
 Calls Tryz.prog 132 #[x.v] w fun e w'=>e=.returned (.tuple #[.agg (ax (di r x.r)),.bool r])/\Below w.heap.size w w':=by
 obtain ⟨la,ln,lc,L,ra,rn,rc,R,C⟩:=x;obtain ⟨hl,hrr,h0,h1⟩:=hx;have rf:=hdq hl.wf;have JR:=hdq hrr.wf;have HL:=hdq hl;have HRR:=hdq hrr;have HK:=hdq hr;obtain ⟨g1,hg1⟩:∃g,gZ L=g:=⟨_,rfl⟩;obtain ⟨g2,hg2⟩:∃g,gZ R=g:=⟨_,rfl⟩;have cO:=hdq hg1;have HG2:=hdq hg2;have bR:Hid ((aF g1 L).length=9):=qP _ _ (fun h=>jl (by rw [hg1,h]));have HS2:Hid ((aF g2 R).length=9):=qP _ _ (fun h=>jl (by rw [hg2,h]));have HW1:Hid (WfI (aF g1 L)):=IX hl.wf (fun h=>jl (by rw [hg1,h]));have HW2:Hid (WfI (aF g2 R)):=IX hrr.wf (fun h=>jl (by rw [hg2,h]));have HI1:Hid ((Tryz.prog.info? 171).map (·.size)=some (ax (aF g1 L)).size):=by show _=_;rw [AL,iN,bR.out]
 have HI2:Hid ((Tryz.prog.info? 171).map (·.size)=some (ax (aF g2 R)).size):=by show _=_;rw [AL,iN,HS2.out]
 have HZ1:Hid ((ax (List.replicate 9 0)).size=(ax (aF g1 L)).size):=by show _=_;rw [iN,iN,bR.out];rfl
 have HZ2:Hid ((ax (List.replicate 9 0)).size=(ax (aF g2 R)).size):=by show _=_;rw [iN,iN,HS2.out];rfl
 have wL:Hid ((Tryz.prog.info? 173).map (·.size)=some (ax (List.replicate 18 0)).size):=by show _=_;rw [Dy];rfl
 clear hl hrr hr hg1 hg2;simp only [Rw.v,Rw.l,Rw.rt,Rw.c];go_enter Tryz.func132,Tryz.ntmps132;go_wp2_with fail;refine (UO la ln lc L g1 _ ((HL.out.alloc _).alloc _) cO.out).mono ?_;rintro e w1 ⟨rfl,hb1⟩;have hsz1:=hb1.size;have HB1:=hdq hb1
 have bU:Hid (w.heap.size+2<=w1.heap.size):=by
  have h:((w.alloc (.cells #[.slice la ln lc,.slice ra rn rc,.int .u64 C] 74 (0,0))).alloc (.cells (ax (List.replicate 18 0)) 173 (0,0))).heap.size=w.heap.size+2:=by unfold World.alloc;simp
  show _<=_;rw [<-h];exact hsz1
 clear hb1 hsz1
 go_wp2_with (first
  | (refine gQ rfq 171 (.tmp 4) (.tmp 12) rfq w1.heap.size (ax (aF g1 L)) rfq rfq 171 (ax (List.replicate 9 0)) (han _ _) HI1.out HZ1.out (jK _) ?_
     intro w2 hw2 fZ hsz2;have Eo:=hdq hw2;have hb2:=ma HB1.out fZ;have lI:Hid (w2.heap.size=w1.heap.size+1):=by show _=_;rw [hsz2];unfold World.alloc;simp
     have HB2:=hdq hb2;have Bn:Hid (w2.heap[w.heap.size]?=some (.cells #[.slice la ln lc,.slice ra rn rc,.int .u64 C] 74 (0,0))):=(hb2.block _ (MO _ _ _)).trans (heap_alloc2_old w _ _);have Ep:Hid (w2.heap[w.heap.size+1]?=some (.cells (ax (List.replicate 18 0)) 173 (0,0))):=(hb2.block _ (aeI _ _ _)).trans (heap_alloc2_new w _ _);have hc1:w2.cell? ⟨w.heap.size,1,none⟩=some (.slice ra rn rc):=cell_of_row w2 _ 1 _ _ _ Bn.out;have HR2:Hid (Sl .i64 w2 ra rn rc R):=((HRR.out.alloc _).alloc _).below hb2 lrf
     clear hw2 fZ hsz2 hb2))
 refine (UO ra rn rc R g2 _ HR2.out HG2.out).mono ?_;rintro e w3 ⟨rfl,hb3⟩;have HB3:=hdq hb3;have arG:Hid (w1.heap.size+1<=w3.heap.size):=by show _<=_;rw [<-lI.out];exact hb3.size
 clear hb3 hc1
 have hcase:(g1=false/\r=false)\/(g1=true/\g2=false/\r=false)\/(g1=true/\g2=true/\Hid (decide (aF g1 L=aF g2 R)=true)/\r=false)\/(g1=true/\g2=true/\Hid (decide (aF g1 L=aF g2 R)=false)/\C=18446744073709551615/\r=false)\/(g1=true/\g2=true/\Hid (decide (aF g1 L=aF g2 R)=false)/\(C==18446744073709551615)=false/\r=true):=by
  have hk:=HK.out;change (gZ L&&gZ R&&decide (C<18446744073709551615)&&!decide (L=R))=r at hk;rw [cO.out,HG2.out] at hk
  have h8:g1=true->g2=true->(aF g1 L=aF g2 R↔L=R):=fun e1 e2=>by
   subst e1 e2;exact ⟨Ni (jl cO.out) (jl HG2.out),fun h=>by rw [h]⟩
  cases g1
  ·exact .inl ⟨rfl,by rw [<-hk];rfl⟩
  ·cases g2
   ·exact .inr (.inl ⟨rfl,rfl,by rw [<-hk];rfl⟩)
   ·have h8':=h8 rfl rfl;by_cases he:L=R
    ·exact .inr (.inr (.inl ⟨rfl,rfl,decide_eq_true (h8'.2 he),by rw [<-hk];simp [he]⟩))
    ·have hd:decide (aF true L=aF true R)=false:=decide_eq_false (fun h=>he (h8'.1 h));by_cases hc:C=18446744073709551615
     ·exact .inr (.inr (.inr (.inl ⟨rfl,rfl,hd,hc,by rw [<-hk,hc];rfl⟩)))
     ·exact .inr (.inr (.inr (.inr ⟨rfl,rfl,hd,by simpa using hc,by rw [<-hk];simp [he];omega⟩)))
 rcases hcase with ⟨rfl,rfl⟩|⟨rfl,rfl,rfl⟩|⟨rfl,rfl,HD,rfl⟩|⟨rfl,rfl,HD,rfl,rfl⟩|⟨rfl,rfl,HD,hcf,rfl⟩
 ·go_wp2_with (first
   | (refine gQ rfq 171 (.tmp 6) (.tmp 18) rfq w3.heap.size (ax (aF g2 R)) rfq rfq 171 (ax (List.replicate 9 0)) (han _ _) HI2.out HZ2.out (jK _) ?_
      intro w4 hw4 jP rq;have nz:=hdq hw4;have hb4:=ma HB3.out jP;have gm:=hdq hb4;have uP:Hid (w4.heap[w.heap.size]?=some (.cells #[.slice la ln lc,.slice ra rn rc,.int .u64 C] 74 (0,0))):=(hb4.block _ (by rw [lI.out];have:=bU.out;omega)).trans Bn.out;have nA:Hid (w4.heap[w.heap.size+1]?=some (.cells (ax (List.replicate 18 0)) 173 (0,0))):=(hb4.block _ (by rw [lI.out];have:=bU.out;omega)).trans Ep.out;have yV:Hid (w4.heap[w1.heap.size]?=some (.cells (ax (aF false L)) 171 (0,0))):=(hb4.block _ (by rw [lI.out];omega)).trans Eo.out;have hc2:w4.cell? ⟨w.heap.size,2,none⟩=some (.int .u64 C):=cell_of_row w4 _ 2 _ _ _ uP.out;have il:Hid (Below w.heap.size w w4):=Dr HB2.out gm.out
      clear hw4 jP rq hb4)
   | (refine wpList_store_row rfq 173 (.tmp 2) (.tmp 36) rfq (w.heap.size+1) (ax (List.replicate 18 0)) rfq rfq 173 (ax (List.replicate 18 0)) nA.out wL.out rfl (jK _) ?_))
  refine bodyPost_ret (mW rfl _ _ (w.heap.size+1) 173 (ax (List.replicate 18 0)) (0,0) _ rfq (setRow_heap _ _ _ _ _ _ nA.out) Tryz.underlying173 rfq wL.out) rfl ?_;exact ⟨rfl,below_setRow il.out (Nat.le_succ _) _⟩
 ·go_wp2_with (first
   | (refine gQ rfq 171 (.tmp 6) (.tmp 18) rfq w3.heap.size (ax (aF false R)) rfq rfq 171 (ax (List.replicate 9 0)) (han _ _) HI2.out HZ2.out (jK _) ?_
      intro w4 hw4 jP rq;have nz:=hdq hw4;have hb4:=ma HB3.out jP;have gm:=hdq hb4;have uP:Hid (w4.heap[w.heap.size]?=some (.cells #[.slice la ln lc,.slice ra rn rc,.int .u64 C] 74 (0,0))):=(hb4.block _ (by rw [lI.out];have:=bU.out;omega)).trans Bn.out;have nA:Hid (w4.heap[w.heap.size+1]?=some (.cells (ax (List.replicate 18 0)) 173 (0,0))):=(hb4.block _ (by rw [lI.out];have:=bU.out;omega)).trans Ep.out;have yV:Hid (w4.heap[w1.heap.size]?=some (.cells (ax (aF true L)) 171 (0,0))):=(hb4.block _ (by rw [lI.out];omega)).trans Eo.out;have hc2:w4.cell? ⟨w.heap.size,2,none⟩=some (.int .u64 C):=cell_of_row w4 _ 2 _ _ _ uP.out;have il:Hid (Below w.heap.size w w4):=Dr HB2.out gm.out
      clear hw4 jP rq hb4)
   | (refine wpList_store_row rfq 173 (.tmp 2) (.tmp 36) rfq (w.heap.size+1) (ax (List.replicate 18 0)) rfq rfq 173 (ax (List.replicate 18 0)) nA.out wL.out rfl (jK _) ?_))
  refine bodyPost_ret (mW rfl _ _ (w.heap.size+1) 173 (ax (List.replicate 18 0)) (0,0) _ rfq (setRow_heap _ _ _ _ _ _ nA.out) Tryz.underlying173 rfq wL.out) rfl ?_;exact ⟨rfl,below_setRow il.out (Nat.le_succ _) _⟩
 ·go_wp2_with (first
   | (refine gQ rfq 171 (.tmp 6) (.tmp 18) rfq w3.heap.size (ax (aF true R)) rfq rfq 171 (ax (List.replicate 9 0)) (han _ _) HI2.out HZ2.out (jK _) ?_
      intro w4 hw4 jP rq;have nz:=hdq hw4;have hb4:=ma HB3.out jP;have gm:=hdq hb4;have uP:Hid (w4.heap[w.heap.size]?=some (.cells #[.slice la ln lc,.slice ra rn rc,.int .u64 C] 74 (0,0))):=(hb4.block _ (by rw [lI.out];have:=bU.out;omega)).trans Bn.out;have nA:Hid (w4.heap[w.heap.size+1]?=some (.cells (ax (List.replicate 18 0)) 173 (0,0))):=(hb4.block _ (by rw [lI.out];have:=bU.out;omega)).trans Ep.out;have yV:Hid (w4.heap[w1.heap.size]?=some (.cells (ax (aF true L)) 171 (0,0))):=(hb4.block _ (by rw [lI.out];omega)).trans Eo.out;have hc2:w4.cell? ⟨w.heap.size,2,none⟩=some (.int .u64 C):=cell_of_row w4 _ 2 _ _ _ uP.out;have il:Hid (Below w.heap.size w w4):=Dr HB2.out gm.out
      clear hw4 jP rq hb4)
   | (refine eQ rfq 171 (.tmp 4) rfq w1.heap.size rfq 171 (ax (aF true L)) (0,0) _ yV.out Tryz.underlying171 rfq HI1.out ?_)
   | (refine eQ rfq 171 (.tmp 6) rfq w3.heap.size rfq 171 (ax (aF true R)) (0,0) _ nz.out Tryz.underlying171 rfq HI2.out ?_)
   | (refine Nh rfq (.tmp 27) (.tmp 28) rfq (aF true L) (aF true R) bR.out HS2.out HW1.out HW2.out _ HD.out rfq rfq ?_)
   | (refine wpList_store_row rfq 173 (.tmp 2) (.tmp 36) rfq (w.heap.size+1) (ax (List.replicate 18 0)) rfq rfq 173 (ax (List.replicate 18 0)) nA.out wL.out rfl (jK _) ?_))
  refine bodyPost_ret (mW rfl _ _ (w.heap.size+1) 173 (ax (List.replicate 18 0)) (0,0) _ rfq (setRow_heap _ _ _ _ _ _ nA.out) Tryz.underlying173 rfq wL.out) rfl ?_;exact ⟨rfl,below_setRow il.out (Nat.le_succ _) _⟩
 ·go_wp2_with (first
   | (refine gQ rfq 171 (.tmp 6) (.tmp 18) rfq w3.heap.size (ax (aF true R)) rfq rfq 171 (ax (List.replicate 9 0)) (han _ _) HI2.out HZ2.out (jK _) ?_
      intro w4 hw4 jP rq;have nz:=hdq hw4;have hb4:=ma HB3.out jP;have gm:=hdq hb4;have uP:Hid (w4.heap[w.heap.size]?=some (.cells #[.slice la ln lc,.slice ra rn rc,.int .u64 18446744073709551615] 74 (0,0))):=(hb4.block _ (by rw [lI.out];have:=bU.out;omega)).trans Bn.out;have nA:Hid (w4.heap[w.heap.size+1]?=some (.cells (ax (List.replicate 18 0)) 173 (0,0))):=(hb4.block _ (by rw [lI.out];have:=bU.out;omega)).trans Ep.out;have yV:Hid (w4.heap[w1.heap.size]?=some (.cells (ax (aF true L)) 171 (0,0))):=(hb4.block _ (by rw [lI.out];omega)).trans Eo.out;have hc2:w4.cell? ⟨w.heap.size,2,none⟩=some (.int .u64 18446744073709551615):=cell_of_row w4 _ 2 _ _ _ uP.out;have il:Hid (Below w.heap.size w w4):=Dr HB2.out gm.out
      clear hw4 jP rq hb4)
   | (refine eQ rfq 171 (.tmp 4) rfq w1.heap.size rfq 171 (ax (aF true L)) (0,0) _ yV.out Tryz.underlying171 rfq HI1.out ?_)
   | (refine eQ rfq 171 (.tmp 6) rfq w3.heap.size rfq 171 (ax (aF true R)) (0,0) _ nz.out Tryz.underlying171 rfq HI2.out ?_)
   | (refine Nh rfq (.tmp 27) (.tmp 28) rfq (aF true L) (aF true R) bR.out HS2.out HW1.out HW2.out _ HD.out rfq rfq ?_)
   | (refine wpList_store_row rfq 173 (.tmp 2) (.tmp 36) rfq (w.heap.size+1) (ax (List.replicate 18 0)) rfq rfq 173 (ax (List.replicate 18 0)) nA.out wL.out rfl (jK _) ?_))
  refine bodyPost_ret (mW rfl _ _ (w.heap.size+1) 173 (ax (List.replicate 18 0)) (0,0) _ rfq (setRow_heap _ _ _ _ _ _ nA.out) Tryz.underlying173 rfq wL.out) rfl ?_;exact ⟨rfl,below_setRow il.out (Nat.le_succ _) _⟩
 ·have YS:Hid ((Tryz.prog.info? 173).map (·.size)=some (ax (aF true L++aF true R)).size):=by show _=_;rw [Dy,iN,List.length_append,bR.out,HS2.out]
  have HZE:Hid ((ax (List.replicate 18 0)).size=(ax (aF true L++aF true R)).size):=by show _=_;rw [iN,iN,List.length_append,bR.out,HS2.out];rfl
  go_wp2_with (first
   | (refine gQ rfq 171 (.tmp 6) (.tmp 18) rfq w3.heap.size (ax (aF true R)) rfq rfq 171 (ax (List.replicate 9 0)) (han _ _) HI2.out HZ2.out (jK _) ?_
      intro w4 hw4 jP rq;have nz:=hdq hw4;have hb4:=ma HB3.out jP;have gm:=hdq hb4;have uP:Hid (w4.heap[w.heap.size]?=some (.cells #[.slice la ln lc,.slice ra rn rc,.int .u64 C] 74 (0,0))):=(hb4.block _ (by rw [lI.out];have:=bU.out;omega)).trans Bn.out;have nA:Hid (w4.heap[w.heap.size+1]?=some (.cells (ax (List.replicate 18 0)) 173 (0,0))):=(hb4.block _ (by rw [lI.out];have:=bU.out;omega)).trans Ep.out;have yV:Hid (w4.heap[w1.heap.size]?=some (.cells (ax (aF true L)) 171 (0,0))):=(hb4.block _ (by rw [lI.out];omega)).trans Eo.out;have hc2:w4.cell? ⟨w.heap.size,2,none⟩=some (.int .u64 C):=cell_of_row w4 _ 2 _ _ _ uP.out;have il:Hid (Below w.heap.size w w4):=Dr HB2.out gm.out
      clear hw4 jP rq hb4)
   | (refine eQ rfq 171 (.tmp 4) rfq w1.heap.size rfq 171 (ax (aF true L)) (0,0) _ yV.out Tryz.underlying171 rfq HI1.out ?_)
   | (refine eQ rfq 171 (.tmp 6) rfq w3.heap.size rfq 171 (ax (aF true R)) (0,0) _ nz.out Tryz.underlying171 rfq HI2.out ?_)
   | (refine Nh rfq (.tmp 27) (.tmp 28) rfq (aF true L) (aF true R) bR.out HS2.out HW1.out HW2.out _ HD.out rfq rfq ?_)
   | (refine afm rfq (.tmp 37) (.tmp 38) rfq (aF true L) (aF true R) bR.out HS2.out rfq rfq ?_)
   | (refine wpList_store_row rfq 173 (.tmp 2) (.tmp 39) rfq (w.heap.size+1) (ax (aF true L++aF true R)) rfq rfq 173 (ax (List.replicate 18 0)) nA.out YS.out HZE.out (jK _) ?_))
  refine bodyPost_ret (mW rfl _ _ (w.heap.size+1) 173 (ax (aF true L++aF true R)) (0,0) _ rfq (setRow_heap _ _ _ _ _ _ nA.out) Tryz.underlying173 rfq YS.out) rfl ?_;exact ⟨rfl,below_setRow il.out (Nat.le_succ _) _⟩

end
section
open Go.RowKit

theorem afN (x:Rw) (r:Bool) (w:World) (hx:x.Good w) (hr:chk x.r=r) :
 Calls Tryz.prog 130 #[x.v] w fun e w'=>e=.returned (.bool r)/\Below w.heap.size w w':=by
 have HX:=hdq hx;have HR:=hdq hr;have hsz:(di r x.r).length=18:=Nj (fun h=>by rw [hr,h]);have HI:Hid ((Tryz.prog.info? 173).map (·.size)=some (ax (di r x.r)).size):=by show _=_;rw [Dy,iN,hsz]
 have HZ:Hid ((ax (List.replicate 18 0)).size=(ax (di r x.r)).size):=by show _=_;rw [iN,iN,hsz];rfl
 have HB:∀o,Hid (Below w.heap.size w (w.alloc o)):=fun o=>(Below.refl _ w).alloc lrf o;clear hx hr hsz;simp only [Rw.v] at *;go_enter Tryz.func130,Tryz.ntmps130;go_wp2_with fail;refine (UU x r _ (HX.out.alloc _) HR.out).mono ?_;rintro e w1 ⟨rfl,hb1⟩;have HB1:Hid (Below w.heap.size w w1):=(HB _).out.trans (hb1.mono smp);clear hb1
 go_wp2_with (refine gQ rfq 173 (.tmp 3) (.tmp 8) rfq w1.heap.size (ax (di r x.r)) rfq rfq 173 (ax (List.replicate 18 0)) (han _ _) HI.out HZ.out (jK _) ?_
              intro w2 hw2 fZ hsz2;have HB2:Hid (Below w.heap.size w w2):=(HB1.out.alloc HB1.out.size _).grown fZ (by have:=HB1.out.size;simp;omega) (fun k hk=>by cases hk;exact HB1.out.size)
              clear hw2 fZ hsz2)
 go_ret;exact ⟨rfl,HB2.out⟩

end
section
open Go.RowKit

theorem afO (a:OAd) (n cap:Nat) (l:LIn) (r:Bool) (w:World) (hs:Sl .i64 w a n cap l) (hr:decide (l=[95])=r) :
 Calls Tryz.prog 163 #[.slice a n cap] w fun e w'=>e=.returned (.bool r)/\w=w':=by
 have hnc:=hs.2.1;have hcm:=hs.2.2.1;unfold maxLen at hcm;have HS:=hdq hs;have HL:=hdq hs.1;have HR:=hdq hr;clear hs hr;by_cases h1:n=1
 ·subst h1;obtain ⟨b1,o1,rfl,hb1,hc1⟩:=HS.out.at omg;have hx1:=hc1 0 omg
  obtain ⟨x,hx⟩:∃x,l=[x]:=by
   match l,HL.out with
   | [x],_=>exact ⟨x,rfl⟩
  subst hx;have hx2:w.cell? ⟨b1,o1,none⟩=some (.int .i64 x):=hx1
  have PO:(x==95)=r:=by
   rw [<-HR.out];by_cases h:x=95
   ·subst h;rfl
   ·simp [h]
  clear hc1 hb1 hx1;go_enter Tryz.func163,Tryz.ntmps163;go_wp2;go_ret;exact ⟨by rw [<-PO];rfl,rfl⟩
 ·have e1:((n:Int)==1)=false:=by simp;omega
  obtain rfl:r=false:=by
   rw [<-HR.out];have:l≠[95]:=fun h=>h1 (by rw [<-HL.out,h];rfl);simp [this]
  go_enter Tryz.func163,Tryz.ntmps163;go_wp2;go_ret;exact ⟨rfl,rfl⟩

theorem Vj (a:OAd) (n cap:Nat) (l:LIn) (r:Bool) (w:World) (hs:Sl .i64 w a n cap l) (hr:Spec.plain l=r) :
 Calls Tryz.prog 131 #[.slice a n cap] w fun e w'=>e=.returned (.bool r)/\w=w':=by
 have hnc:=hs.2.1;have hcm:=hs.2.2.1;unfold maxLen at hcm;have HS:=hdq hs;have HL:=hdq hs.1;rw [Vh] at hr;have HR:=hdq hr;clear hs hr;go_enter Tryz.func131,Tryz.ntmps131;go_wp2;go_loopw [7] (fun ix wr=>∃i:Nat,i<=n/\ix=.int .i64 (i:Int)/\Hid (∀z∈l.take i,qQ z=true)/\wr=w) (fun ix _=>n-(intOf ix).toNat)
 case atStart=>exact ⟨0,Nat.zero_le _,rfl,by first|trivial|(intro z hz;simp at hz),rfl⟩
 case round =>
  obtain ⟨i,hi,rfl,HT,rfl⟩:=hrel;by_cases hlt:i<n
  ·have bB:(i:Int)<(n:Int):=omg;obtain ⟨b1,o1,rfl,hb1,hc1⟩:=HS.out.at omg;obtain ⟨x,hx⟩:∃x,x=l.getD i 0:=⟨_,rfl⟩;have hx1:=hc1 i hlt;rw [<-hx] at hx1;have hxm:x∈l:=by rw [hx,gdq,geg (by rw [HL.out];exact hlt),Option.getD_some];exact List.getElem_mem _
   have dS:=hdq hxm;have HX:=hdq hx
   have hbad:qQ x=false->r=false:=fun h=>by
    rw [<-HR.out,Bool.and_eq_false_iff];left;rw [List.all_eq_false];exact ⟨x,dS.out,by rw [h];decide⟩
   have HBAD:=hdq hbad;clear hc1 hx hxm hb1 hbad;by_cases h10:x=10
   ·have e10:(x==10)=true:=by simpa using h10
    obtain rfl:=HBAD.out (by rw [h10];decide);clear h10;go_wp2;go_ret;exact ⟨rfl,rfl⟩
   ·have e10:(x==10)=false:=by simpa using h10
    by_cases h32:x=32
    ·have e32:(x==32)=true:=by simpa using h32
     obtain rfl:=HBAD.out (by rw [h32];decide);clear h10 h32;go_wp2;go_ret;exact ⟨rfl,rfl⟩
    ·have e32:(x==32)=false:=by simpa using h32
     by_cases h9:x=9
     ·have e9:(x==9)=true:=by simpa using h9
      obtain rfl:=HBAD.out (by rw [h9];decide);clear h9 h10 h32;go_wp2;go_ret;exact ⟨rfl,rfl⟩
     ·have e9:(x==9)=false:=by simpa using h9
      have HP:Hid (qQ x=true):=by show _=_;simp [qQ,h9,h10,h32]
      clear h9 h10 h32;go_wp2;go_roundw
      case rel =>
       refine ⟨i+1,by omega,by go_num,?_,by first|rfl|trivial⟩;intro z hz;rw [tsa (by rw [HL.out];exact hlt)] at hz;rcases map1 hz with hz|hz
       ·exact HT.out z hz
       ·rw [msg hz];have h:=HX.out;rw [gdq,geg (by rw [HL.out];exact hlt),Option.getD_some] at h;rw [<-h];exact HP.out
      case measure=>simp [intOf];omega
  ·obtain rfl:i=n:=omg
   have hall:l.all qQ=true:=by
    rw [List.all_eq_true];intro z hz;exact HT.out z (by rw [tol (by rw [HL.out];exact Nat.le_refl _)];exact hz)
   obtain ⟨q,hq⟩:∃q,decide (l=[95])=q:=⟨_,rfl⟩;obtain rfl:(!q)=r:=by rw [<-HR.out,hall,hq];rfl
   have HQ:=hdq hq;clear hall hq;go_wp2_with fail;refine (afO a i cap l q wr HS.out HQ.out).mono ?_;rintro e w1 ⟨rfl,rfl⟩;go_wp2;go_ret;exact ⟨rfl,rfl⟩

theorem afP (x:Rw) (r:Bool) (w:World) (hx:x.Good w) (hr:Spec.fit x.r=r) :
 Calls Tryz.prog 88 #[x.v] w fun e w'=>e=.returned (.bool r)/\Below w.heap.size w w':=by
 obtain ⟨la,ln,lc,L,ra,rn,rc,R,C⟩:=x;have HX:=hdq hx;obtain ⟨ck,hck⟩:∃b,chk ⟨L,R,C⟩=b:=⟨_,rfl⟩;obtain ⟨pl,hpl⟩:∃b,Spec.plain L=b:=⟨_,rfl⟩;obtain ⟨pr,hpr⟩:∃b,Spec.plain R=b:=⟨_,rfl⟩
 have hrr:(ck&&pl&&pr)=r:=by
  rw [<-hr,<-hck,<-hpl,<-hpr];rfl
 have aC:=hdq hck;have fH:=hdq hpl;have wU:=hdq hpr;have HRR:=hdq hrr;have HB:∀o,Hid (Below w.heap.size w (w.alloc o)):=fun o=>(Below.refl _ w).alloc lrf o;clear hx hck hpl hpr hrr hr;simp only [Rw.v,Rw.l,Rw.rt,Rw.c];go_enter Tryz.func88,Tryz.ntmps88;go_wp2_with fail;refine (afN ⟨la,ln,lc,L,ra,rn,rc,R,C⟩ ck _ (HX.out.alloc _) aC.out).mono ?_;rintro e w1 ⟨rfl,hb1⟩
 have hf1:w1.heap[w.heap.size]?=some (.cells #[.slice la ln lc,.slice ra rn rc,.int .u64 C] 74 (0,0)):=by
  rw [hb1.block _ (by unfold World.alloc;simp)];unfold World.alloc;simp
 have hc0:w1.cell? ⟨w.heap.size,0,none⟩=some (.slice la ln lc):=by simp [World.cell?,hf1]
 have hc1:w1.cell? ⟨w.heap.size,1,none⟩=some (.slice ra rn rc):=by simp [World.cell?,hf1]
 have HB1:Hid (Below w.heap.size w w1):=(HB _).out.trans (hb1.mono smp);have cO:Hid (Rw.Good w1 ⟨la,ln,lc,L,ra,rn,rc,R,C⟩):=(HX.out.alloc _).below hb1 lrf;clear hb1 hf1;cases ck
 ·go_wp2;go_ret;exact ⟨by rw [<-HRR.out];rfl,HB1.out⟩
 ·go_wp2_with fail;refine (Vj la ln lc L pl w1 cO.out.1 fH.out).mono ?_;rintro e w2 ⟨rfl,rfl⟩;cases pl
  ·go_wp2;go_ret;exact ⟨by rw [<-HRR.out];rfl,HB1.out⟩
  ·go_wp2_with fail;refine (Vj ra rn rc R pr w1 cO.out.2.1 wU.out).mono ?_;rintro e w2 ⟨rfl,rfl⟩;go_wp2;go_ret;exact ⟨by rw [<-HRR.out];simp,HB1.out⟩

end
end Go.Proofs.YtkiamgcpcneggaaGreat
