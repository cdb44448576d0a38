import Derived.Test.YtkiamgcpcneggaaGreatPackAM
import Derived.Test.YtkiamgcpcneggaaGreatPackT
import Derived.Test.YtkiamgcpcneggaaGreatPackC
import Derived.Test.YtkiamgcpcneggaaGreatPackH
set_option linter.all false
set_option maxRecDepth 100000
set_option maxHeartbeats 12800000
namespace Go.Proofs.YtkiamgcpcneggaaGreat
section
open Go.RowKit Tri

theorem VA (a:OAd) (n cap:Nat) (xs:List Sw) (f s:Int) (r:Int × Bool) (w:World) (ha:Ss w a n cap xs) (_hf:(Lit.int .i64 f).wf=true) (hr:Tri.step (sts xs) f s=r) :
 Calls Tryz.prog 104 #[.slice a n cap,.int .i64 f,.int .i64 s] w fun e w'=>e=.returned (.tuple #[.int .i64 r.1,.bool r.2])/\Below w.heap.size w w':=by
 have hnc:=ha.2.1;have hcm:=ha.2.2.1;unfold maxLen at hcm;have HA:=hdq ha;have HR:=hdq hr;have HL:Hid ((sts xs).length=n):=by show _=_;rw [fq,ha.1]
 clear ha hr;by_cases h0:f<0
 ·have h0d:decide (f<0)=true:=decide_eq_true h0;have hrr:r=(0,false):=by rw [<-HR.out];exact UI (.inl h0)
  subst hrr;go_enter Tryz.func104,Tryz.ntmps104;go_wp2;go_ret2;exact ⟨rfl,Below.refl _ _⟩
 have h0d:decide (f<0)=false:=decide_eq_false h0;by_cases h1:(n:Int)<=f
 ·have h1d:decide (f>=(n:Int))=true:=decide_eq_true h1;have hrr:r=(0,false):=by rw [<-HR.out];exact UI (.inr (by rw [HL.out];exact h1))
  subst hrr;clear h0;go_enter Tryz.func104,Tryz.ntmps104;go_wp2;go_ret2;exact ⟨rfl,Below.refl _ _⟩
 have h1d:decide (f>=(n:Int))=false:=decide_eq_false h1;obtain ⟨i,rfl⟩:∃i:Nat,f=(i:Int):=⟨f.toNat,by omega⟩;have hi:i<n:=omg;have hii:(i:Int)<(n:Int):=omg;obtain ⟨b1,o1,fi,sa,sn,sc,arcs,rfl,_,hx1,hx2,bS,hz1⟩:=HA.out.one i hi
 have HST:Hid ((match arcs.find? fun a=>decide (a.1=s) with
  | some a=>(a.2,true)
  | none=>((0:Int),false))=r):=by
  have h:=HR.out;rw [aeN (by rw [HL.out];exact hi),ic,hz1] at h;exact h
 have jc:=hdq bS;have fG:=hdq bS.1;have hsc:=bS.2.1;have oC:=bS.2.2.1;unfold maxLen at oC;clear h0 h1 bS hz1 HR;go_enter Tryz.func104,Tryz.ntmps104;go_wp2;go_loopw [24] (fun ix wr=>∃j:Nat,j<=sn/\ix=.int .i64 (j:Int)/\Hid (∀x∈arcs.take j,x.1≠s)/\Hid (Below w.heap.size w wr)) (fun ix _=>sn-(intOf ix).toNat)
 case atStart=>exact ⟨0,Nat.zero_le _,rfl,(fun x hx=>by simp at hx),Below.refl _ _⟩
 case round =>
  obtain ⟨j,hj,rfl,HT,HW⟩:=hrel;by_cases hlt:j<sn
  ·obtain ⟨b2,o2,s2,t2,rfl,hb2,hy1,hy2,_,_,hz2⟩:=(jc.out.below HW.out lrf).one j hlt;have HZ2:=hdq hz2;have bB:(j:Int)<(sn:Int):=omg;have mF:∀o,Hid (Below w.heap.size w (wr.alloc o)):=fun o=>HW.out.alloc HW.out.size o;clear hz2 hx1 hx2 hb2;by_cases hs:s2=s
   ·subst hs;have hb:(s2==s2)=true:=smp
    have hrr:r=(t2,true):=by
     rw [<-HST.out,aeO (by rw [fG.out];exact hlt) HZ2.out HT.out]
    subst hrr;go_wp2;go_ret2;exact ⟨rfl,(mF _).out⟩
   ·have hb:(s2==s)=false:=by simpa using hs
    have HN:=hdq hs;clear hs;go_wp2;go_roundw
    case rel =>
     refine ⟨j+1,by omega,by go_num,?_,(mF _).out⟩;intro x hx;rw [sZ (by rw [fG.out];exact hlt) HZ2.out] at hx;rcases map1 hx with hx|hx
     ·exact HT.out x hx
     ·rw [msg hx];exact HN.out
    case measure=>simp [intOf];omega
  ·have hrr:r=(0,false):=by
    rw [<-HST.out,aeP];intro x hx;exact HT.out x (by rw [tol (by rw [fG.out];omega)];exact hx)
   subst hrr;clear hx1 hx2;go_wp2;go_ret2;exact ⟨rfl,HW.out⟩

end
section
open Go.RowKit Go.Maps Tri

def kr (w:World) (B mb mp:Nat) (U:LLI):Prop :=
 ∃M sa N c outs D,Mk w B mb mp M sa N c outs D/\M<=N/\sts outs=bare U/\DI U (kC D)/\U.length=N
def more (U:LLI) (q:LIn):LLI:=if q∈U then U else U++[q]
theorem Ji {w:World} {mp M:Nat} {D:DataW Unit} {f s:Int} (hm:w.ownsMap Tryz.prog 151 (plainElem Tryz.prog 3) mp M D) (hf:(Lit.int .i64 f).wf=true) (hs:(Lit.int .i64 s).wf=true) :
 ∃c:Int,(Instr.lookup 146 (.map (some mp)) (yE f s) true).run Tryz.prog w=.ok (.tuple #[.int .i64 c,.bool (has D (jm f s))]) w/\D.atKey (jm f s) (.lit (.int .i64 0))=.lit (.int .i64 c):=by
 obtain ⟨v,ps,hrun,hv⟩:=hm.look_ok DJ Tryz.underlying146 (ahL w) (plainElem_int Tryz.underlying3 (by decide)) (AQ f s hf hs);obtain ⟨c,rfl,hc,_⟩:=plainElem_int_inv Tryz.underlying3 hv;simp only [Prod.mk.injEq] at hc;exact ⟨c,hrun,hc.1⟩
theorem ahU {w:World} {mp M:Nat} {D:DataW Unit} {f s k:Int} (hm:w.ownsMap Tryz.prog 151 (plainElem Tryz.prog 3) mp M D) (hf:(Lit.int .i64 f).wf=true) (hs:(Lit.int .i64 s).wf=true) (hk:kC D f s=some k) :
 (Instr.lookup 146 (.map (some mp)) (yE f s) true).run Tryz.prog w=.ok (.tuple #[.int .i64 k,.bool true]) w:=by
 obtain ⟨c,hrun,hat⟩:=Ji hm hf hs;unfold kC at hk;split at hk
 ·rename_i h;rw [hat] at hk;cases hk;rw [h.2.2] at hrun;exact hrun
 ·cases hk
theorem Jj:(151:TypeId)≠95:=by decide
theorem NH:(151:TypeId)≠58:=by decide
theorem ahV:(148:TypeId)≠3:=by decide
theorem VN:(58:TypeId)≠3:=by decide
theorem Mk.pushed {w w':World} {B mb mp M N c c' k:Nat} {sa a':OAd} {outs:List Sw} {D:DataW Unit} {cs:Array Value} (h:Mk w B mb mp M sa N c outs D) (hrow:w'.ownsRow B 58 2 (.slice a' (N+1) c') (N+1) (bT (outs++[Sw.no]))) (hg:w.grownBy w' (Value.slice sa N c).ownBlock)
 (ho:w.heap[k]?=some (.cells cs 151 (0,0))) :
 Mk (w'.setCell ⟨mb,0,none⟩ (.slice a' (N+1) c')) B mb mp M a' (N+1) c' (outs++[Sw.no]) D/\w'.cell? ⟨mb,0,none⟩=some (.slice sa N c)/\w'.frozen? ⟨mb,0,none⟩=false/\w'.heap[mb]?=some (.cells #[.slice sa N c,.map (some mp)] 148 (0,0))/\dG w w'/\w'.heap[k]?=some (.cells cs 151 (0,0)):=by
 have kL:=(hg.block _ h.lt.1 (mh h.row h.box (fun cur=>fV DK))).trans h.box;refine ⟨h.state hrow hg,by rw [af kL];rfl,frozen_of_row w' mb 0 _ _ kL,kL,dG.row hg h.row (by decide),?_⟩;exact (hg.block _ (hltq ho) (mh h.row ho (fun cur=>fV NH))).trans ho
theorem DL (U:LLI) (p:LIn):(aP U p).length<=U.length:=by
 unfold aP;exact Nat.le_trans (List.length_filterMap_le _ _) smp
theorem ahW {outs:List Sw} {U:LLI} {f:Nat} {x:Sw} (hst:sts outs=bare U) (hlen:outs.length=U.length) (hf:f<U.length) (hx:(outs++[Sw.no]).getD f Sw.no=x):x.fin=false/\x.arcs=aP U (U.getD f []):=by
 have h1:(outs++[Sw.no]).getD f Sw.no=outs.getD f Sw.no:=by
  simp only [gdq];rw [List.getElem?_append_left omg]
 have h2:=ic outs f;rw [hst,ahx hf,<-h1,hx] at h2;have h3:x.st=⟨x.fin,x.arcs⟩:=rfl;rw [h3] at h2;simp only [St.mk.injEq] at h2;exact ⟨h2.1.symm,h2.2.symm⟩
theorem DN (xs:List Sw) (f:Nat) (z:Sw):sts (xs.set f z)=(sts xs).set f z.st:=by simp [sts,List.map_set]
theorem VO {w:World} {B mb mp M N c f xn xc anj c10:Nat} {sa xa ve:OAd} {xf:Bool} {outs:List Sw} {D:DataW Unit} {U:LLI} {s:Int} {q:LIn} {dM:List (Int × Int)}
 (hm:Mk w B mb mp (M+1) sa (N+1) c ((outs++[Sw.no]).set f ⟨xf,ve,anj,c10,dM++[(s,(N:Int))]⟩) (D.put (jm (f:Int) s) (.lit (.int .i64 (N:Int))))) (Kh:M<=N) (hst:sts outs=bare U) (hmo:DI U (kC D)) (hlen:U.length=N) (hf:f<U.length)
 (hfw:(Lit.int .i64 (f:Int)).wf=true) (hs:(Lit.int .i64 s).wf=true) (hq:q=U.getD f []++[s]) (hn:U.Nodup) (hl:∀u∈U,u.length<=q.length) (hin:q∉U) (hD:IsMap D) (_hx:(outs++[Sw.no]).getD f Sw.no=⟨xf,xa,xn,xc,dM⟩)
 (hxa:(⟨xf,xa,xn,xc,dM⟩:Sw).fin=false/\(⟨xf,xa,xn,xc,dM⟩:Sw).arcs=aP U (U.getD f [])) :
 kr w B mb mp (more U q)/\N<(more U q).length/\(more U q).getD N []=q:=by
 have EF:more U q=U++[q]:=by unfold more;rw [if_neg hin]
 have hxf:xf=false:=hxa.1;have hxs:dM=aP U (U.getD f []):=hxa.2;subst hlen;rw [EF];refine ⟨⟨M+1,sa,U.length+1,c,_,_,hm,by omega,?_,?_,by simp⟩,by simp,Jd U q⟩
 ·rw [DN,MU,hst,ahA hn hf hq hl];have hl':f<(bare U).length:=by rw [Jf];exact hf
  rw [List.set_append_left _ _ hl',hxf,hxs];rfl
 ·exact ahC hmo hn hf hq hl hin (ahS hD hfw hs _) (fun f' s' hne=>ahT hfw hs hne _)
theorem ahX {w:World} {mp M:Nat} {D:DataW Unit} {f s:Int} (hm:w.ownsMap Tryz.prog 151 (plainElem Tryz.prog 3) mp M D) (hf:(Lit.int .i64 f).wf=true) (hs:(Lit.int .i64 s).wf=true) (hk:kC D f s=none) :
 ∃c:Int,∀n,(Instr.lookup 146 (.map (some mp)) (yE f s) true).run Tryz.prog (w.drewN n)=.ok (.tuple #[.int .i64 c,.bool false]) (w.drewN n):=by
 have hh:has D (jm f s)=false:=by
  obtain ⟨c,_,hat⟩:=Ji hm hf hs
  cases hh:has D (jm f s) with
  | true=>rw [VL hf hs hh hat] at hk;cases hk
  | false=>rfl
 obtain ⟨c,_,hat⟩:=Ji hm hf hs;refine ⟨c,fun n=>?_⟩;obtain ⟨c',hrun,hat'⟩:=Ji (w:=w.drewN n) hm hf hs;have:c'=c:=by rw [hat] at hat';simpa using hat'.symm
 rw [this,hh] at hrun;exact hrun
theorem ahY {w:World} {ops:Array Oper} {o:Oper} {act:Act} {K:Act->World->Prop} {Q:Exit->Act->World->Prop} {E:Prop} (hw:Region.wanted o (yielded ops act.tmps)=true) (m x v:Operand) (hop:o.op=.mapUpdate 146 m x v)
 (mp M:Nat) (D:DataW Unit) (hm:act.eval m=.map (some mp)) (hown:w.ownsMap Tryz.prog 151 (plainElem Tryz.prog 3) mp M D) (hM:M<maxLen) (f s t:Int) (hx:act.eval x=yE f s) (hv:act.eval v=.int .i64 t)
 (hf:(Lit.int .i64 f).wf=true) (hs:(Lit.int .i64 s).wf=true) (ht:(Lit.int .i64 t).wf=true)
 (h:∀w',w'.ownsMap Tryz.prog 151 (plainElem Tryz.prog 3) mp (M+1) (D.put (jm f s) (.lit (.int .i64 t)))->w.grownBy w' (some mp)->K (act.put o.dst undef) w') :
 if Region.wanted o (yielded ops act.tmps)=true then o.wp Tryz.prog act w K Q else E:=by
 rw [if_pos hw];obtain ⟨w',hrun,r1,r2⟩:=hown.update DJ Tryz.underlying146 hM (AQ f s hf hs) (plainElem_int Tryz.underlying3 ht);unfold Oper.wp;simp [execOp,hop,hm,hx,hv,hrun,Result.andThen];exact h w' r1 r2
theorem Jk {w:World} {ops:Array Oper} {o:Oper} {act:Act} {K:Act->World->Prop} {Q:Exit->Act->World->Prop} {E:Prop} (hw:Region.wanted o (yielded ops act.tmps)=true) (s x:Operand)
 (ho:o.op=.call { callee:=.builtin .append,args:=#[s,x],argTypes:=#[56,56] }) (base:Nat) (v:Value) (n:Nat) (l:List (Int × Int)) (hs:act.eval s=v)
 (hown:w.ownsRow base 95 2 v n (aL l)) (g:Nat) (y:Int × Int) (hx:act.eval x=.slice (some ⟨g,0,none⟩) 1 1) (h0:w.cell? ⟨g,0,none⟩=some (.int .i64 y.1)) (h1:w.cell? ⟨g,1,none⟩=some (.int .i64 y.2))
 (N:Nat) (hN:n+1=N) (h63:N*16<=140737488355328) (hbase:base<=w.heap.size)
 (h:∀a' c' w',w'.ownsRow base 95 2 (.slice a' N c') N (aL (l++[y]))->w.grownBy w' v.ownBlock->((Value.slice a' N c').ownBlock=v.ownBlock\/(Value.slice a' N c').ownBlock=some w.heap.size)->K (act.put o.dst (.slice a' N c')) w') :
 if Region.wanted o (yielded ops act.tmps)=true then o.wp Tryz.prog act w K Q else E:=by
 subst hN;rw [if_pos hw];obtain ⟨i0,hi,hz0,hz1,hz2⟩:=info_parts IQ;obtain ⟨v',w',hr,r1,r2,_,r4⟩:=run_append_own_at (P:=Tryz.prog) w base 56 o.type 95 i0 _ 2 16 Tryz.underlying56 hi hz0 hz1 hz2 rfl omg v n (aL l) hown ⟨g,0,none⟩ 1 1 (aL [y]) rfl (IU h0 h1) (Nb [y]) (by unfold maxLen;omega) omg hbase;obtain ⟨a',c',rfl,_⟩:=qI r1;unfold Oper.wp execOp;simp only [ho,resolve,invoke,builtin,Sem.run_bind,Sem.run_pure,Result.andThen_ok,List.map_toArray,List.map_cons,List.map_nil,hs,hx,hr];exact h a' c' w' (by rw [MS];exact r1) r2 r4

theorem ahZ (B mb mp f:Nat) (U:LLI) (s:Int) (q:LIn) (w:World) (hm:kr w B mb mp U) (hB:B<=w.heap.size) (hN:U.length<=6001) (hf:f<U.length) (hs:(Lit.int .i64 s).wf=true) (hq:q=U.getD f []++[s]) (hn:U.Nodup) (hl:∀u∈U,u.length<=q.length) :
 Calls Tryz.prog 111 #[.pointer (some ⟨mb,0,none⟩),.agg #[.int .i64 (f:Int),.int .i64 s]] w fun e w'=>∃k:Nat,e=.returned (.int .i64 (k:Int))/\kr w' B mb mp (more U q)/\k<(more U q).length/\(more U q).getD k []=q/\Below B w w'/\dG w w':=by
 obtain ⟨M,sa,N,c,outs,D,hmk,Kh,hst,hmo,hlen⟩:=hm;have hfw:(Lit.int .i64 (f:Int)).wf=true:=by apply WalkArith.wf_i64;omega
 have HM:=hdq hmk;have Qb:=hdq hmo;have HST:=hdq hst;have HLEN:=hdq hlen;have EG:=hdq hfw;have rA:=hdq hs;have HQ:=hdq hq;have Zv:=hdq hn;have Zw:=hdq hl;have BI:=hdq hf;have hf':f<N:=omg;have hN':N<=6001:=omg;have hB0:∀o,Hid (Below B w (w.alloc o)):=fun o=>(Below.refl B w).alloc hB o
 have anl:∀o,(w.alloc o).cell? ⟨mb,1,none⟩=some (.map (some mp)):=fun o=>by
  rw [af ((hmk.alloc o).box)];rfl
 by_cases hin:q∈U
 ·obtain ⟨k,hk,hkq⟩:=ahr hin;have oG:kC D (f:Int) s=some (k:Int):=(hmo _ _ _).2 ⟨f,k,hf,hk,rfl,rfl,by rw [hkq,hq]⟩;have hlk:∀o n,(Instr.lookup 146 (.map (some mp)) (.agg #[.int .i64 (f:Int),.int .i64 s]) true).run Tryz.prog ((w.alloc o).drewN n)=.ok (.tuple #[.int .i64 (k:Int),.bool true]) ((w.alloc o).drewN n):=fun o n=>ahU ((hmk.alloc o).drewN n).map hfw hs oG;have iW:=hdq hin;have HKQ:=hdq hkq;have HK:=hdq hk;clear hmk hmo hst hlen hfw hs hq hn hl hin hkq oG hf hk hN hB;go_enter Tryz.func111,Tryz.ntmps111;go_wp2;go_quiet (fail);go_wp2;go_ret;have EF:more U q=U:=by unfold more;rw [if_pos iW.out]
  refine ⟨k,rfl,?_,by rw [EF];exact HK.out,by rw [EF];exact HKQ.out,below_drewN (hB0 _).out _,?_⟩
  ·rw [EF];exact ⟨M,sa,N,c,outs,D,(HM.out.alloc _).drewN _,Kh,HST.out,Qb.out,HLEN.out⟩
  ·exact (dG.none (World.grownBy_alloc w _ none)).trans (fun _ _ _ _=>rfl)
 ·
  have oG:kC D (f:Int) s=none:=by
   cases hc:kC D (f:Int) s with
   | none=>rfl
   | some t =>
     obtain ⟨i,k,hi,hk,h1,h2,h3⟩:=(hmo _ _ _).1 hc;have:i=f:=omg;subst this;exact absurd (by rw [hq,<-h3];exact Tri.getD_mem hk) hin
  have hlk:∀o,∃c0:Int,∀n,(Instr.lookup 146 (.map (some mp)) (.agg #[.int .i64 (f:Int),.int .i64 s]) true).run Tryz.prog ((w.alloc o).drewN n)=.ok (.tuple #[.int .i64 c0,.bool false]) ((w.alloc o).drewN n):=fun o=>ahX ((hmk.alloc o)).map hfw hs oG;obtain ⟨c0,hlk⟩:=hlk (.cells #[.int .i64 (f:Int),.int .i64 s] 151 (0,0))
  have Zx:∀o n,((w.alloc o).drewN n).cell? ⟨mb,0,none⟩=some (.slice sa N c):=fun o n=>by
   rw [af (((hmk.alloc o).drewN n).box)];rfl
  have iW:=hdq hin;have je:Hid ((Lit.int .i64 (N:Int)).wf=true):=by apply WalkArith.wf_i64;omega
  have bM:Hid (B<=w.heap.size):=hB;have hmx:Tryz.prog.follows .mixedOrders=true:=krf;clear hmk hmo hst hlen hfw hs hq hn hl hin oG hf hN hB;go_enter Tryz.func111,Tryz.ntmps111;go_wp2;go_quiet (fail);go_wp2_with fail;generalize oH:World.drewN (w.alloc _) _=w5;have lK:Hid (Mk w5.drew B mb mp M sa N c outs D):=by rw [<-oH];exact ((HM.out.alloc _).drewN _).drew
  have eU:Hid (Below B w w5.drew):=by rw [<-oH];exact aG (below_drewN (hB0 _).out _) ⟨1,rfl⟩
  have Qc:Hid (dG w w5.drew):=by rw [<-oH];exact (dG.none (World.grownBy_alloc w _ none)).trans (fun _ _ _ _=>rfl)
  have mH:Hid (w5.drew.cell? ⟨w.heap.size,0,none⟩=some (.int .i64 (f:Int))/\w5.drew.cell? ⟨w.heap.size,1,none⟩=some (.int .i64 s)):=by rw [<-oH];exact pU w _ _ _ _
  have jR:Hid (w5.drew.heap[w.heap.size]?=some (.cells #[.int .i64 (f:Int),.int .i64 s] 151 (0,0))):=by rw [<-oH];exact han w _
  have Qd:Hid (w5.drew.cell? ⟨mb,1,none⟩=some (.map (some mp))/\w5.drew.cell? ⟨w.heap.size,0,none⟩=some (.int .i64 (f:Int))/\w5.drew.cell? ⟨w.heap.size,1,none⟩=some (.int .i64 s)):=⟨by rw [af lK.out.box];rfl,mH.out⟩;clear oH hlk Zx anl;refine wp_region_held_drew (S:=(fun W=>W.cell? ⟨mb,1,none⟩=some (.map (some mp))/\W.cell? ⟨w.heap.size,0,none⟩=some (.int .i64 (f:Int))/\W.cell? ⟨w.heap.size,1,none⟩=some (.int .i64 s))) krf (by first|((first|exact aK|exact Qd.out))|((try dsimp only);(first|exact aK|exact Qd.out))) (fun hHeld=>?_);refine wpAnyH_take (i:=0) (v:=?ase) rfl krf krf krf (fun _ _ _ h=>h) (Or.inl ⟨by rfl,?ann⟩) (by assumption) ?asf
  case ann=>intro w hSw;(try dsimp only at hSw);go_simp;try with_reducible rfl
  simp only [Act.put,List.getElem_toArray,List.getElem_cons_zero,List.setIfInBounds_toArray,List.set_cons_succ,List.set_cons_zero];refine t_h 1 ?_;refine t_h 2 ?_;refine t_h 3 ?_;refine t_h 4 ?_;refine t_h 5 ?_;refine r_h 6 (fun K hK=>?_);refine ahY rfq (.tmp 28) (.tmp 29) (.tmp 30) rfq mp M D rfq lK.out.map (by unfold maxLen;omega) (f:Int) s (N:Int) rfq rfq EG.out rA.out je.out ?_;intro w6 hown6 tX;have Qe:=lK.out.put hown6 tX;have EH:=dG.grown tX (fun k e=>by cases e;obtain ⟨es,clock,hb⟩:=lK.out.mapObj;exact ⟨_,hb,by simp⟩);have hb6:Below B w w6:=eU.out.grown tX (Nat.le_trans bM.out eU.out.size) (fun k e=>by cases e;exact lK.out.base.2);have hw0:w6.cell? ⟨w.heap.size,0,none⟩=some (.int .i64 (f:Int)):=tX.cell mH.out.1 (fun e=>by have h1:=HM.out.lt.2;have h2:w.heap.size=mp:=Option.some.inj e;omega);have hw1:w6.cell? ⟨w.heap.size,1,none⟩=some (.int .i64 s):=tX.cell mH.out.2 (fun e=>by have h1:=HM.out.lt.2;have h2:w.heap.size=mp:=Option.some.inj e;omega);have Zy:w6.heap[w.heap.size]?=some (.cells #[.int .i64 (f:Int),.int .i64 s] 151 (0,0)):=(tX.block _ (hltq jR.out) (fun e=>by have h1:=HM.out.lt.2;have h2:w.heap.size=mp:=Option.some.inj e;omega)).trans jR.out;have aK:w6.cell? ⟨mb,1,none⟩=some (.map (some mp))/\w6.cell? ⟨w.heap.size,0,none⟩=some (.int .i64 (f:Int))/\w6.cell? ⟨w.heap.size,1,none⟩=some (.int .i64 s):=⟨by rw [af Qe.box];rfl,hw0,hw1⟩;refine hK.out _ _ (by (try dsimp only);(first|exact aK|exact Qd.out)) (fun hHeld=>?_);clear hK K
  try simp only [Act.put,List.getElem_toArray,List.getElem_cons_succ,List.getElem_cons_zero]
  refine wpAnyH_done krf ?_ _;have bC:=hdq Qe;have EI:Hid (dG w w6):=Qc.out.trans EH;have bZ:=hdq hb6;have tY:Hid (w6.cell? ⟨w.heap.size,0,none⟩=some (.int .i64 (f:Int))/\w6.cell? ⟨w.heap.size,1,none⟩=some (.int .i64 s)):=⟨hw0,hw1⟩;have asg:w6.cell? ⟨mb,0,none⟩=some (.slice sa N c):=by rw [af bC.out.box];rfl
  have jq:=hdq Zy;clear hown6 tX Qe EH hb6 hw0 hw1 aK hHeld Zy;have HIS:Hid (IsMap D):=HM.out.map.isMap;have h63:(N+1)*32<=140737488355328:=omg;have ano:∀o,B<=(w6.alloc o).heap.size:=fun o=>by rw [World.size_alloc];have h1:=bZ.out.size;have h2:=bM.out;omega
  have qw:∀o,Hid ((w6.alloc o).heap[w.heap.size]?=some (.cells #[.int .i64 (f:Int),.int .i64 s] 151 (0,0))):=fun o=>((World.grownBy_alloc w6 o none).block w.heap.size (hltq jq.out) smp).trans jq.out;have aD:∀o,Hid (dG w (w6.alloc o)/\Below B w (w6.alloc o)):=fun o=>⟨EI.out.trans (dG.none (World.grownBy_alloc w6 o none)),bZ.out.alloc (Nat.le_trans bM.out bZ.out.size) o⟩
  go_wp2_with (first
   | (at_builtin
      refine Nc rfq (.tmp 35) (.tmp 37) rfq B (.slice sa N c) N outs rfq (bC.out.alloc _).row w6.heap.size Sw.no rfq (pU _ _ _ _ _).1 (pU _ _ _ _ _).2 (N+1) rfl h63 (ano _) ?_;intro a7 c7 w7 bH az oI iB;obtain ⟨Zz,vg,EJ,hx7,ky,tZ⟩:=Mk.pushed (bC.out.alloc _) bH oI (qw _).out;have qx:=hdq Zz;have HX7:=hdq hx7;have aU:=hdq tZ;have xg:=hdq ((aD _).out.1.trans ky);have lL:=hdq ((aD _).out.2.trans az)
      clear bH az oI iB Zz hx7 ky tZ))
  generalize EK:World.setCell w7 _ _=w8;have iC:Hid (Mk w8 B mb mp (M+1) a7 (N+1) c7 (outs++[Sw.no]) (D.put (jm (f:Int) s) (.lit (.int .i64 (N:Int))))):=by rw [<-EK];exact qx.out
  have rC:Hid (Below B w w8):=by rw [<-EK];exact Below.setCell (p:=⟨mb,0,none⟩) lL.out HM.out.base.1 _
  have kz:Hid (dG w w8):=by rw [<-EK];exact xg.out.trans (dG.grown (dC w7 _ _) (fun k e=>by cases e;exact ⟨_,HX7.out,fun cur fr=>fV ahV⟩))
  have qy:Hid (w8.heap[w.heap.size]?=some (.cells #[.int .i64 (f:Int),.int .i64 s] 151 (0,0))):=by
   rw [<-EK];exact ((dC w7 ⟨mb,0,none⟩ _).block _ (hltq aU.out) (fun e=>by have h1:=HM.out.lt.1;have h2:w.heap.size=mb:=Option.some.inj e;omega)).trans aU.out
  clear EK vg EJ;obtain ⟨sb,rfl⟩:=nY iC.out.row (Nat.succ_pos N);have anq:w8.cell? ⟨mb,0,none⟩=some (.slice (some ⟨sb,0,none⟩) (N+1) c7):=by rw [af iC.out.box];rfl
  have hw8:w8.cell? ⟨w.heap.size,0,none⟩=some (.int .i64 (f:Int)):=by rw [af qy.out];rfl
  have hfi:(f:Int)<(N:Int)+1:=omg;have hf0:(0:Int)<=(f:Int):=omg;go_quiet (fail);go_wp2_with fail;generalize zg:World.drewN w8 _=w9;obtain ⟨x,hx⟩:∃x,(outs++[Sw.no]).getD f Sw.no=x:=⟨_,rfl⟩;obtain ⟨xf,xa,xn,xc,dM⟩:=x;have aJ:Hid (Mk w9 B mb mp (M+1) (some ⟨sb,0,none⟩) (N+1) c7 (outs++[Sw.no]) (D.put (jm (f:Int) s) (.lit (.int .i64 (N:Int))))):=by rw [<-zg];exact iC.out.drewN _
  have oJ:=hdq hx;have dS:Hid ((⟨xf,xa,xn,xc,dM⟩:Sw)∈outs++[Sw.no]):=by show _∈_;rw [<-hx];exact AR (by have:=aJ.out.len;omega)
  have zh:Hid (Below B w w9.drew):=by rw [<-zg];exact aG (below_drewN rC.out _) ⟨1,rfl⟩
  have lM:Hid (dG w w9.drew):=by rw [<-zg];exact kz.out.trans (fun _ _ _ _=>rfl)
  have mI:Hid (w9.drew.heap[w.heap.size]?=some (.cells #[.int .i64 (f:Int),.int .i64 s] 151 (0,0))):=by rw [<-zg];exact qy.out
  have gJ:Hid (w9.drew.cell? ⟨w.heap.size,0,none⟩=some (.int .i64 (f:Int))/\w9.drew.cell? ⟨w.heap.size,1,none⟩=some (.int .i64 s)):=⟨by rw [af mI.out];rfl,by rw [af mI.out];rfl⟩;have oD:w9.drew.cell? ⟨sb,f*2+1,none⟩=some (.slice xa xn xc):=by rw [aJ.out.drew.row.cellAt (f*2+1) omg,(qf (by have:=aJ.out.len;omega)).2,oJ.out];rfl
  have oK:Hid (B<=w9.drew.heap.size):=Nat.le_trans bM.out zh.out.size;have hxa:=ahW HST.out (by rw [HLEN.out];have:=aJ.out.len;simpa using this) BI.out hx;have ZA:=hdq hxa
  have Ki:xn<=6001:=by
   have h1:=(aJ.out.arcs _ dS.out).1;rw [uC] at h1;have h2:dM.length=xn:=by have h3:dM.length*2=xn*2:=h1;omega
   have h4:=DL U (U.getD f []);rw [<-hxa.2] at h4;have h5:dM.length<=U.length:=h4;have h6:=HLEN.out;omega
  have gq:Hid (Tryz.prog.follows .mixedOrders=true):=hmx;clear zg anq hw8 hx hxa;refine wp_region_held_drew (S:=(fun W=>W.cell? ⟨w.heap.size,1,none⟩=some (.int .i64 s))) krf (by first|((first|exact dV|exact dW|exact gJ.out.2|exact fI))|((try dsimp only);(first|exact dV|exact dW|exact gJ.out.2|exact fI))) (fun hHeld=>?_);refine wpAnyH_take (i:=0) (v:=?ash) rfl krf krf krf (fun _ _ _ h=>h) (Or.inl ⟨by rfl,?anr⟩) (by assumption) ?asi
  case anr=>intro w hSw;(try dsimp only at hSw);go_simp;try with_reducible rfl
  simp only [Act.put,List.getElem_toArray,List.getElem_cons_zero,List.setIfInBounds_toArray,List.set_cons_succ,List.set_cons_zero];refine t_h 1 ?_;refine t_h 2 ?_;refine t_h 3 ?_;refine t_h 5 ?_;refine t_h 6 ?_;refine t_h 7 ?_;refine t_h 8 ?_;refine fT 4 9 (fun K hK=>?_) (fun K hK=>?_)
  ·go_simp;refine k_h hK (by (try dsimp only);(first|exact dV|exact dW|exact gJ.out.2|exact fI)) (fun hHeld=>?_);clear hK K;refine r_h 9 (fun K hK=>?_);refine AJ rfq (.tmp 56) s (N:Int) rfq rfq ?_;intro gB wB jE jF au;have hgB:w9.drew.grownBy wB none:=⟨au.os,au.tape,au.output,au.size,fun k hk _=>au.block k hk⟩;have dW:wB.cell? ⟨w.heap.size,1,none⟩=some (.int .i64 s):=hgB.cell gJ.out.2 smp;have zi:wB.cell? ⟨sb,f*2+1,none⟩=some (.slice xa xn xc):=hgB.cell oD smp;refine k_h hK (by (try dsimp only);(first|exact dV|exact dW|exact gJ.out.2|exact fI)) (fun hHeld=>?_);clear hK K;refine r_h 10 (fun K hK=>?_);refine Jk rfq (.tmp 52) (.tmp 57) rfq B (.slice xa xn xc) xn dM rfq (((aJ.out.drew.grow hgB).arcs _ dS.out)) gB (s,(N:Int)) rfq jE jF (xn+1) rfl omg (Nat.le_trans oK.out au.size) ?_;intro ve c10 bg rD fJ rE;have rF:=(aJ.out.drew.grow hgB).arc (f:=f) (y:=(s,(N:Int))) omg oJ.out rD fJ (rE.elim .inl (fun h=>.inr ⟨_,h,Nat.le_refl _⟩)) ⟨rA.out,je.out⟩;have hk10:dG w bg:=lM.out.trans ((dG.none hgB).trans (dG.row fJ ((aJ.out.drew.grow hgB).arcs _ dS.out) (by decide)));have rG:Below B w bg:=(zh.out.trans (au.mono oK.out)).grown fJ (Nat.le_trans oK.out au.size) (fun k e=>(((aJ.out.drew.grow hgB).arcs _ dS.out).lt k e).1);have iD:bg.ownsRow B 58 2 (.slice (some ⟨sb,0,none⟩) (N+1) c7) (N+1) (bT (outs++[Sw.no])):=(aJ.out.drew.grow hgB).row.kept fJ (qd (aJ.out.drew.grow hgB).row ((aJ.out.drew.grow hgB).arcs _ dS.out) mi);have zk:bg.cell? ⟨sb,f*2+1,none⟩=some (.slice xa xn xc):=by rw [iD.cellAt (f*2+1) omg,(qf (by rw [aJ.out.len];omega)).2,oJ.out];rfl
   have zl:bg.frozen? ⟨sb,f*2+1,none⟩=false:=iD.frozenAt _;have nD:wB.heap[w.heap.size]?=some (.cells #[.int .i64 (f:Int),.int .i64 s] 151 (0,0)):=(hgB.block _ (hltq mI.out) smp).trans mI.out;have dV:bg.cell? ⟨w.heap.size,1,none⟩=some (.int .i64 s):=fJ.cell dW (mh ((aJ.out.drew.grow hgB).arcs _ dS.out) nD (fun cur=>fV Jj));have EL:bg.heap[w.heap.size]?=some (.cells #[.int .i64 (f:Int),.int .i64 s] 151 (0,0)):=(fJ.block _ (hltq nD) (mh ((aJ.out.drew.grow hgB).arcs _ dS.out) nD (fun cur=>fV Jj))).trans nD;have fI:(bg.setCell ⟨sb,f*2+1,none⟩ (.slice ve (xn+1) c10)).cell? ⟨w.heap.size,1,none⟩=some (.int .i64 s):=(dC bg _ _).cell dV (mh iD EL (fun cur=>fV NH));refine k_h hK (by (try dsimp only);(first|exact dV|exact dW|exact gJ.out.2|exact fI)) (fun hHeld=>?_);clear hK K;refine t_h 11 ?_;refine t_h 12 ?_;refine r_h 13 (fun K hK=>?_);go_simp;refine k_h hK (by (try dsimp only);(first|exact dV|exact dW|exact gJ.out.2|exact fI)) (fun hHeld=>?_);clear hK K;refine wpAnyH_done krf ?_ _;have zm:=hdq rF;have zq:=hdq hk10;have zt:=hdq rG;have Qf:=hdq (ng iD (g:=sb) rfl);have zu:=hdq ((iD.lt sb rfl).1);clear fI EL nD rF hk10 rG iD zk zl dV rD fJ rE hgB dW zi jE jF au hHeld oD;go_wp2;go_ret;obtain ⟨e1,e2,e3⟩:=VO zm.out Kh HST.out Qb.out HLEN.out BI.out EG.out rA.out HQ.out Zv.out Zw.out iW.out HIS.out oJ.out ZA.out;exact ⟨N,rfl,e1,e2,e3,Below.setCell (p:=⟨sb,f*2+1,none⟩) zt.out zu.out _,zq.out.trans (dG.grown (dC bg ⟨sb,f*2+1,none⟩ _) (fun k e=>by cases e;obtain ⟨cur,hc⟩:=Qf.out;exact ⟨_,hc,fun cur fr=>fV VN⟩))⟩
  ·refine AJ rfq (.tmp 56) s (N:Int) rfq rfq ?_;intro gB wB jE jF au;have hgB:w9.drew.grownBy wB none:=⟨au.os,au.tape,au.output,au.size,fun k hk _=>au.block k hk⟩;have dW:wB.cell? ⟨w.heap.size,1,none⟩=some (.int .i64 s):=hgB.cell gJ.out.2 smp;have zi:wB.cell? ⟨sb,f*2+1,none⟩=some (.slice xa xn xc):=hgB.cell oD smp;refine k_h hK (by (try dsimp only);(first|exact dV|exact dW|exact gJ.out.2|exact fI)) (fun hHeld=>?_);clear hK K;refine r_h 4 (fun K hK=>?_);go_simp;refine k_h hK (by (try dsimp only);(first|exact dV|exact dW|exact gJ.out.2|exact fI)) (fun hHeld=>?_);clear hK K;refine r_h 10 (fun K hK=>?_);refine Jk rfq (.tmp 52) (.tmp 57) rfq B (.slice xa xn xc) xn dM rfq (((aJ.out.drew.grow hgB).arcs _ dS.out)) gB (s,(N:Int)) rfq jE jF (xn+1) rfl omg (Nat.le_trans oK.out au.size) ?_;intro ve c10 bg rD fJ rE;have rF:=(aJ.out.drew.grow hgB).arc (f:=f) (y:=(s,(N:Int))) omg oJ.out rD fJ (rE.elim .inl (fun h=>.inr ⟨_,h,Nat.le_refl _⟩)) ⟨rA.out,je.out⟩;have hk10:dG w bg:=lM.out.trans ((dG.none hgB).trans (dG.row fJ ((aJ.out.drew.grow hgB).arcs _ dS.out) (by decide)));have rG:Below B w bg:=(zh.out.trans (au.mono oK.out)).grown fJ (Nat.le_trans oK.out au.size) (fun k e=>(((aJ.out.drew.grow hgB).arcs _ dS.out).lt k e).1);have iD:bg.ownsRow B 58 2 (.slice (some ⟨sb,0,none⟩) (N+1) c7) (N+1) (bT (outs++[Sw.no])):=(aJ.out.drew.grow hgB).row.kept fJ (qd (aJ.out.drew.grow hgB).row ((aJ.out.drew.grow hgB).arcs _ dS.out) mi);have zk:bg.cell? ⟨sb,f*2+1,none⟩=some (.slice xa xn xc):=by rw [iD.cellAt (f*2+1) omg,(qf (by rw [aJ.out.len];omega)).2,oJ.out];rfl
   have zl:bg.frozen? ⟨sb,f*2+1,none⟩=false:=iD.frozenAt _;have nD:wB.heap[w.heap.size]?=some (.cells #[.int .i64 (f:Int),.int .i64 s] 151 (0,0)):=(hgB.block _ (hltq mI.out) smp).trans mI.out;have dV:bg.cell? ⟨w.heap.size,1,none⟩=some (.int .i64 s):=fJ.cell dW (mh ((aJ.out.drew.grow hgB).arcs _ dS.out) nD (fun cur=>fV Jj));have EL:bg.heap[w.heap.size]?=some (.cells #[.int .i64 (f:Int),.int .i64 s] 151 (0,0)):=(fJ.block _ (hltq nD) (mh ((aJ.out.drew.grow hgB).arcs _ dS.out) nD (fun cur=>fV Jj))).trans nD;have fI:(bg.setCell ⟨sb,f*2+1,none⟩ (.slice ve (xn+1) c10)).cell? ⟨w.heap.size,1,none⟩=some (.int .i64 s):=(dC bg _ _).cell dV (mh iD EL (fun cur=>fV NH));refine k_h hK (by (try dsimp only);(first|exact dV|exact dW|exact gJ.out.2|exact fI)) (fun hHeld=>?_);clear hK K;refine t_h 11 ?_;refine t_h 12 ?_;refine r_h 13 (fun K hK=>?_);go_simp;refine k_h hK (by (try dsimp only);(first|exact dV|exact dW|exact gJ.out.2|exact fI)) (fun hHeld=>?_);clear hK K;refine wpAnyH_done krf ?_ _;have zm:=hdq rF;have zq:=hdq hk10;have zt:=hdq rG;have Qf:=hdq (ng iD (g:=sb) rfl);have zu:=hdq ((iD.lt sb rfl).1);clear fI EL nD rF hk10 rG iD zk zl dV rD fJ rE hgB dW zi jE jF au hHeld oD;go_wp2;go_ret;obtain ⟨e1,e2,e3⟩:=VO zm.out Kh HST.out Qb.out HLEN.out BI.out EG.out rA.out HQ.out Zv.out Zw.out iW.out HIS.out oJ.out ZA.out;exact ⟨N,rfl,e1,e2,e3,Below.setCell (p:=⟨sb,f*2+1,none⟩) zt.out zu.out _,zq.out.trans (dG.grown (dC bg ⟨sb,f*2+1,none⟩ _) (fun k e=>by cases e;obtain ⟨cur,hc⟩:=Qf.out;exact ⟨_,hc,fun cur fr=>fV VN⟩))⟩


end
section
open Go.RowKit Go.Maps Tri

theorem VY:(3:TypeId)≠58:=by decide
theorem aif:(3:TypeId)≠95:=by decide
theorem aih:(3:TypeId)≠148:=by decide
theorem VZ {w w':World} (h:w.grownBy w' none):Below w.heap.size w w':=⟨h.os,h.tape,h.output,h.size,fun k hk=>h.block k hk smp⟩
theorem aii:(madeCells (Value.agg #[.bool false,.slice none 0 0]).cells (1*2)).toList=bT [Sw.no]:=krf
theorem aij (n:Nat):(madeCells (Value.int .i64 0).cells (n*1)).toList=(List.replicate n (0:Int)).map (Value.int .i64):=by
 rw [Nat.mul_one,List.map_replicate];exact toList_madeCells_one (.int .i64 0) n
theorem We (w:World) (A B:Obj):w.heap.size<=((w.alloc A).alloc B).heap.size:=by rw [World.size_alloc,World.size_alloc];omega
theorem Mk.start {w:World} {B g:Nat} (hB:B<=w.heap.size) (hown:w.ownsRow B 58 2 (.slice (some ⟨g,0,none⟩) 1 1) 1 (bT [Sw.no])) :
 Mk ((w.alloc (.map #[] 0)).alloc (.cells #[.slice (some ⟨g,0,none⟩) 1 1,.map (some w.heap.size)] 148)) B (w.heap.size+1) w.heap.size 0 (some ⟨g,0,none⟩) 1 1 [Sw.no] (.map []):=by
 have hz:=World.size_alloc w (.map #[] 0);refine ⟨⟨by omega,hB⟩,?_,(World.ownsMap_made _ _ _ _).alloc _,(hown.alloc _).alloc _,?_,?_,List.pairwise_singleton _ _⟩
 ·rw [<-hz];exact han _ _
 ·intro x hx;rw [msg hx];exact World.ownsRow_nil _ _ _ _
 ·intro x hx;rw [msg hx];intro y hy;cases hy
theorem kr.start {w:World} {B mb mp:Nat} {sa:OAd} (h:Mk w B mb mp 0 sa 1 1 [Sw.no] (.map [])):kr w B mb mp [[]] :=
 ⟨0,sa,1,1,[Sw.no],.map [],h,by omega,by rw [ahw];rfl,ahB (fun f s=>ahR f s),rfl⟩
theorem kr.grow {w w':World} {B mb mp:Nat} {U:LLI} (h:kr w B mb mp U) (hg:w.grownBy w' none):kr w' B mb mp U:=by
 obtain ⟨M,sa,N,c,outs,D,h1,h2⟩:=h;exact ⟨M,sa,N,c,outs,D,h1.grow hg,h2⟩
theorem kr.drew {w:World} {B mb mp:Nat} {U:LLI} (h:kr w B mb mp U):kr w.drew B mb mp U:=by
 obtain ⟨M,sa,N,c,outs,D,h1,h2⟩:=h;exact ⟨M,sa,N,c,outs,D,h1.drew,h2⟩
theorem Mk.setInt {w:World} {B B' mb mp M N c pb i n n':Nat} {sa:OAd} {outs:List Sw} {D:DataW Unit} {l:List Value} {v:Value} (h:Mk w B mb mp M sa N c outs D) (ho:w.ownsRow B' 3 1 (.slice (some ⟨pb,0,none⟩) n n') n l):Mk (w.setCell ⟨pb,i,none⟩ v) B mb mp M sa N c outs D:=by
 obtain ⟨cur,hc⟩:=ng ho (g:=pb) rfl;obtain ⟨es,clock,hb⟩:=h.mapObj;refine h.kept (dC w ⟨pb,i,none⟩ v) ?_ ?_ (mg h.row hc (fun cur=>fV VY)) (fun x hx=>mg (h.arcs x hx) hc (fun cur=>fV aif))
 ·intro e;have e':mb=pb:=Option.some.inj e;rw [<-e',h.box] at hc;simp only [sij,Obj.cells.injEq] at hc;exact aih hc.2.1.symm
 ·intro e;have e':mp=pb:=Option.some.inj e;rw [<-e',hb] at hc;cases hc
theorem kr.setInt {w:World} {B B' mb mp pb i n n':Nat} {U:LLI} {l:List Value} {v:Value} (h:kr w B mb mp U) (ho:w.ownsRow B' 3 1 (.slice (some ⟨pb,0,none⟩) n n') n l):kr (w.setCell ⟨pb,i,none⟩ v) B mb mp U:=by
 obtain ⟨M,sa,N,c,outs,D,h1,h2⟩:=h;exact ⟨M,sa,N,c,outs,D,h1.setInt ho,h2⟩
theorem NP {w:World} {B pb n i L:Nat} {ps:LIn} (h:w.ownsRow B 3 1 (.slice (some ⟨pb,0,none⟩) n n) n (ps.map (Value.int .i64))) (hl:ps.length=L) (hL:L=n) (hi:i<n):w.cell? ⟨pb,i,none⟩=some (.int .i64 (ps.getD i 0)):=by
 rw [h.cellAt i omg];have:i<ps.length:=omg;simp [this]
def qU (v1 w:World) (B mb mp pb n:Nat) (ws:LLI) (p i:Nat):Prop :=
 ∃ps:LIn,kr w B mb mp (cK ws p i)/\pY ws (cK ws p i) ps p i/\w.ownsRow B 3 1 (.slice (some ⟨pb,0,none⟩) n n) n (ps.map (Value.int .i64))/\Below B v1 w
theorem qU.turn {v1 w:World} {B mb mp pb n p:Nat} {ws:LLI} (hn:ws.length=n) (h:qU v1 w B mb mp pb n ws p n):qU v1 w B mb mp pb n ws (p+1) 0:=by
 obtain ⟨ps,h1,h2,h3,h4⟩:=h;subst hn;rw [ahh] at h1 h2;exact ⟨ps,h1,ahE h2,h3,h4⟩
theorem qU.pass {v1 w w':World} {B mb mp pb n p i:Nat} {ws:LLI} {x:LIn} (hi:i<ws.length) (hx:ws.getD i []=x) (hp:¬p<x.length) (hw:w'=w) (h:qU v1 w B mb mp pb n ws p i):qU v1 w' B mb mp pb n ws p (i+1):=by
 obtain ⟨ps,h1,h2,h3,h4⟩:=h;subst hw;have e:=ahp hi hx hp;refine ⟨ps,?_,?_,h3,h4⟩
 ·rw [e];exact h1
 ·rw [e];exact ahF h2 (by rw [hx];exact hp)
theorem aik {v1 w6:World} {B mb mp pb n p i k:Nat} {ws:LLI} {ps:LIn} {z:LIn} (hr:aM ws) (hi:i<ws.length) (hx:ws.getD i []=z) (hp:p<z.length)
 (hm:kr w6 B mb mp (more (cK ws p i) (z.take (p+1)))) (hk:k<(more (cK ws p i) (z.take (p+1))).length) (hq:(more (cK ws p i) (z.take (p+1))).getD k []=z.take (p+1)) (hpl:pY ws (cK ws p i) ps p i)
 (hown:w6.ownsRow B 3 1 (.slice (some ⟨pb,0,none⟩) n n) n (ps.map (Value.int .i64))) (hb:Below B v1 w6) :
 qU v1 (w6.setCell ⟨pb,i,none⟩ (.int .i64 (k:Int))) B mb mp pb n ws p (i+1):=by
 have e:cK ws p (i+1)=more (cK ws p i) (z.take (p+1)):=ahq hr hi hx hp
 have e2:∃V,more (cK ws p i) (z.take (p+1))=cK ws p i++V:=by
  unfold more;split
  ·exact ⟨[],by simp⟩
  ·exact ⟨_,rfl⟩
 obtain ⟨V,hV⟩:=e2;refine ⟨ps.set i (k:Int),?_,?_,?_,Below.setCell (p:=⟨pb,i,none⟩) hb (hown.lt pb rfl).1 _⟩
 ·rw [e];exact hm.setInt hown
 ·rw [e,hV];rw [hV] at hk hq;exact ahG hpl hi hk (by rw [hx];exact hq)
 ·have h1:=(hown.stored i (.int .i64 (k:Int))).1;rw [List.map_set];exact h1
def wE (v1 w:World) (B mb mp pb n:Nat) (ws:LLI) (ps:LIn) (j:Nat):Prop :=
 ∃M sa N c outs D,Mk w B mb mp M sa N c outs D/\sts outs=ig (begs ws) ws j/\w.ownsRow B 3 1 (.slice (some ⟨pb,0,none⟩) n n) n (ps.map (Value.int .i64))/\Below B v1 w
theorem wE.start {v1 w:World} {B mb mp pb n:Nat} {ws:LLI} (h:qU v1 w B mb mp pb n ws 20 0):∃ps,pY ws (begs ws) ps 20 0/\wE v1 w B mb mp pb n ws ps 0:=by
 obtain ⟨ps,⟨M,sa,N,c,outs,D,h1,_,h3,_,_⟩,h2,h4,h5⟩:=h;rw [ahi] at h2 h3;exact ⟨ps,h2,M,sa,N,c,outs,D,h1,by rw [h3,ahv _ ws],h4,h5⟩
theorem wE.step {v1 w:World} {B mb mp pb n M N c sb k j:Nat} {ws:LLI} {ps:LIn} {outs:List Sw} {D:DataW Unit} (hm:Mk w B mb mp M (some ⟨sb,0,none⟩) N c outs D) (hst:sts outs=ig (begs ws) ws j) (hpl:w.ownsRow B 3 1 (.slice (some ⟨pb,0,none⟩) n n) n (ps.map (Value.int .i64))) (hb:Below B v1 w)
 (hk:k<N) (hj:j<ws.length) (hkb:k<(begs ws).length) (hq:(begs ws).getD k []=ws.getD j []):wE v1 (w.setCell ⟨sb,k*2,none⟩ (.bool true)) B mb mp pb n ws ps (j+1):=by
 obtain ⟨Kg,hso⟩:=ng hm.row (g:=sb) rfl;refine ⟨M,_,N,c,_,D,hm.final hk rfl,?_,hpl.kept (dC w ⟨sb,k*2,none⟩ _) (mg hpl hso (fun cur=>fV (VY.symm))),Below.setCell (p:=⟨sb,k*2,none⟩) hb ((hm.row.lt sb rfl).1) _⟩;rw [DN,hst,ahu (IL ws) hj hkb hq];have h1:=ic outs k;rw [hst] at h1;rw [h1];rfl

theorem Wh (a:OAd) (n cap:Nat) (xs:List Wd) (g:List St × Int) (w:World) (hs:Ws w a n cap xs) (_hnil:a=none->cap=0) (hg:made (nums xs)=g) :
 Calls Tryz.prog 65 #[.slice a n cap] w fun e w'=>IV w w' e g:=by
 have hnc:=hs.2.1;have hcm:=hs.2.2.1;unfold maxLen at hcm;have HS:=hdq hs;have HG:=hdq hg;have dF:Hid ((nums xs).length=n):=by show _=_;rw [nums_length,hs.1]
 obtain ⟨⟨bs,er⟩,hp⟩:∃p,Wl.write (nums xs)=p:=⟨_,rfl⟩;have HP:=hdq hp;have gq:Hid (Tryz.prog.follows .mixedOrders=true):=by show _=_;kernel_rfl
 have hmm:=@run_makeMap Tryz.prog;clear hs hg hp;go_enter Tryz.func65,Tryz.ntmps65;go_wp2_with fail;refine (aie a n cap xs _ w HS.out HP.out).mono ?_;rintro e v1 ⟨pa0,pc0,rfl,-,-,hb1⟩;have HB1:Hid (Below w.heap.size w v1):=hb1;obtain ⟨bl,hbl⟩:∃m,bs.length=m:=⟨_,rfl⟩;simp only [hbl];clear hb1 hbl;by_cases her:er=0
 ·subst her;have mJ:=Wl.AU (nums xs);rw [HP.out] at mJ
  have hw3:(nums xs).length<=300/\(∀z∈nums xs,Wl.fit z=true)/\aM (nums xs):=by
   rcases mJ with ⟨_,h1,h2,h3,_⟩|⟨h,_⟩
   ·exact ⟨h1,h2,h3⟩
   ·simp at h
  have Qi:=hdq hw3.2.2;have ug:n<=300:=by rw [<-dF.out];exact hw3.1
  have rH:Hid ((make (nums xs),(0:Int))=g):=by
   show _=_;rw [<-HG.out];unfold made;rw [HP.out];simp
  have Qj:Hid (Tri.Short (nums xs)):=fun z hz=>(Wl.fit_parts (hw3.2.1 z hz)).2.1;have asl:Hid (∀z∈nums xs,Utf.bf z=true):=fun z hz=>(Wl.fit_parts (hw3.2.1 z hz)).2.2.1;clear mJ hw3;obtain ⟨is,his,hs0,hs1,hs2⟩:=info_parts Na;obtain ⟨ii,hii,hi0,hi1,hi2⟩:=info_parts nW
  go_wp2_with (first
   | (at_make
      refine wpList_make_full _ rfq _ _ 22 rfq v1.heap.size 58 is _ 2 Tryz.underlying22 his hs0 hs1 .i64 .i64 1 1 1 rfq rfq rfl rfl (by rw [hs2];omega) (by unfold maxLen;omega) lrf ?_;intro w2 hown2 hg2;have bD:Hid (w2.ownsRow v1.heap.size 58 2 (.slice (some ⟨v1.heap.size,0,none⟩) 1 1) 1 (bT [Sw.no])):=by show World.ownsRow _ _ _ _ _ _ _;rw [<-aii];exact hown2
      have HG2:=hdq hg2;have gX:=hdq (Mk.start hg2.size bD.out)
      clear hown2 hg2)
   | (at_make
      refine wpList_make_full _ rfq _ _ 51 rfq v1.heap.size 3 ii _ 1 Tryz.underlying51 hii hi0 hi1 .i64 .i64 (n:Int) (n:Int) n rfq rfq rfl rfl (by rw [hi2];omega) (by unfold maxLen;omega) (Nat.le_trans HG2.out.size (We _ _ _)) ?_;intro w4 fK hg4;rw [aij] at fK;have fA:=hdq fK;have gY:=hdq hg4
      clear fK hg4))
  have gm:Hid (Below v1.heap.size v1 w4):=((VZ HG2.out).alloc HG2.out.size _ |>.alloc (by rw [World.size_alloc];have:=HG2.out.size;omega) _).trans ((VZ gY.out).mono (Nat.le_trans HG2.out.size (We _ _ _)));have oL:Hid (qU v1 w4 v1.heap.size (w2.heap.size+1) w2.heap.size (w2.heap.size+1+1) n (nums xs) 0 0):=⟨List.replicate n 0,by rw [VG];exact (kr.start gX.out).grow gY.out,by rw [VG,<-dF.out];exact ahD _,by have h:=fA.out;simpa [World.size_alloc] using h,gm.out⟩;clear bD HG2 gX fA gY gm;generalize w2.heap.size+1+1=pb at *;generalize w2.heap.size+1=mb at *;generalize w2.heap.size=mp at *;go_loopw [27] (fun ix wr=>∃p:Nat,p<=20/\ix=.int .i64 (p:Int)/\Hid (qU v1 wr v1.heap.size mb mp pb n (nums xs) p 0)) (fun ix _=>20-(intOf ix).toNat)
  case atStart=>exact ⟨0,by omega,rfl,oL.out⟩
  case round =>
   obtain ⟨p,hp,rfl,bq⟩:=hrel;by_cases hlp:p<20
   ·have asn:(p:Int)<20:=omg;go_wp2;generalize wr=wo at *;go_loopw [32] (fun ix wr=>∃i:Nat,i<=n/\ix=.int .i64 (i:Int)/\Hid (qU v1 wr v1.heap.size mb mp pb n (nums xs) p i)) (fun ix _=>n-(intOf ix).toNat)
    case atStart=>exact ⟨0,by omega,rfl,bq.out⟩
    case round =>
     obtain ⟨i,hi,rfl,rJ⟩:=hrel;by_cases hlt:i<n
     ·have hbv:Below v1.heap.size v1 wr:=by obtain ⟨_,_,_,_,h⟩:=rJ.out;exact h
      have hbw:Below w.heap.size w wr:=HB1.out.trans (hbv.mono HB1.out.size);obtain ⟨b1,o1,za,zn,zc,zz,rfl,hb1,hgd,hcl,hsl,hz⟩:=HS.out.one i hlt;have hcl':wr.cell? ⟨b1,o1+i,none⟩=some (.slice za zn zc):=by rw [hbw.cell (p:=⟨b1,o1+i,none⟩) hb1];exact hcl
      have BJ:=hdq hz;have fw:=hdq hsl.1;have dH:=hdq hsl;have ai:=hdq hbw;have EM:=hsl.2.2.1;have ZB:=hsl.2.1;unfold maxLen at EM;have bB:(i:Int)<(n:Int):=omg;clear hbv hbw hgd hcl hsl hz hb1;by_cases hpz:p<zn
      ·have anz:(p:Int)<(zn:Int):=omg;obtain ⟨ps,hmk,Kk,hpl,hbv⟩:=rJ.out;obtain ⟨k0,hk0,hps,hkq⟩:=ahH Kk (show i<(nums xs).length by rw [dF.out];exact hlt);rw [BJ.out] at hkq;obtain ⟨zb,zo,rfl,hzb,hzc⟩:=dH.out.at omg;obtain ⟨sg,hsg⟩:∃z,zz.getD p 0=z:=⟨_,rfl⟩;have hpl':p<zz.length:=by rw [fw.out];exact hpz
       have hzp:wr.cell? ⟨zb,zo+p,none⟩=some (.int .i64 sg):=by rw [ai.out.cell (p:=⟨zb,zo+p,none⟩) hzb,hzc p hpz,hsg]
       have hp5:wr.cell? ⟨pb,i,none⟩=some (.int .i64 (k0:Int)):=by rw [NP hpl Kk.1 dF.out hlt,hps]
       have anC:Hid (kr wr.drew v1.heap.size mb mp (cK (nums xs) p i)):=hmk.drew;have anD:Hid (v1.heap.size<=wr.drew.heap.size):=hbv.size;have iA:Hid ((cK (nums xs) p i).length<=6001):=ahn hlp (by rw [dF.out];exact ug);have HK0:=hdq hk0;have anF:Hid ((Lit.int .i64 sg).wf=true):=dH.out.2.2.2.1 sg (by rw [<-hsg,gdq,geg hpl',Option.getD_some];exact List.getElem_mem _);have HQQ:Hid (zz.take (p+1)=(cK (nums xs) p i).getD k0 []++[sg]):=by show _=_;rw [hkq,<-hsg];exact ahJ hpl'
       have Kl:Hid (∀u∈cK (nums xs) p i,u.length<=(zz.take (p+1)).length):=fun u hu=>by
        have h1:=ahj hu;rw [List.length_take];omega
       have anH:Hid (wr.drew.ownsRow v1.heap.size 3 1 (.slice (some ⟨pb,0,none⟩) n n) n (ps.map (Value.int .i64))):=hpl;have ZC:=hdq Kk;have ZE:Hid (zb<v1.heap.size):=Nat.lt_of_lt_of_le hzb HB1.out.size;have BK:Hid (wr.drew.cell? ⟨zb,zo+p,none⟩=some (.int .i64 sg)):=hzp;have anI:Hid (Below v1.heap.size v1 wr.drew):=aG hbv ⟨1,rfl⟩;have aso:(0:Int)<=(i:Int):=omg;have asq:(0:Int)<=(p:Int):=omg;have hmx:=gq.out;clear hmk Kk hpl hbv hk0 hps hkq hzb hzc hsg hpl' hmm;go_wp2_with fail;refine wp_region_held_drew (S:=(fun W=>W.cell? ⟨zb,zo+p,none⟩=some (.int .i64 sg))) krf (by first|((first|exact xq|exact zx|exact BK.out))|((try dsimp only);(first|exact xq|exact zx|exact BK.out))) (fun hHeld=>?_);refine wpAnyH_take (i:=0) (v:=?asr) rfl krf krf krf (fun _ _ _ h=>h) (Or.inl ⟨by rfl,?anJ⟩) (by assumption) ?ass
       case anJ=>intro w hSw;(try dsimp only at hSw);go_simp;try with_reducible rfl
       simp only [Act.put,List.getElem_toArray,List.getElem_cons_zero,List.setIfInBounds_toArray,List.set_cons_succ,List.set_cons_zero];refine t_h 1 ?_;refine t_h 2 ?_;refine t_h 3 ?_;refine t_h 4 ?_;refine t_h 6 ?_;refine t_h 7 ?_;refine t_h 8 ?_;refine t_h 9 ?_;refine r_h 5 (fun K hK=>?_);go_simp;refine k_h hK (by (try dsimp only);(first|exact xq|exact zx|exact BK.out)) (fun hHeld=>?_);clear hK K;refine t_h 10 ?_;refine r_h 11 (fun K hK=>?_);go_simp;refine (ahZ v1.heap.size mb mp k0 (cK (nums xs) p i) sg (zz.take (p+1)) wr.drew anC.out anD.out iA.out HK0.out anF.out HQQ.out (ahl _ _ _) Kl.out).mono ?_;rintro e w6 ⟨k,rfl,ZF,EH,ZG,hb6,ZH⟩;have EN:=ZH.owns anH.out;have hc6:w6.cell? ⟨pb,i,none⟩=some (.int .i64 (ps.getD i 0)):=NP EN ZC.out.1 dF.out hlt;have hf6:w6.frozen? ⟨pb,i,none⟩=false:=EN.frozenAt _;have zx:w6.cell? ⟨zb,zo+p,none⟩=some (.int .i64 sg):=by rw [hb6.cell (p:=⟨zb,zo+p,none⟩) ZE.out];exact BK.out
       have xq:(w6.setCell ⟨pb,i,none⟩ (.int .i64 (k:Int))).cell? ⟨zb,zo+p,none⟩=some (.int .i64 sg):=(dC w6 ⟨pb,i,none⟩ _).cell zx (fun e=>by have h1:=(EN.lt pb rfl).1;have h2:=ZE.out;have h3:zb=pb:=Option.some.inj e;omega);refine k_h hK (by (try dsimp only);(first|exact xq|exact zx|exact BK.out)) (fun hHeld=>?_);clear hK K;refine t_h 12 ?_;refine r_h 13 (fun K hK=>?_);go_simp;refine k_h hK (by (try dsimp only);(first|exact xq|exact zx|exact BK.out)) (fun hHeld=>?_);clear hK K;refine wpAnyH_done krf ?_ _;have anL:=hdq ZF;have EI:=hdq EH;have anM:=hdq ZG;have bZ:=hdq hb6;have anN:=hdq EN;clear ZF EH ZG hb6 ZH EN hc6 hf6 zx xq hHeld hp5;go_wp2;go_roundw
       case rel=>exact ⟨i+1,by omega,by go_num,aik Qi.out (by rw [dF.out];exact hlt) BJ.out (by rw [fw.out];exact hpz) anL.out EI.out anM.out ZC.out anN.out (anI.out.trans (bZ.out.mono lrf))⟩
       case measure=>simp [intOf];omega
      ·have anz:¬(p:Int)<(zn:Int):=omg;go_wp2;go_roundw
       case rel=>exact ⟨i+1,by omega,by go_num,rJ.out.pass (by rw [dF.out];exact hlt) BJ.out (by rw [fw.out];exact hpz) rfl⟩
       case measure=>simp [intOf];omega
     ·obtain rfl:i=n:=omg;go_wp2;go_roundw
      case rel=>exact ⟨p+1,by omega,by go_num,rJ.out.turn dF.out⟩
      case measure=>simp [intOf];omega
   ·obtain rfl:p=20:=omg;obtain ⟨ps,hpl,hfin⟩:=wE.start bq.out;have ZI:=hdq hpl;have zy:=hdq hfin;clear hpl hfin bq;go_wp2;go_loopw [58] (fun ix wr=>∃j:Nat,j<=n/\ix=.int .i64 (j:Int)/\Hid (wE v1 wr v1.heap.size mb mp pb n (nums xs) ps j)) (fun ix _=>n-(intOf ix).toNat)
    case atStart=>exact ⟨0,by omega,rfl,zy.out⟩
    case round =>
     obtain ⟨j,hj,rfl,Qk⟩:=hrel;obtain ⟨M,sa,N,c,outs,D,hmk,hst,hpl,hbl⟩:=Qk.out;have ZJ:N=(begs (nums xs)).length:=by rw [<-hmk.len,<-fq,hst,Je]
     have hN0:=Az (nums xs);obtain ⟨sb,rfl⟩:=nY hmk.row omg;have Zx:wr.cell? ⟨mb,0,none⟩=some (.slice (some ⟨sb,0,none⟩) N c):=by rw [af hmk.box];rfl
     by_cases hlt:j<n
     ·have hjl:j<(nums xs).length:=by rw [dF.out];exact hlt
      obtain ⟨k,hk,hps,hkq⟩:=ahI ZI.out Qj.out hjl;have hpc:wr.cell? ⟨pb,j,none⟩=some (.int .i64 (k:Int)):=by rw [NP hpl ZI.out.1 dF.out hlt,hps]
      have hkN:k<N:=omg;have hsc:wr.cell? ⟨sb,k*2,none⟩=some (outs.getD k Sw.no).f:=by rw [hmk.row.cellAt (k*2) omg,(qf (by rw [hmk.len];exact hkN)).1]
      have hsf:wr.frozen? ⟨sb,k*2,none⟩=false:=hmk.row.frozenAt _;have xu:Hid (wE v1 (wr.setCell ⟨sb,k*2,none⟩ (.bool true)) v1.heap.size mb mp pb n (nums xs) ps (j+1)):=wE.step hmk hst hpl hbl hkN hjl omg hkq;have ZK:(k:Int)<(N:Int):=omg;have asu:(0:Int)<=(k:Int):=omg;have bB:(j:Int)<(n:Int):=omg;clear hmk hst hpl hbl hk hps hkq ZJ hN0 Qk;go_wp2;go_roundw
      case rel=>exact ⟨j+1,by omega,by go_num,xu.out⟩
      case measure=>simp [intOf];omega
     ·obtain rfl:j=n:=omg;have xw:=hdq hmk;have kM:=hdq hbl;have anO:Hid (sts outs=make (nums xs)):=by show _=_;rw [hst,<-dF.out];exact ahs _
      clear hmk hst hpl hbl ZJ hN0 Qk;go_wp2;go_ret2;exact ⟨some ⟨sb,0,none⟩,N,c,outs,by rw [<-rH.out];rfl,xw.out.states,by rw [anO.out,<-rH.out],fun h=>by simp at h,HB1.out.trans (kM.out.mono HB1.out.size)⟩
 ·have hne:(er != 0)=true:=by simpa using her
  have hgg:g=([],er):=by rw [<-HG.out];unfold made;rw [HP.out];simp [her]
  subst hgg;clear her;go_wp2;go_ret2;exact ⟨none,0,0,[],rfl,Ss.nil,rfl,fun _=>rfl,HB1.out⟩

end
#print axioms Go.Proofs.YtkiamgcpcneggaaGreat.Wh
end Go.Proofs.YtkiamgcpcneggaaGreat
