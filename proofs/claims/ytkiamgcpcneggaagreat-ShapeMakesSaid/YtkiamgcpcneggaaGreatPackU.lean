import Derived.Test.YtkiamgcpcneggaaGreatPackAM
import Derived.Test.YtkiamgcpcneggaaGreatPackT
import Derived.Test.YtkiamgcpcneggaaGreatPackC
import Derived.Test.YtkiamgcpcneggaaGreatPackH
set_option linter.all false
set_option maxRecDepth 100000
set_option maxHeartbeats 12800000
namespace Go.Proofs.YtkiamgcpcneggaaGreat
section
open Go.RowKit Tri

theorem afr (a:Option Addr) (n cap:Nat) (xs:List Sw) (f s:Int) (r:Int × Bool) (w:World) (ha:Ss w a n cap xs) (_hf:(Lit.int .i64 f).wf=true) (hr:Tri.step (sts xs) f s=r) :
 Calls Tryz.prog 104 #[.slice a n cap,.int .i64 f,.int .i64 s] w fun e w'=>e=.returned (.tuple #[.int .i64 r.1,.bool r.2])/\Below w.heap.size w w':=by
 have hnc:=ha.2.1;have hcm:=ha.2.2.1;unfold maxLen at hcm;have HA:=hdq ha;have HR:=hdq hr;have HL:Hid ((sts xs).length=n):=by show _=_;rw [ar,ha.1]
 clear ha hr;by_cases h0:f<0
 ·have h0d:decide (f<0)=true:=decide_eq_true h0;have hrr:r=(0,false):=by rw [<-HR.out];exact aey (.inl h0)
  subst hrr;go_enter Tryz.func104,Tryz.ntmps104;go_wp2;go_ret2;exact ⟨rfl,Below.refl _ _⟩
 have h0d:decide (f<0)=false:=decide_eq_false h0;by_cases h1:(n:Int)<=f
 ·have h1d:decide (f>=(n:Int))=true:=decide_eq_true h1;have hrr:r=(0,false):=by rw [<-HR.out];exact aey (.inr (by rw [HL.out];exact h1))
  subst hrr;clear h0;go_enter Tryz.func104,Tryz.ntmps104;go_wp2;go_ret2;exact ⟨rfl,Below.refl _ _⟩
 have h1d:decide (f>=(n:Int))=false:=decide_eq_false h1;obtain ⟨i,rfl⟩:∃i:Nat,f=(i:Int):=⟨f.toNat,by omega⟩
 have hi:i<n:=by omega
 have hii:(i:Int)<(n:Int):=by omega
 obtain ⟨b1,o1,fi,sa,sn,sc,arcs,rfl,_,hx1,hx2,hars,hz1⟩:=HA.out.one i hi
 have HST:Hid ((match arcs.find? fun a=>decide (a.1=s) with
  | some a=>(a.2,true)
  | none=>((0:Int),false))=r):=by
  have h:=HR.out;rw [avr (by rw [HL.out];exact hi),eu,hz1] at h
  exact h
 have HAR:=hdq hars;have HAL:=hdq hars.1;have hsc:=hars.2.1;have hscm:=hars.2.2.1;unfold maxLen at hscm;clear h0 h1 hars hz1 HR;go_enter Tryz.func104,Tryz.ntmps104;go_wp2;go_loopw [24] (fun ix wr=>∃j:Nat,j<=sn/\ix=.int .i64 (j:Int)/\Hid (∀x∈arcs.take j,x.1≠s)/\Hid (Below w.heap.size w wr)) (fun ix _=>sn-(intOf ix).toNat)
 case atStart=>exact ⟨0,Nat.zero_le _,rfl,(fun x hx=>by simp at hx),Below.refl _ _⟩
 case round =>
  obtain ⟨j,hj,rfl,HT,HW⟩:=hrel;by_cases hlt:j<sn
  ·obtain ⟨b2,o2,s2,t2,rfl,hb2,hy1,hy2,_,_,hz2⟩:=(HAR.out.below HW.out lrf).one j hlt;have HZ2:=hdq hz2;have hlti:(j:Int)<(sn:Int):=by omega
   have HWA:∀o,Hid (Below w.heap.size w (wr.alloc o)):=fun o=>HW.out.alloc HW.out.size o;clear hz2 hx1 hx2 hb2;by_cases hs:s2=s
   ·subst hs;have hb:(s2==s2)=true:=by simp
    have hrr:r=(t2,true):=by
     rw [<-HST.out,avs (by rw [HAL.out];exact hlt) HZ2.out HT.out]
    subst hrr;go_wp2;go_ret2;exact ⟨rfl,(HWA _).out⟩
   ·have hb:(s2==s)=false:=by simpa using hs
    have HN:=hdq hs;clear hs;go_wp2;go_roundw
    case rel =>
     refine ⟨j+1,by omega,by go_num,?_,(HWA _).out⟩
     intro x hx;rw [gi (by rw [HAL.out];exact hlt) HZ2.out] at hx
     rcases map1 hx with hx|hx
     ·exact HT.out x hx
     ·rw [msg hx];exact HN.out
    case measure=>simp [intOf];omega
  ·have hrr:r=(0,false):=by
    rw [<-HST.out,avt];intro x hx;exact HT.out x (by rw [tol (by rw [HAL.out];omega)];exact hx)
   subst hrr;clear hx1 hx2;go_wp2;go_ret2;exact ⟨rfl,HW.out⟩

end
section
open Go.RowKit Go.Maps Tri

def MkAt (w:World) (B mb mp:Nat) (U:List (List Int)):Prop :=
 ∃M sa N c outs D,Mk w B mb mp M sa N c outs D/\M<=N/\sts outs=bare U/\MapOk U (wayAt D)/\U.length=N
def more (U:List (List Int)) (q:List Int):List (List Int):=if q∈U then U else U++[q]
theorem rg {w:World} {mp M:Nat} {D:DataW Unit} {f s:Int} (hm:w.ownsMap Tryz.prog 151 (plainElem Tryz.prog 3) mp M D) (hf:(Lit.int .i64 f).wf=true) (hs:(Lit.int .i64 s).wf=true) :
 ∃c:Int,(Instr.lookup 146 (.map (some mp)) (wayV f s) true).run Tryz.prog w=.ok (.tuple #[.int .i64 c,.bool (has D (keyW f s))]) w/\D.atKey (keyW f s) (.lit (.int .i64 0))=.lit (.int .i64 c):=by
 obtain ⟨v,ps,hrun,hv⟩:=hm.look_ok lj Tryz.underlying146 (asw w) (plainElem_int Tryz.underlying3 (by decide)) (ju f s hf hs)
 obtain ⟨c,rfl,hc,_⟩:=plainElem_int_inv Tryz.underlying3 hv;simp only [Prod.mk.injEq] at hc;exact ⟨c,hrun,hc.1⟩
theorem asy {w:World} {mp M:Nat} {D:DataW Unit} {f s k:Int} (hm:w.ownsMap Tryz.prog 151 (plainElem Tryz.prog 3) mp M D) (hf:(Lit.int .i64 f).wf=true) (hs:(Lit.int .i64 s).wf=true) (hk:wayAt D f s=some k) :
 (Instr.lookup 146 (.map (some mp)) (wayV f s) true).run Tryz.prog w=.ok (.tuple #[.int .i64 k,.bool true]) w:=by
 obtain ⟨c,hrun,hat⟩:=rg hm hf hs;unfold wayAt at hk;split at hk
 ·rename_i h;rw [hat] at hk;cases hk;rw [h.2.2] at hrun;exact hrun
 ·cases hk
theorem aen:(151:TypeId)≠95:=by decide
theorem alg:(151:TypeId)≠58:=by decide
theorem ayn:(148:TypeId)≠3:=by decide
theorem avc:(58:TypeId)≠3:=by decide
theorem Mk.pushed {w w':World} {B mb mp M N c c' k:Nat} {sa a':Option Addr} {outs:List Sw} {D:DataW Unit} {cs:Array Value} (h:Mk w B mb mp M sa N c outs D) (hrow:w'.ownsRow B 58 2 (.slice a' (N+1) c') (N+1) (scells (outs++[Sw.no]))) (hg:w.grownBy w' (Value.slice sa N c).ownBlock)
 (ho:w.heap[k]?=some (.cells cs 151 (0,0))) :
 Mk (w'.setCell ⟨mb,0,none⟩ (.slice a' (N+1) c')) B mb mp M a' (N+1) c' (outs++[Sw.no]) D/\w'.cell? ⟨mb,0,none⟩=some (.slice sa N c)/\w'.frozen? ⟨mb,0,none⟩=false/\w'.heap[mb]?=some (.cells #[.slice sa N c,.map (some mp)] 148 (0,0))/\KeepI w w'/\w'.heap[k]?=some (.cells cs 151 (0,0)):=by
 have hbox:=(hg.block _ h.lt.1 (ez h.row h.box (fun cur=>bu aae))).trans h.box;refine ⟨h.state hrow hg,by rw [ae hbox];rfl,frozen_of_row w' mb 0 _ _ hbox,hbox,KeepI.row hg h.row (by decide),?_⟩
 exact (hg.block _ (hltq ho) (ez h.row ho (fun cur=>bu alg))).trans ho
theorem nw (U:List (List Int)) (p:List Int):(arcsOf U p).length<=U.length:=by
 unfold arcsOf;exact Nat.le_trans (List.length_filterMap_le _ _) (by simp)
theorem awk {outs:List Sw} {U:List (List Int)} {f:Nat} {x:Sw} (hst:sts outs=bare U) (hlen:outs.length=U.length) (hf:f<U.length) (hx:(outs++[Sw.no]).getD f Sw.no=x):x.fin=false/\x.arcs=arcsOf U (U.getD f []):=by
 have h1:(outs++[Sw.no]).getD f Sw.no=outs.getD f Sw.no:=by
  simp only [gdq];rw [List.getElem?_append_left (by omega)]
 have h2:=eu outs f;rw [hst,awi hf,<-h1,hx] at h2;have h3:x.st=⟨x.fin,x.arcs⟩:=rfl;rw [h3] at h2;simp only [St.mk.injEq] at h2;exact ⟨h2.1.symm,h2.2.symm⟩
theorem ajj (xs:List Sw) (f:Nat) (z:Sw):sts (xs.set f z)=(sts xs).set f z.st:=by simp [sts,List.map_set]
theorem afw {w:World} {B mb mp M N c f xn xc a10n c10:Nat} {sa xa a10:Option Addr} {xf:Bool} {outs:List Sw} {D:DataW Unit} {U:List (List Int)} {s:Int} {q:List Int} {xarcs:List (Int × Int)}
 (hm:Mk w B mb mp (M+1) sa (N+1) c ((outs++[Sw.no]).set f ⟨xf,a10,a10n,c10,xarcs++[(s,(N:Int))]⟩) (D.put (keyW (f:Int) s) (.lit (.int .i64 (N:Int))))) (hMN:M<=N) (hst:sts outs=bare U) (hmo:MapOk U (wayAt D)) (hlen:U.length=N) (hf:f<U.length)
 (hfw:(Lit.int .i64 (f:Int)).wf=true) (hs:(Lit.int .i64 s).wf=true) (hq:q=U.getD f []++[s]) (hn:U.Nodup) (hl:∀u∈U,u.length<=q.length) (hin:q∉U) (hD:IsMap D) (_hx:(outs++[Sw.no]).getD f Sw.no=⟨xf,xa,xn,xc,xarcs⟩)
 (hxa:(⟨xf,xa,xn,xc,xarcs⟩:Sw).fin=false/\(⟨xf,xa,xn,xc,xarcs⟩:Sw).arcs=arcsOf U (U.getD f [])) :
 MkAt w B mb mp (more U q)/\N<(more U q).length/\(more U q).getD N []=q:=by
 have hmo':more U q=U++[q]:=by unfold more;rw [if_neg hin]
 have hxf:xf=false:=hxa.1;have hxs:xarcs=arcsOf U (U.getD f []):=hxa.2;subst hlen;rw [hmo'];refine ⟨⟨M+1,sa,U.length+1,c,_,_,hm,by omega,?_,?_,by simp⟩,by simp,mg U q⟩
 ·rw [ajj,abj,hst,aok hn hf hq hl];have hl':f<(bare U).length:=by rw [lf];exact hf
  rw [List.set_append_left _ _ hl',hxf,hxs];rfl
 ·exact aol hmo hn hf hq hl hin (abp hD hfw hs _) (fun f' s' hne=>aad hfw hs hne _)
theorem aed {w:World} {mp M:Nat} {D:DataW Unit} {f s:Int} (hm:w.ownsMap Tryz.prog 151 (plainElem Tryz.prog 3) mp M D) (hf:(Lit.int .i64 f).wf=true) (hs:(Lit.int .i64 s).wf=true) (hk:wayAt D f s=none) :
 ∃c:Int,∀n,(Instr.lookup 146 (.map (some mp)) (wayV f s) true).run Tryz.prog (w.drewN n)=.ok (.tuple #[.int .i64 c,.bool false]) (w.drewN n):=by
 have hh:has D (keyW f s)=false:=by
  obtain ⟨c,_,hat⟩:=rg hm hf hs
  cases hh:has D (keyW f s) with
  | true=>rw [aac hf hs hh hat] at hk;cases hk
  | false=>rfl
 obtain ⟨c,_,hat⟩:=rg hm hf hs;refine ⟨c,fun n=>?_⟩;obtain ⟨c',hrun,hat'⟩:=rg (w:=w.drewN n) hm hf hs;have:c'=c:=by rw [hat] at hat';simpa using hat'.symm
 rw [this,hh] at hrun;exact hrun
theorem asz {w:World} {ops:Array Oper} {o:Oper} {act:Act} {K:Act->World->Prop} {Q:Exit->Act->World->Prop} {E:Prop} (hw:Region.wanted o (yielded ops act.tmps)=true) (m x v:Operand) (hop:o.op=.mapUpdate 146 m x v)
 (mp M:Nat) (D:DataW Unit) (hm:act.eval m=.map (some mp)) (hown:w.ownsMap Tryz.prog 151 (plainElem Tryz.prog 3) mp M D) (hM:M<maxLen) (f s t:Int) (hx:act.eval x=wayV f s) (hv:act.eval v=.int .i64 t)
 (hf:(Lit.int .i64 f).wf=true) (hs:(Lit.int .i64 s).wf=true) (ht:(Lit.int .i64 t).wf=true)
 (h:∀w',w'.ownsMap Tryz.prog 151 (plainElem Tryz.prog 3) mp (M+1) (D.put (keyW f s) (.lit (.int .i64 t)))->w.grownBy w' (some mp)->K (act.put o.dst undef) w') :
 if Region.wanted o (yielded ops act.tmps)=true then o.wp Tryz.prog act w K Q else E:=by
 rw [if_pos hw];obtain ⟨w',hrun,r1,r2⟩:=hown.update lj Tryz.underlying146 hM (ju f s hf hs) (plainElem_int Tryz.underlying3 ht);unfold Oper.wp;simp [execOp,hop,hm,hx,hv,hrun,Result.andThen];exact h w' r1 r2
theorem lk {w:World} {ops:Array Oper} {o:Oper} {act:Act} {K:Act->World->Prop} {Q:Exit->Act->World->Prop} {E:Prop} (hw:Region.wanted o (yielded ops act.tmps)=true) (s x:Operand)
 (ho:o.op=.call { callee:=.builtin .append,args:=#[s,x],argTypes:=#[56,56] }) (base:Nat) (v:Value) (n:Nat) (l:List (Int × Int)) (hs:act.eval s=v)
 (hown:w.ownsRow base 95 2 v n (acells l)) (g:Nat) (y:Int × Int) (hx:act.eval x=.slice (some ⟨g,0,none⟩) 1 1) (h0:w.cell? ⟨g,0,none⟩=some (.int .i64 y.1)) (h1:w.cell? ⟨g,1,none⟩=some (.int .i64 y.2))
 (N:Nat) (hN:n+1=N) (h63:N*16<=140737488355328) (hbase:base<=w.heap.size)
 (h:∀a' c' w',w'.ownsRow base 95 2 (.slice a' N c') N (acells (l++[y]))->w.grownBy w' v.ownBlock->((Value.slice a' N c').ownBlock=v.ownBlock\/(Value.slice a' N c').ownBlock=some w.heap.size)->K (act.put o.dst (.slice a' N c')) w') :
 if Region.wanted o (yielded ops act.tmps)=true then o.wp Tryz.prog act w K Q else E:=by
 subst hN;rw [if_pos hw];obtain ⟨i0,hi,hz0,hz1,hz2⟩:=info_parts xr;obtain ⟨v',w',hr,r1,r2,_,r4⟩:=run_append_own_at (P:=Tryz.prog) w base 56 o.type 95 i0 _ 2 16 Tryz.underlying56 hi hz0 hz1 hz2 rfl (by omega) v n (acells l) hown ⟨g,0,none⟩ 1 1 (acells [y]) rfl (tr h0 h1) (zk [y]) (by unfold maxLen;omega) (by omega) hbase
 obtain ⟨a',c',rfl,_⟩:=jh r1;unfold Oper.wp execOp;simp only [ho,resolve,invoke,builtin,Sem.run_bind,Sem.run_pure,Result.andThen_ok,List.map_toArray,List.map_cons,List.map_nil,hs,hx,hr];exact h a' c' w' (by rw [zi];exact r1) r2 r4

theorem awl (B mb mp f:Nat) (U:List (List Int)) (s:Int) (q:List Int) (w:World) (hm:MkAt w B mb mp U) (hB:B<=w.heap.size) (hN:U.length<=6001) (hf:f<U.length) (hs:(Lit.int .i64 s).wf=true) (hq:q=U.getD f []++[s]) (hn:U.Nodup) (hl:∀u∈U,u.length<=q.length) :
 Calls Tryz.prog 111 #[.pointer (some ⟨mb,0,none⟩),.agg #[.int .i64 (f:Int),.int .i64 s]] w fun e w'=>∃k:Nat,e=.returned (.int .i64 (k:Int))/\MkAt w' B mb mp (more U q)/\k<(more U q).length/\(more U q).getD k []=q/\Below B w w'/\KeepI w w':=by
 obtain ⟨M,sa,N,c,outs,D,hmk,hMN,hst,hmo,hlen⟩:=hm;have hfw:(Lit.int .i64 (f:Int)).wf=true:=by apply WalkArith.wf_i64;omega
 have HM:=hdq hmk;have HMO:=hdq hmo;have HST:=hdq hst;have HLEN:=hdq hlen;have HFW:=hdq hfw;have HSW:=hdq hs;have HQ:=hdq hq;have HND:=hdq hn;have HUL:=hdq hl;have HFU:=hdq hf;have hf':f<N:=by omega
 have hN':N<=6001:=by omega
 have hB0:∀o,Hid (Below B w (w.alloc o)):=fun o=>(Below.refl B w).alloc hB o
 have hmbA:∀o,(w.alloc o).cell? ⟨mb,1,none⟩=some (.map (some mp)):=fun o=>by
  rw [ae ((hmk.alloc o).box)];rfl
 by_cases hin:q∈U
 ·obtain ⟨k,hk,hkq⟩:=asu hin;have hway:wayAt D (f:Int) s=some (k:Int):=(hmo _ _ _).2 ⟨f,k,hf,hk,rfl,rfl,by rw [hkq,hq]⟩
  have hlk:∀o n,(Instr.lookup 146 (.map (some mp)) (.agg #[.int .i64 (f:Int),.int .i64 s]) true).run Tryz.prog ((w.alloc o).drewN n)=.ok (.tuple #[.int .i64 (k:Int),.bool true]) ((w.alloc o).drewN n):=fun o n=>asy ((hmk.alloc o).drewN n).map hfw hs hway;have HIN:=hdq hin;have HKQ:=hdq hkq;have HK:=hdq hk;clear hmk hmo hst hlen hfw hs hq hn hl hin hkq hway hf hk hN hB;go_enter Tryz.func111,Tryz.ntmps111;go_wp2;go_quiet (fail);go_wp2;go_ret;have hmo':more U q=U:=by unfold more;rw [if_pos HIN.out]
  refine ⟨k,rfl,?_,by rw [hmo'];exact HK.out,by rw [hmo'];exact HKQ.out,below_drewN (hB0 _).out _,?_⟩
  ·rw [hmo'];exact ⟨M,sa,N,c,outs,D,(HM.out.alloc _).drewN _,hMN,HST.out,HMO.out,HLEN.out⟩
  ·exact (KeepI.none (World.grownBy_alloc w _ none)).trans (fun _ _ _ _=>rfl)
 ·
  have hway:wayAt D (f:Int) s=none:=by
   cases hc:wayAt D (f:Int) s with
   | none=>rfl
   | some t =>
     obtain ⟨i,k,hi,hk,h1,h2,h3⟩:=(hmo _ _ _).1 hc;have:i=f:=by omega
     subst this;exact absurd (by rw [hq,<-h3];exact Tri.getD_mem hk) hin
  have hlk:∀o,∃c0:Int,∀n,(Instr.lookup 146 (.map (some mp)) (.agg #[.int .i64 (f:Int),.int .i64 s]) true).run Tryz.prog ((w.alloc o).drewN n)=.ok (.tuple #[.int .i64 c0,.bool false]) ((w.alloc o).drewN n):=fun o=>aed ((hmk.alloc o)).map hfw hs hway;obtain ⟨c0,hlk⟩:=hlk (.cells #[.int .i64 (f:Int),.int .i64 s] 151 (0,0))
  have hmb0:∀o n,((w.alloc o).drewN n).cell? ⟨mb,0,none⟩=some (.slice sa N c):=fun o n=>by
   rw [ae (((hmk.alloc o).drewN n).box)];rfl
  have HIN:=hdq hin;have HNW:Hid ((Lit.int .i64 (N:Int)).wf=true):=by apply WalkArith.wf_i64;omega
  have HBS:Hid (B<=w.heap.size):=hB;have hmx:Tryz.prog.follows .mixedOrders=true:=by kernel_rfl
  clear hmk hmo hst hlen hfw hs hq hn hl hin hway hf hN hB;go_enter Tryz.func111,Tryz.ntmps111;go_wp2;go_quiet (fail);go_wp2_with fail;generalize hW5:World.drewN (w.alloc _) _=w5;have HM5:Hid (Mk w5.drew B mb mp M sa N c outs D):=by rw [<-hW5];exact ((HM.out.alloc _).drewN _).drew
  have HB5:Hid (Below B w w5.drew):=by rw [<-hW5];exact al (below_drewN (hB0 _).out _) ⟨1,rfl⟩
  have HK5:Hid (KeepI w w5.drew):=by rw [<-hW5];exact (KeepI.none (World.grownBy_alloc w _ none)).trans (fun _ _ _ _=>rfl)
  have HW5:Hid (w5.drew.cell? ⟨w.heap.size,0,none⟩=some (.int .i64 (f:Int))/\w5.drew.cell? ⟨w.heap.size,1,none⟩=some (.int .i64 s)):=by rw [<-hW5];exact jz w _ _ _ _
  have HO5:Hid (w5.drew.heap[w.heap.size]?=some (.cells #[.int .i64 (f:Int),.int .i64 s] 151 (0,0))):=by rw [<-hW5];exact han w _
  have HS5:Hid (w5.drew.cell? ⟨mb,1,none⟩=some (.map (some mp))/\w5.drew.cell? ⟨w.heap.size,0,none⟩=some (.int .i64 (f:Int))/\w5.drew.cell? ⟨w.heap.size,1,none⟩=some (.int .i64 s)):=⟨by rw [ae HM5.out.box];rfl,HW5.out⟩
  clear hW5 hlk hmb0 hmbA;refine wp_region_held_drew (S:=(fun W=>W.cell? ⟨mb,1,none⟩=some (.map (some mp))/\W.cell? ⟨w.heap.size,0,none⟩=some (.int .i64 (f:Int))/\W.cell? ⟨w.heap.size,1,none⟩=some (.int .i64 s))) (by kernel_rfl) (by first|((first|exact hS6|exact HS5.out))|((try dsimp only);(first|exact hS6|exact HS5.out))) (fun hHeld=>?_)
  refine wpAnyH_take (i:=0) (v:=?vla1) rfl (by kernel_rfl) (by kernel_rfl) (by kernel_rfl) (fun _ _ _ h=>h) (Or.inl ⟨by rfl,?hla1⟩) (by assumption) ?rla1
  case hla1=>intro w hSw;(try dsimp only at hSw);go_simp;try with_reducible rfl
  simp only [Act.put,List.getElem_toArray,List.getElem_cons_zero,List.setIfInBounds_toArray,List.set_cons_succ,List.set_cons_zero];refine t_h 1 ?_;refine t_h 2 ?_;refine t_h 3 ?_;refine t_h 4 ?_;refine t_h 5 ?_;refine r_h 6 (fun K hK=>?_);refine asz (by rfl) (.tmp 28) (.tmp 29) (.tmp 30) (by rfl) mp M D (by rfl) HM5.out.map (by unfold maxLen;omega) (f:Int) s (N:Int) (by rfl) (by rfl) HFW.out HSW.out HNW.out ?_
  intro w6 hown6 hg6;have hm6:=HM5.out.put hown6 hg6;have hk6:=KeepI.grown hg6 (fun k e=>by cases e;obtain ⟨es,clock,hb⟩:=HM5.out.mapObj;exact ⟨_,hb,by simp⟩)
  have hb6:Below B w w6:=HB5.out.grown hg6 (Nat.le_trans HBS.out HB5.out.size) (fun k e=>by cases e;exact HM5.out.base.2)
  have hw0:w6.cell? ⟨w.heap.size,0,none⟩=some (.int .i64 (f:Int)):=hg6.cell HW5.out.1 (fun e=>by have h1:=HM.out.lt.2;have h2:w.heap.size=mp:=Option.some.inj e;omega)
  have hw1:w6.cell? ⟨w.heap.size,1,none⟩=some (.int .i64 s):=hg6.cell HW5.out.2 (fun e=>by have h1:=HM.out.lt.2;have h2:w.heap.size=mp:=Option.some.inj e;omega)
  have ho6:w6.heap[w.heap.size]?=some (.cells #[.int .i64 (f:Int),.int .i64 s] 151 (0,0)):=(hg6.block _ (hltq HO5.out) (fun e=>by have h1:=HM.out.lt.2;have h2:w.heap.size=mp:=Option.some.inj e;omega)).trans HO5.out
  have hS6:w6.cell? ⟨mb,1,none⟩=some (.map (some mp))/\w6.cell? ⟨w.heap.size,0,none⟩=some (.int .i64 (f:Int))/\w6.cell? ⟨w.heap.size,1,none⟩=some (.int .i64 s):=⟨by rw [ae hm6.box];rfl,hw0,hw1⟩
  refine hK.out _ _ (by (try dsimp only);(first|exact hS6|exact HS5.out)) (fun hHeld=>?_)
  clear hK K
  try simp only [Act.put,List.getElem_toArray,List.getElem_cons_succ,List.getElem_cons_zero]
  refine wpAnyH_done (by kernel_rfl) ?_ _
  have HM6:=hdq hm6;have HK6:Hid (KeepI w w6):=HK5.out.trans hk6;have HB6:=hdq hb6;have HW6:Hid (w6.cell? ⟨w.heap.size,0,none⟩=some (.int .i64 (f:Int))/\w6.cell? ⟨w.heap.size,1,none⟩=some (.int .i64 s)):=⟨hw0,hw1⟩;have hmb6:w6.cell? ⟨mb,0,none⟩=some (.slice sa N c):=by rw [ae HM6.out.box];rfl
  have HO6:=hdq ho6;clear hown6 hg6 hm6 hk6 hb6 hw0 hw1 hS6 hHeld ho6;have HIS:Hid (IsMap D):=HM.out.map.isMap;have h63:(N+1)*32<=140737488355328:=by omega
  have hbs6:∀o,B<=(w6.alloc o).heap.size:=fun o=>by rw [World.size_alloc];have h1:=HB6.out.size;have h2:=HBS.out;omega
  have HOA:∀o,Hid ((w6.alloc o).heap[w.heap.size]?=some (.cells #[.int .i64 (f:Int),.int .i64 s] 151 (0,0))):=fun o=>((World.grownBy_alloc w6 o none).block w.heap.size (hltq HO6.out) (by simp)).trans HO6.out
  have HKA:∀o,Hid (KeepI w (w6.alloc o)/\Below B w (w6.alloc o)):=fun o=>⟨HK6.out.trans (KeepI.none (World.grownBy_alloc w6 o none)),HB6.out.alloc (Nat.le_trans HBS.out HB6.out.size) o⟩
  go_wp2_with (first
   | (at_builtin
      refine mr (by rfl) (.tmp 35) (.tmp 37) (by rfl) B (.slice sa N c) N outs (by rfl) (HM6.out.alloc _).row w6.heap.size Sw.no (by rfl) (jz _ _ _ _ _).1 (jz _ _ _ _ _).2 (N+1) rfl h63 (hbs6 _) ?_
      intro a7 c7 w7 hown7 hb7 hg7 hnil7;obtain ⟨hm7,hc7,hf7,hx7,hk7,ho7⟩:=Mk.pushed (HM6.out.alloc _) hown7 hg7 (HOA _).out;have HM7:=hdq hm7;have HX7:=hdq hx7;have HO7:=hdq ho7;have HK7:=hdq ((HKA _).out.1.trans hk7);have HB7:=hdq ((HKA _).out.2.trans hb7)
      clear hown7 hb7 hg7 hnil7 hm7 hx7 hk7 ho7))
  generalize hW8:World.setCell w7 _ _=w8;have HM8:Hid (Mk w8 B mb mp (M+1) a7 (N+1) c7 (outs++[Sw.no]) (D.put (keyW (f:Int) s) (.lit (.int .i64 (N:Int))))):=by rw [<-hW8];exact HM7.out
  have HB8:Hid (Below B w w8):=by rw [<-hW8];exact Below.setCell (p:=⟨mb,0,none⟩) HB7.out HM.out.base.1 _
  have HK8:Hid (KeepI w w8):=by rw [<-hW8];exact HK7.out.trans (KeepI.grown (aq w7 _ _) (fun k e=>by cases e;exact ⟨_,HX7.out,fun cur fr=>bu ayn⟩))
  have HO8:Hid (w8.heap[w.heap.size]?=some (.cells #[.int .i64 (f:Int),.int .i64 s] 151 (0,0))):=by
   rw [<-hW8];exact ((aq w7 ⟨mb,0,none⟩ _).block _ (hltq HO7.out) (fun e=>by have h1:=HM.out.lt.1;have h2:w.heap.size=mb:=Option.some.inj e;omega)).trans HO7.out
  clear hW8 hc7 hf7;obtain ⟨sb,rfl⟩:=ku HM8.out.row (Nat.succ_pos N);have hmb8:w8.cell? ⟨mb,0,none⟩=some (.slice (some ⟨sb,0,none⟩) (N+1) c7):=by rw [ae HM8.out.box];rfl
  have hw8:w8.cell? ⟨w.heap.size,0,none⟩=some (.int .i64 (f:Int)):=by rw [ae HO8.out];rfl
  have hfi:(f:Int)<(N:Int)+1:=by omega
  have hf0:(0:Int)<=(f:Int):=by omega
  go_quiet (fail);go_wp2_with fail;generalize hW9:World.drewN w8 _=w9;obtain ⟨x,hx⟩:∃x,(outs++[Sw.no]).getD f Sw.no=x:=⟨_,rfl⟩;obtain ⟨xf,xa,xn,xc,xarcs⟩:=x;have HM9:Hid (Mk w9 B mb mp (M+1) (some ⟨sb,0,none⟩) (N+1) c7 (outs++[Sw.no]) (D.put (keyW (f:Int) s) (.lit (.int .i64 (N:Int))))):=by rw [<-hW9];exact HM8.out.drewN _
  have HXX:=hdq hx;have HXM:Hid ((⟨xf,xa,xn,xc,xarcs⟩:Sw)∈outs++[Sw.no]):=by show _∈_;rw [<-hx];exact pf (by have:=HM9.out.len;omega)
  have HB9:Hid (Below B w w9.drew):=by rw [<-hW9];exact al (below_drewN HB8.out _) ⟨1,rfl⟩
  have HK9:Hid (KeepI w w9.drew):=by rw [<-hW9];exact HK8.out.trans (fun _ _ _ _=>rfl)
  have HO9:Hid (w9.drew.heap[w.heap.size]?=some (.cells #[.int .i64 (f:Int),.int .i64 s] 151 (0,0))):=by rw [<-hW9];exact HO8.out
  have HW9:Hid (w9.drew.cell? ⟨w.heap.size,0,none⟩=some (.int .i64 (f:Int))/\w9.drew.cell? ⟨w.heap.size,1,none⟩=some (.int .i64 s)):=⟨by rw [ae HO9.out];rfl,by rw [ae HO9.out];rfl⟩
  have hx9:w9.drew.cell? ⟨sb,f*2+1,none⟩=some (.slice xa xn xc):=by rw [HM9.out.drew.row.cellAt (f*2+1) (by omega),(iq (by have:=HM9.out.len;omega)).2,HXX.out];rfl
  have HBS9:Hid (B<=w9.drew.heap.size):=Nat.le_trans HBS.out HB9.out.size;have hxa:=awk HST.out (by rw [HLEN.out];have:=HM9.out.len;simpa using this) HFU.out hx
  have HXA:=hdq hxa
  have hxn:xn<=6001:=by
   have h1:=(HM9.out.arcs _ HXM.out).1;rw [fj] at h1;have h2:xarcs.length=xn:=by have h3:xarcs.length*2=xn*2:=h1;omega
   have h4:=nw U (U.getD f []);rw [<-hxa.2] at h4;have h5:xarcs.length<=U.length:=h4;have h6:=HLEN.out;omega
  have HMX:Hid (Tryz.prog.follows .mixedOrders=true):=hmx;clear hW9 hmb8 hw8 hx hxa;refine wp_region_held_drew (S:=(fun W=>W.cell? ⟨w.heap.size,1,none⟩=some (.int .i64 s))) (by kernel_rfl) (by first|((first|exact hw10|exact hwB1|exact HW9.out.2|exact hset10))|((try dsimp only);(first|exact hw10|exact hwB1|exact HW9.out.2|exact hset10))) (fun hHeld=>?_)
  refine wpAnyH_take (i:=0) (v:=?vlb1) rfl (by kernel_rfl) (by kernel_rfl) (by kernel_rfl) (fun _ _ _ h=>h) (Or.inl ⟨by rfl,?hlb1⟩) (by assumption) ?rlb1
  case hlb1=>intro w hSw;(try dsimp only at hSw);go_simp;try with_reducible rfl
  simp only [Act.put,List.getElem_toArray,List.getElem_cons_zero,List.setIfInBounds_toArray,List.set_cons_succ,List.set_cons_zero];refine t_h 1 ?_;refine t_h 2 ?_;refine t_h 3 ?_;refine t_h 5 ?_;refine t_h 6 ?_;refine t_h 7 ?_;refine t_h 8 ?_;refine em 4 9 (fun K hK=>?_) (fun K hK=>?_)
  ·go_simp;refine k_h hK (by (try dsimp only);(first|exact hw10|exact hwB1|exact HW9.out.2|exact hset10)) (fun hHeld=>?_)
   clear hK K;refine r_h 9 (fun K hK=>?_);refine pq (by rfl) (.tmp 56) s (N:Int) (by rfl) (by rfl) ?_
   intro gB wB hgB0 hgB1 hbB;have hgB:w9.drew.grownBy wB none:=⟨hbB.os,hbB.tape,hbB.output,hbB.size,fun k hk _=>hbB.block k hk⟩;have hwB1:wB.cell? ⟨w.heap.size,1,none⟩=some (.int .i64 s):=hgB.cell HW9.out.2 (by simp)
   have hxB:wB.cell? ⟨sb,f*2+1,none⟩=some (.slice xa xn xc):=hgB.cell hx9 (by simp)
   refine k_h hK (by (try dsimp only);(first|exact hw10|exact hwB1|exact HW9.out.2|exact hset10)) (fun hHeld=>?_)
   clear hK K;refine r_h 10 (fun K hK=>?_);refine lk (by rfl) (.tmp 52) (.tmp 57) (by rfl) B (.slice xa xn xc) xn xarcs (by rfl) (((HM9.out.drew.grow hgB).arcs _ HXM.out)) gB (s,(N:Int)) (by rfl) hgB0 hgB1 (xn+1) rfl (by omega) (Nat.le_trans HBS9.out hbB.size) ?_
   intro a10 c10 w10 hown10 hg10 hat10;have hm10:=(HM9.out.drew.grow hgB).arc (f:=f) (y:=(s,(N:Int))) (by omega) HXX.out hown10 hg10 (hat10.elim .inl (fun h=>.inr ⟨_,h,Nat.le_refl _⟩)) ⟨HSW.out,HNW.out⟩
   have hk10:KeepI w w10:=HK9.out.trans ((KeepI.none hgB).trans (KeepI.row hg10 ((HM9.out.drew.grow hgB).arcs _ HXM.out) (by decide)))
   have hb10:Below B w w10:=(HB9.out.trans (hbB.mono HBS9.out)).grown hg10 (Nat.le_trans HBS9.out hbB.size) (fun k e=>(((HM9.out.drew.grow hgB).arcs _ HXM.out).lt k e).1);have hrow10:w10.ownsRow B 58 2 (.slice (some ⟨sb,0,none⟩) (N+1) c7) (N+1) (scells (outs++[Sw.no])):=(HM9.out.drew.grow hgB).row.kept hg10 (fm (HM9.out.drew.grow hgB).row ((HM9.out.drew.grow hgB).arcs _ HXM.out) mh);have hc10:w10.cell? ⟨sb,f*2+1,none⟩=some (.slice xa xn xc):=by rw [hrow10.cellAt (f*2+1) (by omega),(iq (by rw [HM9.out.len];omega)).2,HXX.out];rfl
   have hf10:w10.frozen? ⟨sb,f*2+1,none⟩=false:=hrow10.frozenAt _;have hoB:wB.heap[w.heap.size]?=some (.cells #[.int .i64 (f:Int),.int .i64 s] 151 (0,0)):=(hgB.block _ (hltq HO9.out) (by simp)).trans HO9.out
   have hw10:w10.cell? ⟨w.heap.size,1,none⟩=some (.int .i64 s):=hg10.cell hwB1 (ez ((HM9.out.drew.grow hgB).arcs _ HXM.out) hoB (fun cur=>bu aen));have ho10:w10.heap[w.heap.size]?=some (.cells #[.int .i64 (f:Int),.int .i64 s] 151 (0,0)):=(hg10.block _ (hltq hoB) (ez ((HM9.out.drew.grow hgB).arcs _ HXM.out) hoB (fun cur=>bu aen))).trans hoB;have hset10:(w10.setCell ⟨sb,f*2+1,none⟩ (.slice a10 (xn+1) c10)).cell? ⟨w.heap.size,1,none⟩=some (.int .i64 s):=(aq w10 _ _).cell hw10 (ez hrow10 ho10 (fun cur=>bu alg));refine k_h hK (by (try dsimp only);(first|exact hw10|exact hwB1|exact HW9.out.2|exact hset10)) (fun hHeld=>?_)
   clear hK K;refine t_h 11 ?_;refine t_h 12 ?_;refine r_h 13 (fun K hK=>?_);go_simp;refine k_h hK (by (try dsimp only);(first|exact hw10|exact hwB1|exact HW9.out.2|exact hset10)) (fun hHeld=>?_)
   clear hK K;refine wpAnyH_done (by kernel_rfl) ?_ _
   have HM10:=hdq hm10;have HK10:=hdq hk10;have HB10:=hdq hb10;have HSO10:=hdq (fk hrow10 (g:=sb) rfl);have HSB10:=hdq ((hrow10.lt sb rfl).1);clear hset10 ho10 hoB hm10 hk10 hb10 hrow10 hc10 hf10 hw10 hown10 hg10 hat10 hgB hwB1 hxB hgB0 hgB1 hbB hHeld hx9;go_wp2;go_ret;obtain ⟨e1,e2,e3⟩:=afw HM10.out hMN HST.out HMO.out HLEN.out HFU.out HFW.out HSW.out HQ.out HND.out HUL.out HIN.out HIS.out HXX.out HXA.out;exact ⟨N,rfl,e1,e2,e3,Below.setCell (p:=⟨sb,f*2+1,none⟩) HB10.out HSB10.out _,HK10.out.trans (KeepI.grown (aq w10 ⟨sb,f*2+1,none⟩ _) (fun k e=>by cases e;obtain ⟨cur,hc⟩:=HSO10.out;exact ⟨_,hc,fun cur fr=>bu avc⟩))⟩
  ·refine pq (by rfl) (.tmp 56) s (N:Int) (by rfl) (by rfl) ?_
   intro gB wB hgB0 hgB1 hbB;have hgB:w9.drew.grownBy wB none:=⟨hbB.os,hbB.tape,hbB.output,hbB.size,fun k hk _=>hbB.block k hk⟩;have hwB1:wB.cell? ⟨w.heap.size,1,none⟩=some (.int .i64 s):=hgB.cell HW9.out.2 (by simp)
   have hxB:wB.cell? ⟨sb,f*2+1,none⟩=some (.slice xa xn xc):=hgB.cell hx9 (by simp)
   refine k_h hK (by (try dsimp only);(first|exact hw10|exact hwB1|exact HW9.out.2|exact hset10)) (fun hHeld=>?_)
   clear hK K;refine r_h 4 (fun K hK=>?_);go_simp;refine k_h hK (by (try dsimp only);(first|exact hw10|exact hwB1|exact HW9.out.2|exact hset10)) (fun hHeld=>?_)
   clear hK K;refine r_h 10 (fun K hK=>?_);refine lk (by rfl) (.tmp 52) (.tmp 57) (by rfl) B (.slice xa xn xc) xn xarcs (by rfl) (((HM9.out.drew.grow hgB).arcs _ HXM.out)) gB (s,(N:Int)) (by rfl) hgB0 hgB1 (xn+1) rfl (by omega) (Nat.le_trans HBS9.out hbB.size) ?_
   intro a10 c10 w10 hown10 hg10 hat10;have hm10:=(HM9.out.drew.grow hgB).arc (f:=f) (y:=(s,(N:Int))) (by omega) HXX.out hown10 hg10 (hat10.elim .inl (fun h=>.inr ⟨_,h,Nat.le_refl _⟩)) ⟨HSW.out,HNW.out⟩
   have hk10:KeepI w w10:=HK9.out.trans ((KeepI.none hgB).trans (KeepI.row hg10 ((HM9.out.drew.grow hgB).arcs _ HXM.out) (by decide)))
   have hb10:Below B w w10:=(HB9.out.trans (hbB.mono HBS9.out)).grown hg10 (Nat.le_trans HBS9.out hbB.size) (fun k e=>(((HM9.out.drew.grow hgB).arcs _ HXM.out).lt k e).1);have hrow10:w10.ownsRow B 58 2 (.slice (some ⟨sb,0,none⟩) (N+1) c7) (N+1) (scells (outs++[Sw.no])):=(HM9.out.drew.grow hgB).row.kept hg10 (fm (HM9.out.drew.grow hgB).row ((HM9.out.drew.grow hgB).arcs _ HXM.out) mh);have hc10:w10.cell? ⟨sb,f*2+1,none⟩=some (.slice xa xn xc):=by rw [hrow10.cellAt (f*2+1) (by omega),(iq (by rw [HM9.out.len];omega)).2,HXX.out];rfl
   have hf10:w10.frozen? ⟨sb,f*2+1,none⟩=false:=hrow10.frozenAt _;have hoB:wB.heap[w.heap.size]?=some (.cells #[.int .i64 (f:Int),.int .i64 s] 151 (0,0)):=(hgB.block _ (hltq HO9.out) (by simp)).trans HO9.out
   have hw10:w10.cell? ⟨w.heap.size,1,none⟩=some (.int .i64 s):=hg10.cell hwB1 (ez ((HM9.out.drew.grow hgB).arcs _ HXM.out) hoB (fun cur=>bu aen));have ho10:w10.heap[w.heap.size]?=some (.cells #[.int .i64 (f:Int),.int .i64 s] 151 (0,0)):=(hg10.block _ (hltq hoB) (ez ((HM9.out.drew.grow hgB).arcs _ HXM.out) hoB (fun cur=>bu aen))).trans hoB;have hset10:(w10.setCell ⟨sb,f*2+1,none⟩ (.slice a10 (xn+1) c10)).cell? ⟨w.heap.size,1,none⟩=some (.int .i64 s):=(aq w10 _ _).cell hw10 (ez hrow10 ho10 (fun cur=>bu alg));refine k_h hK (by (try dsimp only);(first|exact hw10|exact hwB1|exact HW9.out.2|exact hset10)) (fun hHeld=>?_)
   clear hK K;refine t_h 11 ?_;refine t_h 12 ?_;refine r_h 13 (fun K hK=>?_);go_simp;refine k_h hK (by (try dsimp only);(first|exact hw10|exact hwB1|exact HW9.out.2|exact hset10)) (fun hHeld=>?_)
   clear hK K;refine wpAnyH_done (by kernel_rfl) ?_ _
   have HM10:=hdq hm10;have HK10:=hdq hk10;have HB10:=hdq hb10;have HSO10:=hdq (fk hrow10 (g:=sb) rfl);have HSB10:=hdq ((hrow10.lt sb rfl).1);clear hset10 ho10 hoB hm10 hk10 hb10 hrow10 hc10 hf10 hw10 hown10 hg10 hat10 hgB hwB1 hxB hgB0 hgB1 hbB hHeld hx9;go_wp2;go_ret;obtain ⟨e1,e2,e3⟩:=afw HM10.out hMN HST.out HMO.out HLEN.out HFU.out HFW.out HSW.out HQ.out HND.out HUL.out HIN.out HIS.out HXX.out HXA.out;exact ⟨N,rfl,e1,e2,e3,Below.setCell (p:=⟨sb,f*2+1,none⟩) HB10.out HSB10.out _,HK10.out.trans (KeepI.grown (aq w10 ⟨sb,f*2+1,none⟩ _) (fun k e=>by cases e;obtain ⟨cur,hc⟩:=HSO10.out;exact ⟨_,hc,fun cur fr=>bu avc⟩))⟩


end
section
open Go.RowKit Go.Maps Tri

theorem avd:(3:TypeId)≠58:=by decide
theorem ayo:(3:TypeId)≠95:=by decide
theorem ayp:(3:TypeId)≠148:=by decide
theorem uc {w w':World} (h:w.grownBy w' none):Below w.heap.size w w':=⟨h.os,h.tape,h.output,h.size,fun k hk=>h.block k hk (by simp)⟩
theorem atb:(madeCells (Value.agg #[.bool false,.slice none 0 0]).cells (1*2)).toList=scells [Sw.no]:=by kernel_rfl
theorem aos (n:Nat):(madeCells (Value.int .i64 0).cells (n*1)).toList=(List.replicate n (0:Int)).map (Value.int .i64):=by
 rw [Nat.mul_one,List.map_replicate];exact toList_madeCells_one (.int .i64 0) n
theorem acx (w:World) (A B:Obj):w.heap.size<=((w.alloc A).alloc B).heap.size:=by rw [World.size_alloc,World.size_alloc];omega
theorem Mk.start {w:World} {B g:Nat} (hB:B<=w.heap.size) (hown:w.ownsRow B 58 2 (.slice (some ⟨g,0,none⟩) 1 1) 1 (scells [Sw.no])) :
 Mk ((w.alloc (.map #[] 0)).alloc (.cells #[.slice (some ⟨g,0,none⟩) 1 1,.map (some w.heap.size)] 148)) B (w.heap.size+1) w.heap.size 0 (some ⟨g,0,none⟩) 1 1 [Sw.no] (.map []):=by
 have hz:=World.size_alloc w (.map #[] 0);refine ⟨⟨by omega,hB⟩,?_,(World.ownsMap_made _ _ _ _).alloc _,(hown.alloc _).alloc _,?_,?_,List.pairwise_singleton _ _⟩
 ·rw [<-hz];exact han _ _
 ·intro x hx;rw [msg hx];exact World.ownsRow_nil _ _ _ _
 ·intro x hx;rw [msg hx];intro y hy;cases hy
theorem MkAt.start {w:World} {B mb mp:Nat} {sa:Option Addr} (h:Mk w B mb mp 0 sa 1 1 [Sw.no] (.map [])):MkAt w B mb mp [[]] :=
 ⟨0,sa,1,1,[Sw.no],.map [],h,by omega,by rw [alc];rfl,aig (fun f s=>aij f s),rfl⟩
theorem MkAt.grow {w w':World} {B mb mp:Nat} {U:List (List Int)} (h:MkAt w B mb mp U) (hg:w.grownBy w' none):MkAt w' B mb mp U:=by
 obtain ⟨M,sa,N,c,outs,D,h1,h2⟩:=h;exact ⟨M,sa,N,c,outs,D,h1.grow hg,h2⟩
theorem MkAt.drew {w:World} {B mb mp:Nat} {U:List (List Int)} (h:MkAt w B mb mp U):MkAt w.drew B mb mp U:=by
 obtain ⟨M,sa,N,c,outs,D,h1,h2⟩:=h;exact ⟨M,sa,N,c,outs,D,h1.drew,h2⟩
theorem Mk.setInt {w:World} {B B' mb mp M N c pb i n n':Nat} {sa:Option Addr} {outs:List Sw} {D:DataW Unit} {l:List Value} {v:Value} (h:Mk w B mb mp M sa N c outs D) (ho:w.ownsRow B' 3 1 (.slice (some ⟨pb,0,none⟩) n n') n l):Mk (w.setCell ⟨pb,i,none⟩ v) B mb mp M sa N c outs D:=by
 obtain ⟨cur,hc⟩:=fk ho (g:=pb) rfl;obtain ⟨es,clock,hb⟩:=h.mapObj;refine h.kept (aq w ⟨pb,i,none⟩ v) ?_ ?_ (ee h.row hc (fun cur=>bu avd)) (fun x hx=>ee (h.arcs x hx) hc (fun cur=>bu ayo))
 ·intro e;have e':mb=pb:=Option.some.inj e;rw [<-e',h.box] at hc;simp only [sij,Obj.cells.injEq] at hc;exact ayp hc.2.1.symm
 ·intro e;have e':mp=pb:=Option.some.inj e;rw [<-e',hb] at hc;cases hc
theorem MkAt.setInt {w:World} {B B' mb mp pb i n n':Nat} {U:List (List Int)} {l:List Value} {v:Value} (h:MkAt w B mb mp U) (ho:w.ownsRow B' 3 1 (.slice (some ⟨pb,0,none⟩) n n') n l):MkAt (w.setCell ⟨pb,i,none⟩ v) B mb mp U:=by
 obtain ⟨M,sa,N,c,outs,D,h1,h2⟩:=h;exact ⟨M,sa,N,c,outs,D,h1.setInt ho,h2⟩
theorem abq {w:World} {B pb n i L:Nat} {ps:List Int} (h:w.ownsRow B 3 1 (.slice (some ⟨pb,0,none⟩) n n) n (ps.map (Value.int .i64))) (hl:ps.length=L) (hL:L=n) (hi:i<n):w.cell? ⟨pb,i,none⟩=some (.int .i64 (ps.getD i 0)):=by
 rw [h.cellAt i (by omega)]
 have:i<ps.length:=by omega
 simp [this]
def MakeAt (v1 w:World) (B mb mp pb n:Nat) (ws:List (List Int)) (p i:Nat):Prop :=
 ∃ps:List Int,MkAt w B mb mp (soFar ws p i)/\PlOk ws (soFar ws p i) ps p i/\w.ownsRow B 3 1 (.slice (some ⟨pb,0,none⟩) n n) n (ps.map (Value.int .i64))/\Below B v1 w
theorem MakeAt.turn {v1 w:World} {B mb mp pb n p:Nat} {ws:List (List Int)} (hn:ws.length=n) (h:MakeAt v1 w B mb mp pb n ws p n):MakeAt v1 w B mb mp pb n ws (p+1) 0:=by
 obtain ⟨ps,h1,h2,h3,h4⟩:=h;subst hn;rw [aoc] at h1 h2;exact ⟨ps,h1,aom h2,h3,h4⟩
theorem MakeAt.pass {v1 w w':World} {B mb mp pb n p i:Nat} {ws:List (List Int)} {x:List Int} (hi:i<ws.length) (hx:ws.getD i []=x) (hp:¬p<x.length) (hw:w'=w) (h:MakeAt v1 w B mb mp pb n ws p i):MakeAt v1 w' B mb mp pb n ws p (i+1):=by
 obtain ⟨ps,h1,h2,h3,h4⟩:=h;subst hw;have e:=ala hi hx hp;refine ⟨ps,?_,?_,h3,h4⟩
 ·rw [e];exact h1
 ·rw [e];exact aon h2 (by rw [hx];exact hp)
theorem aot {v1 w6:World} {B mb mp pb n p i k:Nat} {ws:List (List Int)} {ps:List Int} {z:List Int} (hr:Rise ws) (hi:i<ws.length) (hx:ws.getD i []=z) (hp:p<z.length)
 (hm:MkAt w6 B mb mp (more (soFar ws p i) (z.take (p+1)))) (hk:k<(more (soFar ws p i) (z.take (p+1))).length) (hq:(more (soFar ws p i) (z.take (p+1))).getD k []=z.take (p+1)) (hpl:PlOk ws (soFar ws p i) ps p i)
 (hown:w6.ownsRow B 3 1 (.slice (some ⟨pb,0,none⟩) n n) n (ps.map (Value.int .i64))) (hb:Below B v1 w6) :
 MakeAt v1 (w6.setCell ⟨pb,i,none⟩ (.int .i64 (k:Int))) B mb mp pb n ws p (i+1):=by
 have e:soFar ws p (i+1)=more (soFar ws p i) (z.take (p+1)):=alb hr hi hx hp
 have e2:∃V,more (soFar ws p i) (z.take (p+1))=soFar ws p i++V:=by
  unfold more;split
  ·exact ⟨[],by simp⟩
  ·exact ⟨_,rfl⟩
 obtain ⟨V,hV⟩:=e2;refine ⟨ps.set i (k:Int),?_,?_,?_,Below.setCell (p:=⟨pb,i,none⟩) hb (hown.lt pb rfl).1 _⟩
 ·rw [e];exact hm.setInt hown
 ·rw [e,hV];rw [hV] at hk hq;exact aoo hpl hi hk (by rw [hx];exact hq)
 ·have h1:=(hown.stored i (.int .i64 (k:Int))).1;rw [List.map_set];exact h1
def FinAt (v1 w:World) (B mb mp pb n:Nat) (ws:List (List Int)) (ps:List Int) (j:Nat):Prop :=
 ∃M sa N c outs D,Mk w B mb mp M sa N c outs D/\sts outs=fins (begs ws) ws j/\w.ownsRow B 3 1 (.slice (some ⟨pb,0,none⟩) n n) n (ps.map (Value.int .i64))/\Below B v1 w
theorem FinAt.start {v1 w:World} {B mb mp pb n:Nat} {ws:List (List Int)} (h:MakeAt v1 w B mb mp pb n ws 20 0):∃ps,PlOk ws (begs ws) ps 20 0/\FinAt v1 w B mb mp pb n ws ps 0:=by
 obtain ⟨ps,⟨M,sa,N,c,outs,D,h1,_,h3,_,_⟩,h2,h4,h5⟩:=h;rw [aod] at h2 h3;exact ⟨ps,h2,M,sa,N,c,outs,D,h1,by rw [h3,aoi _ ws],h4,h5⟩
theorem FinAt.step {v1 w:World} {B mb mp pb n M N c sb k j:Nat} {ws:List (List Int)} {ps:List Int} {outs:List Sw} {D:DataW Unit} (hm:Mk w B mb mp M (some ⟨sb,0,none⟩) N c outs D) (hst:sts outs=fins (begs ws) ws j) (hpl:w.ownsRow B 3 1 (.slice (some ⟨pb,0,none⟩) n n) n (ps.map (Value.int .i64))) (hb:Below B v1 w)
 (hk:k<N) (hj:j<ws.length) (hkb:k<(begs ws).length) (hq:(begs ws).getD k []=ws.getD j []):FinAt v1 (w.setCell ⟨sb,k*2,none⟩ (.bool true)) B mb mp pb n ws ps (j+1):=by
 obtain ⟨scur,hso⟩:=fk hm.row (g:=sb) rfl;refine ⟨M,_,N,c,_,D,hm.final hk rfl,?_,hpl.kept (aq w ⟨sb,k*2,none⟩ _) (ee hpl hso (fun cur=>bu (avd.symm))),Below.setCell (p:=⟨sb,k*2,none⟩) hb ((hm.row.lt sb rfl).1) _⟩;rw [ajj,hst,aoh (qt ws) hj hkb hq];have h1:=eu outs k;rw [hst] at h1;rw [h1];rfl

theorem afz (a:Option Addr) (n cap:Nat) (xs:List Wd) (g:List St × Int) (w:World) (hs:Ws w a n cap xs) (_hnil:a=none->cap=0) (hg:made (nums xs)=g) :
 Calls Tryz.prog 65 #[.slice a n cap] w fun e w'=>MadeIs w w' e g:=by
 have hnc:=hs.2.1;have hcm:=hs.2.2.1;unfold maxLen at hcm;have HS:=hdq hs;have HG:=hdq hg;have HXL:Hid ((nums xs).length=n):=by show _=_;rw [bq,hs.1]
 obtain ⟨⟨bs,er⟩,hp⟩:∃p,Wl.write (nums xs)=p:=⟨_,rfl⟩;have HP:=hdq hp;have HMX:Hid (Tryz.prog.follows .mixedOrders=true):=by show _=_;kernel_rfl
 have hmm:=@run_makeMap Tryz.prog;clear hs hg hp;go_enter Tryz.func65,Tryz.ntmps65;go_wp2_with fail;refine (acw a n cap xs _ w HS.out HP.out).mono ?_;rintro e v1 ⟨pa0,pc0,rfl,-,-,hb1⟩;have HB1:Hid (Below w.heap.size w v1):=hb1;obtain ⟨bl,hbl⟩:∃m,bs.length=m:=⟨_,rfl⟩;simp only [hbl];clear hb1 hbl;by_cases her:er=0
 ·subst her;have hwe:=Wl.ny (nums xs);rw [HP.out] at hwe
  have hw3:(nums xs).length<=300/\(∀z∈nums xs,Wl.fit z=true)/\Rise (nums xs):=by
   rcases hwe with ⟨_,h1,h2,h3,_⟩|⟨h,_⟩
   ·exact ⟨h1,h2,h3⟩
   ·simp at h
  have HRISE:=hdq hw3.2.2;have hn300:n<=300:=by rw [<-HXL.out];exact hw3.1
  have HGM:Hid ((make (nums xs),(0:Int))=g):=by
   show _=_;rw [<-HG.out];unfold made;rw [HP.out];simp
  have HSHORT:Hid (Tri.Short (nums xs)):=fun z hz=>(Wl.fit_parts (hw3.2.1 z hz)).2.1;have HGOOD:Hid (∀z∈nums xs,Utf.allGood z=true):=fun z hz=>(Wl.fit_parts (hw3.2.1 z hz)).2.2.1;clear hwe hw3;obtain ⟨is,his,hs0,hs1,hs2⟩:=info_parts zj;obtain ⟨ii,hii,hi0,hi1,hi2⟩:=info_parts fq
  go_wp2_with (first
   | (at_make
      refine wpList_make_full _ (by rfl) _ _ 22 (by rfl) v1.heap.size 58 is _ 2 Tryz.underlying22 his hs0 hs1 .i64 .i64 1 1 1 (by rfl) (by rfl) rfl rfl (by rw [hs2];omega) (by unfold maxLen;omega) lrf ?_
      intro w2 hown2 hg2;have HO2:Hid (w2.ownsRow v1.heap.size 58 2 (.slice (some ⟨v1.heap.size,0,none⟩) 1 1) 1 (scells [Sw.no])):=by show World.ownsRow _ _ _ _ _ _ _;rw [<-atb];exact hown2
      have HG2:=hdq hg2;have HM3:=hdq (Mk.start hg2.size HO2.out)
      clear hown2 hg2)
   | (at_make
      refine wpList_make_full _ (by rfl) _ _ 51 (by rfl) v1.heap.size 3 ii _ 1 Tryz.underlying51 hii hi0 hi1 .i64 .i64 (n:Int) (n:Int) n (by rfl) (by rfl) rfl rfl (by rw [hi2];omega) (by unfold maxLen;omega) (Nat.le_trans HG2.out.size (acx _ _ _)) ?_
      intro w4 hown4 hg4;rw [aos] at hown4;have HO4:=hdq hown4;have HG4:=hdq hg4
      clear hown4 hg4))
  have HB4:Hid (Below v1.heap.size v1 w4):=((uc HG2.out).alloc HG2.out.size _ |>.alloc (by rw [World.size_alloc];have:=HG2.out.size;omega) _).trans ((uc HG4.out).mono (Nat.le_trans HG2.out.size (acx _ _ _)))
  have HMA:Hid (MakeAt v1 w4 v1.heap.size (w2.heap.size+1) w2.heap.size (w2.heap.size+1+1) n (nums xs) 0 0):=⟨List.replicate n 0,by rw [wh];exact (MkAt.start HM3.out).grow HG4.out,by rw [wh,<-HXL.out];exact ald _,by have h:=HO4.out;simpa [World.size_alloc] using h,HB4.out⟩
  clear HO2 HG2 HM3 HO4 HG4 HB4;generalize w2.heap.size+1+1=pb at *;generalize w2.heap.size+1=mb at *;generalize w2.heap.size=mp at *;go_loopw [27] (fun ix wr=>∃p:Nat,p<=20/\ix=.int .i64 (p:Int)/\Hid (MakeAt v1 wr v1.heap.size mb mp pb n (nums xs) p 0)) (fun ix _=>20-(intOf ix).toNat)
  case atStart=>exact ⟨0,by omega,rfl,HMA.out⟩
  case round =>
   obtain ⟨p,hp,rfl,HMP⟩:=hrel;by_cases hlp:p<20
   ·have hlpi:(p:Int)<20:=by omega
    go_wp2;generalize wr=wo at *;go_loopw [32] (fun ix wr=>∃i:Nat,i<=n/\ix=.int .i64 (i:Int)/\Hid (MakeAt v1 wr v1.heap.size mb mp pb n (nums xs) p i)) (fun ix _=>n-(intOf ix).toNat)
    case atStart=>exact ⟨0,by omega,rfl,HMP.out⟩
    case round =>
     obtain ⟨i,hi,rfl,HMI⟩:=hrel;by_cases hlt:i<n
     ·have hbv:Below v1.heap.size v1 wr:=by obtain ⟨_,_,_,_,h⟩:=HMI.out;exact h
      have hbw:Below w.heap.size w wr:=HB1.out.trans (hbv.mono HB1.out.size);obtain ⟨b1,o1,za,zn,zc,zz,rfl,hb1,hgd,hcl,hsl,hz⟩:=HS.out.one i hlt;have hcl':wr.cell? ⟨b1,o1+i,none⟩=some (.slice za zn zc):=by rw [hbw.cell (p:=⟨b1,o1+i,none⟩) hb1];exact hcl
      have HZW:=hdq hz;have HZL:=hdq hsl.1;have HSL:=hdq hsl;have HBW:=hdq hbw;have hzcm:=hsl.2.2.1;have hznc:=hsl.2.1;unfold maxLen at hzcm;have hlti:(i:Int)<(n:Int):=by omega
      clear hbv hbw hgd hcl hsl hz hb1;by_cases hpz:p<zn
      ·have hpzi:(p:Int)<(zn:Int):=by omega
       obtain ⟨ps,hmk,hplo,hpl,hbv⟩:=HMI.out;obtain ⟨k0,hk0,hps,hkq⟩:=awj hplo (show i<(nums xs).length by rw [HXL.out];exact hlt)
       rw [HZW.out] at hkq;obtain ⟨zb,zo,rfl,hzb,hzc⟩:=HSL.out.at (by omega)
       obtain ⟨sg,hsg⟩:∃z,zz.getD p 0=z:=⟨_,rfl⟩;have hpl':p<zz.length:=by rw [HZL.out];exact hpz
       have hzp:wr.cell? ⟨zb,zo+p,none⟩=some (.int .i64 sg):=by rw [HBW.out.cell (p:=⟨zb,zo+p,none⟩) hzb,hzc p hpz,hsg]
       have hp5:wr.cell? ⟨pb,i,none⟩=some (.int .i64 (k0:Int)):=by rw [abq hpl hplo.1 HXL.out hlt,hps]
       have HMK5:Hid (MkAt wr.drew v1.heap.size mb mp (soFar (nums xs) p i)):=hmk.drew;have HBS5:Hid (v1.heap.size<=wr.drew.heap.size):=hbv.size;have HLE:Hid ((soFar (nums xs) p i).length<=6001):=ast hlp (by rw [HXL.out];exact hn300)
       have HK0:=hdq hk0;have HSGW:Hid ((Lit.int .i64 sg).wf=true):=HSL.out.2.2.2.1 sg (by rw [<-hsg,gdq,geg hpl',Option.getD_some];exact List.getElem_mem _)
       have HQQ:Hid (zz.take (p+1)=(soFar (nums xs) p i).getD k0 []++[sg]):=by show _=_;rw [hkq,<-hsg];exact aop hpl'
       have HQL:Hid (∀u∈soFar (nums xs) p i,u.length<=(zz.take (p+1)).length):=fun u hu=>by
        have h1:=aoe hu;rw [List.length_take];omega
       have HPL5:Hid (wr.drew.ownsRow v1.heap.size 3 1 (.slice (some ⟨pb,0,none⟩) n n) n (ps.map (Value.int .i64))):=hpl;have HPLO:=hdq hplo;have HZV:Hid (zb<v1.heap.size):=Nat.lt_of_lt_of_le hzb HB1.out.size;have HZ5:Hid (wr.drew.cell? ⟨zb,zo+p,none⟩=some (.int .i64 sg)):=hzp;have HBV5:Hid (Below v1.heap.size v1 wr.drew):=al hbv ⟨1,rfl⟩;have hii0:(0:Int)<=(i:Int):=by omega
       have hpp0:(0:Int)<=(p:Int):=by omega
       have hmx:=HMX.out;clear hmk hplo hpl hbv hk0 hps hkq hzb hzc hsg hpl' hmm;go_wp2_with fail;refine wp_region_held_drew (S:=(fun W=>W.cell? ⟨zb,zo+p,none⟩=some (.int .i64 sg))) (by kernel_rfl) (by first|((first|exact hz7|exact hz6|exact HZ5.out))|((try dsimp only);(first|exact hz7|exact hz6|exact HZ5.out))) (fun hHeld=>?_)
       refine wpAnyH_take (i:=0) (v:=?vlc1) rfl (by kernel_rfl) (by kernel_rfl) (by kernel_rfl) (fun _ _ _ h=>h) (Or.inl ⟨by rfl,?hlc1⟩) (by assumption) ?rlc1
       case hlc1=>intro w hSw;(try dsimp only at hSw);go_simp;try with_reducible rfl
       simp only [Act.put,List.getElem_toArray,List.getElem_cons_zero,List.setIfInBounds_toArray,List.set_cons_succ,List.set_cons_zero];refine t_h 1 ?_;refine t_h 2 ?_;refine t_h 3 ?_;refine t_h 4 ?_;refine t_h 6 ?_;refine t_h 7 ?_;refine t_h 8 ?_;refine t_h 9 ?_;refine r_h 5 (fun K hK=>?_);go_simp;refine k_h hK (by (try dsimp only);(first|exact hz7|exact hz6|exact HZ5.out)) (fun hHeld=>?_)
       clear hK K;refine t_h 10 ?_;refine r_h 11 (fun K hK=>?_);go_simp;refine (awl v1.heap.size mb mp k0 (soFar (nums xs) p i) sg (zz.take (p+1)) wr.drew HMK5.out HBS5.out HLE.out HK0.out HSGW.out HQQ.out (aie _ _ _) HQL.out).mono ?_;rintro e w6 ⟨k,rfl,hmk6,hk6,hkq6,hb6,hki6⟩;have hpl6:=hki6.owns HPL5.out;have hc6:w6.cell? ⟨pb,i,none⟩=some (.int .i64 (ps.getD i 0)):=abq hpl6 HPLO.out.1 HXL.out hlt;have hf6:w6.frozen? ⟨pb,i,none⟩=false:=hpl6.frozenAt _;have hz6:w6.cell? ⟨zb,zo+p,none⟩=some (.int .i64 sg):=by rw [hb6.cell (p:=⟨zb,zo+p,none⟩) HZV.out];exact HZ5.out
       have hz7:(w6.setCell ⟨pb,i,none⟩ (.int .i64 (k:Int))).cell? ⟨zb,zo+p,none⟩=some (.int .i64 sg):=(aq w6 ⟨pb,i,none⟩ _).cell hz6 (fun e=>by have h1:=(hpl6.lt pb rfl).1;have h2:=HZV.out;have h3:zb=pb:=Option.some.inj e;omega)
       refine k_h hK (by (try dsimp only);(first|exact hz7|exact hz6|exact HZ5.out)) (fun hHeld=>?_)
       clear hK K;refine t_h 12 ?_;refine r_h 13 (fun K hK=>?_);go_simp;refine k_h hK (by (try dsimp only);(first|exact hz7|exact hz6|exact HZ5.out)) (fun hHeld=>?_)
       clear hK K;refine wpAnyH_done (by kernel_rfl) ?_ _
       have HMK6:=hdq hmk6;have HK6:=hdq hk6;have HKQ6:=hdq hkq6;have HB6:=hdq hb6;have HPL6:=hdq hpl6;clear hmk6 hk6 hkq6 hb6 hki6 hpl6 hc6 hf6 hz6 hz7 hHeld hp5;go_wp2;go_roundw
       case rel=>exact ⟨i+1,by omega,by go_num,aot HRISE.out (by rw [HXL.out];exact hlt) HZW.out (by rw [HZL.out];exact hpz) HMK6.out HK6.out HKQ6.out HPLO.out HPL6.out (HBV5.out.trans (HB6.out.mono lrf))⟩
       case measure=>simp [intOf];omega
      ·have hpzi:¬(p:Int)<(zn:Int):=by omega
       go_wp2;go_roundw
       case rel=>exact ⟨i+1,by omega,by go_num,HMI.out.pass (by rw [HXL.out];exact hlt) HZW.out (by rw [HZL.out];exact hpz) rfl⟩
       case measure=>simp [intOf];omega
     ·obtain rfl:i=n:=by omega
      go_wp2;go_roundw
      case rel=>exact ⟨p+1,by omega,by go_num,HMI.out.turn HXL.out⟩
      case measure=>simp [intOf];omega
   ·obtain rfl:p=20:=by omega
    obtain ⟨ps,hpl,hfin⟩:=FinAt.start HMP.out;have HPE:=hdq hpl;have HFI:=hdq hfin;clear hpl hfin HMP;go_wp2;go_loopw [58] (fun ix wr=>∃j:Nat,j<=n/\ix=.int .i64 (j:Int)/\Hid (FinAt v1 wr v1.heap.size mb mp pb n (nums xs) ps j)) (fun ix _=>n-(intOf ix).toNat)
    case atStart=>exact ⟨0,by omega,rfl,HFI.out⟩
    case round =>
     obtain ⟨j,hj,rfl,HFJ⟩:=hrel;obtain ⟨M,sa,N,c,outs,D,hmk,hst,hpl,hbl⟩:=HFJ.out;have hNB:N=(begs (nums xs)).length:=by rw [<-hmk.len,<-ar,hst,ld]
     have hN0:=kp (nums xs);obtain ⟨sb,rfl⟩:=ku hmk.row (by omega)
     have hmb0:wr.cell? ⟨mb,0,none⟩=some (.slice (some ⟨sb,0,none⟩) N c):=by rw [ae hmk.box];rfl
     by_cases hlt:j<n
     ·have hjl:j<(nums xs).length:=by rw [HXL.out];exact hlt
      obtain ⟨k,hk,hps,hkq⟩:=asv HPE.out HSHORT.out hjl;have hpc:wr.cell? ⟨pb,j,none⟩=some (.int .i64 (k:Int)):=by rw [abq hpl HPE.out.1 HXL.out hlt,hps]
      have hkN:k<N:=by omega
      have hsc:wr.cell? ⟨sb,k*2,none⟩=some (outs.getD k Sw.no).f:=by rw [hmk.row.cellAt (k*2) (by omega),(iq (by rw [hmk.len];exact hkN)).1]
      have hsf:wr.frozen? ⟨sb,k*2,none⟩=false:=hmk.row.frozenAt _;have HEND:Hid (FinAt v1 (wr.setCell ⟨sb,k*2,none⟩ (.bool true)) v1.heap.size mb mp pb n (nums xs) ps (j+1)):=FinAt.step hmk hst hpl hbl hkN hjl (by omega) hkq
      have hkNi:(k:Int)<(N:Int):=by omega
      have hk0i:(0:Int)<=(k:Int):=by omega
      have hlti:(j:Int)<(n:Int):=by omega
      clear hmk hst hpl hbl hk hps hkq hNB hN0 HFJ;go_wp2;go_roundw
      case rel=>exact ⟨j+1,by omega,by go_num,HEND.out⟩
      case measure=>simp [intOf];omega
     ·obtain rfl:j=n:=by omega
      have HMK:=hdq hmk;have HBL:=hdq hbl;have HSTM:Hid (sts outs=make (nums xs)):=by show _=_;rw [hst,<-HXL.out];exact aof _
      clear hmk hst hpl hbl hNB hN0 HFJ;go_wp2;go_ret2;exact ⟨some ⟨sb,0,none⟩,N,c,outs,by rw [<-HGM.out];rfl,HMK.out.states,by rw [HSTM.out,<-HGM.out],fun h=>by simp at h,HB1.out.trans (HBL.out.mono HB1.out.size)⟩
 ·have hne:(er != 0)=true:=by simpa using her
  have hgg:g=([],er):=by rw [<-HG.out];unfold made;rw [HP.out];simp [her]
  subst hgg;clear her;go_wp2;go_ret2;exact ⟨none,0,0,[],rfl,Ss.nil,rfl,fun _=>rfl,HB1.out⟩

end
#print axioms Go.Proofs.YtkiamgcpcneggaaGreat.afz
end Go.Proofs.YtkiamgcpcneggaaGreat
