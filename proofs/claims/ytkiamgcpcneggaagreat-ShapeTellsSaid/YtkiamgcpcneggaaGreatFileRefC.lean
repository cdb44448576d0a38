import Derived.Test.YtkiamgcpcneggaaGreatPackR
import Derived.Test.YtkiamgcpcneggaaGreatPackAX
set_option linter.all false
set_option maxRecDepth 100000
set_option maxHeartbeats 12800000
namespace Go.Proofs.YtkiamgcpcneggaaGreat
open Go.RowKit

@[go_sem high] theorem ary {P:Program} (w:World) (ts:Array TypeId) (ty:TypeId) (k:IntKind) (x y z u:Int) :
 (Builtin.max_ ts ty #[.int k x,.int k y,.int k z,.int k u]).run P w=.ok (.int k (max (max (max x y) z) u)) w:=by
 have e:∀x y:Int,(if y>x then y else x)=max x y:=by
  intro x y;rw [Int.max_def];split<;>split<;>omega
 simp [Builtin.max_,Builtin.max2,e]
theorem yT {B:Nat} {w w1:World} (h:Below B w w1):Below B w w1.drew:=⟨h.os,h.tape,h.output,h.size,h.block⟩

theorem YH (c:Cw) (r:Bool) (w:World) (hc:c.Good w) (hn:c.n<=20000) (hr:File.check c.c=r) :
 Calls Tryz.prog 33 #[c.v] w fun e w'=>e=.returned (.bool r)/\Below w.heap.size w w':=by
 obtain ⟨d1,hd1⟩:∃d,(c.base.all fun x=>decide (x<18446744073709551615))=d:=⟨_,rfl⟩;obtain ⟨d3,hd3⟩:∃d,(aA c.xs).all Spec.fit=d:=⟨_,rfl⟩;obtain ⟨d4,hd4⟩:∃d,decide (nrm (aA c.xs)=aA c.xs)=d:=⟨_,rfl⟩;have hl:(aA c.xs).length=c.n:=by rw [gP,hc.1.1]
 have hr':(d1&&decide (c.n<=200)&&d3&&d4)=r:=by
  rw [<-hr];unfold File.check;show _=((c.base.all fun x=>decide (x<18446744073709551615))&&decide ((aA c.xs).length<=200)&&(aA c.xs).all Spec.fit&&decide (nrm (aA c.xs)=aA c.xs));rw [hd1,hd3,hd4,hl]
 have hcm:=hc.1.2.1;have hcm2:=hc.1.2.2.1;unfold maxLen at hcm2;obtain ⟨m,l,o,t,a,n,cap,xs⟩:=c
 have ara:decide (max m (max l (max o t))<18446744073709551615)=d1:=by
  rw [<-hd1,Bool.eq_iff_iff];simp only [Cw.base,List.all_cons,List.all_nil,Bool.and_true,Bool.and_eq_true,decide_eq_true_eq];omega
 have HD3:=hdq hd3;have HD4:=hdq hd4;have HR:=hdq hr';have HS:=hdq hc.1;have uW:=hdq hc.1.1;clear hd1 hd3 hd4 hr' hr hl hc;simp only [Cw.v,Cw.cells] at *;have HB0:∀ob,Hid (Below w.heap.size w (w.alloc ob)):=fun ob=>(Below.refl _ w).alloc lrf ob;have Ak:∀ob,Hid ((w.alloc ob).heap[w.heap.size]?=some ob):=fun ob=>han w ob;go_enter Tryz.func33,Tryz.ntmps33;go_wp2;go_loopw [3] (fun ix wr=>∃j:Nat,j<=n/\ix=.int .i64 (j:Int)/\Hid (((aA xs).take j).all Spec.fit=true)/\Hid (wr.heap[w.heap.size]?=some (.cells #[Value.int .u64 m,Value.int .u64 l,Value.int .u64 o,Value.int .u64 t,Value.slice a n cap] 26 (0,0)))/\Hid (Below w.heap.size w wr)) (fun ix _=>n-(intOf ix).toNat)
 case atStart=>exact ⟨0,Nat.zero_le _,rfl,by first|rfl|trivial,(Ak _).out,(HB0 _).out⟩
 case round =>
  obtain ⟨j,hj,rfl,iT,pM,bE⟩:=hrel;have hk4:wr.cell? ⟨w.heap.size,4,none⟩=some (.slice a n cap):=by simp [World.cell?,pM.out]
  by_cases hlt:j<n
  ·obtain ⟨b1,o1,la,ln,lc,LL,ra,rn,rc,RR,C,rfl,hb1,hx1,hx2,hx3,hsl,gI,hC0,uX,hz1⟩:=HS.out.one j hlt;have hB:=bE.out;have Bz:wr.cell? ⟨b1,o1+j*3,none⟩=some (.slice la ln lc):=by rw [hB.cell (p:=⟨b1,o1+j*3,none⟩) hb1];exact hx1
   have uS:wr.cell? ⟨b1,o1+j*3+1,none⟩=some (.slice ra rn rc):=by rw [hB.cell (p:=⟨b1,o1+j*3+1,none⟩) hb1];exact hx2
   have BB:wr.cell? ⟨b1,o1+j*3+2,none⟩=some (.int .u64 C):=by rw [hB.cell (p:=⟨b1,o1+j*3+2,none⟩) hb1];exact hx3
   have fF:Hid ((⟨la,ln,lc,LL,ra,rn,rc,RR,C⟩:Rw).Good wr):=Rw.Good.below (w:=w) ⟨hsl,gI,hC0,uX⟩ hB lrf;have HT:Hid ((aA xs).take (j+1)=(aA xs).take j++[⟨LL,RR,C⟩]):=Vr (by rw [uW.out];exact hlt) (by rw [hz1];rfl);have bB:(j:Int)<(n:Int):=omg;obtain ⟨q,hq⟩:∃b,Spec.fit ⟨LL,RR,C⟩=b:=⟨_,rfl⟩;have HQ:=hdq hq;clear hsl gI hz1 hq hx1 hx2 hx3 hB;go_wp2_with fail;refine (afM ⟨la,ln,lc,LL,ra,rn,rc,RR,C⟩ q _ fF.out HQ.out).mono ?_;rintro e w1 ⟨rfl,qm⟩;have HB1:Hid (Below w.heap.size w w1):=bE.out.trans (qm.mono bE.out.size);have arb:=hdq ((qm.block _ (hltq pM.out)).trans pM.out);clear qm hk4;cases q
   ·obtain rfl:r=false:=by
     have:d3=false:=by
      rw [<-HD3.out,List.all_eq_false];refine ⟨⟨LL,RR,C⟩,?_,by rw [HQ.out];decide⟩;have:(⟨LL,RR,C⟩:aj)∈(aA xs).take (j+1):=by rw [HT.out];simp
      exact List.mem_of_mem_take this
     rw [<-HR.out,this];simp
    go_wp2;go_ret;exact ⟨rfl,HB1.out⟩
   ·go_wp2;go_roundw
    case rel =>
     refine ⟨j+1,by omega,by go_num,?_,arb.out,HB1.out⟩;show _=_;rw [HT.out,List.all_append,iT.out];simp [HQ.out]
    case measure=>simp [intOf];omega
  ·obtain rfl:n=j:=omg
   obtain rfl:d3=true:=by
    rw [<-HD3.out,<-iT.out,tol (by rw [gP,uW.out];exact Nat.le_refl _)]
   have fQ:Hid (∀W,Below wr.heap.size wr W->W.cell? ⟨w.heap.size,4,none⟩=some (.slice a n cap)):=fun W hW=>by
    simp [World.cell?,(hW.block _ (hltq pM.out)).trans pM.out]
   have hmx:Tryz.prog.follows .mixedOrders=true:=krf;go_wp2;refine wp_region_held_drew (S:=(fun W=>W.cell? ⟨w.heap.size,4,none⟩=some (.slice a n cap))) krf (by first|(first|exact fQ.out _ hbn|exact fQ.out _ Ap|exact fQ.out _ (Below.refl _ _)|exact fQ.out _ (yT (Below.refl _ _)))|((try dsimp only);first|exact fQ.out _ hbn|exact fQ.out _ Ap|exact fQ.out _ (Below.refl _ _)|exact fQ.out _ (yT (Below.refl _ _)))) (fun hHeld=>?_);refine t_h 0 ?_;refine t_h 1 ?_;refine t_h 3 ?_;refine t_h 4 ?_;refine r_h 2 (fun K hK=>?_);go_simp;go_at_call 78;refine (amf a n cap xs _ ((HS.out.below bE.out lrf).drew) hn).mono ?_;rintro e v1 ⟨an,nn,cn,os,rfl,hrs,EC,hnn,_,hbn⟩;have hbn:Below wr.heap.size wr v1:=(yT (Below.refl wr.heap.size wr)).trans hbn;go_wp2_with fail;refine k_h hK (by first|(first|exact fQ.out _ hbn|exact fQ.out _ Ap|exact fQ.out _ (Below.refl _ _)|exact fQ.out _ (yT (Below.refl _ _)))|(dsimp only;first|exact fQ.out _ hbn|exact fQ.out _ Ap|exact fQ.out _ (Below.refl _ _)|exact fQ.out _ (yT (Below.refl _ _)))) (fun hHeld=>?_);clear hK K;refine r_h 5 (fun K hK=>?_);go_simp;go_at_call 55;refine (Nv an a nn n cn cap os xs d4 _ hrs (HS.out.below (bE.out.trans (hbn.mono bE.out.size)) lrf) (by rw [EC];exact HD4.out)).mono ?_;rintro e v2 ⟨rfl,hq2⟩;have hb2:=aG hbn hq2;have Ap:=hbn;replace hbn:=hb2;go_wp2_with fail;refine k_h hK (by first|(first|exact fQ.out _ hbn|exact fQ.out _ Ap|exact fQ.out _ (Below.refl _ _)|exact fQ.out _ (yT (Below.refl _ _)))|(dsimp only;first|exact fQ.out _ hbn|exact fQ.out _ Ap|exact fQ.out _ (Below.refl _ _)|exact fQ.out _ (yT (Below.refl _ _)))) (fun hHeld=>?_);clear hK K;refine t_h 6 ?_;refine wpAnyH_done krf ?_ _;have HB2:Hid (Below w.heap.size w v2):=bE.out.trans (hb2.mono bE.out.size);have oQ:=(hb2.block _ (hltq pM.out)).trans pM.out;have hk0:v2.cell? ⟨w.heap.size,0,none⟩=some (.int .u64 m):=by simp [World.cell?,oQ]
   have hk1:v2.cell? ⟨w.heap.size,1,none⟩=some (.int .u64 l):=by simp [World.cell?,oQ]
   have hk2:v2.cell? ⟨w.heap.size,2,none⟩=some (.int .u64 o):=by simp [World.cell?,oQ]
   have hk3:v2.cell? ⟨w.heap.size,3,none⟩=some (.int .u64 t):=by simp [World.cell?,oQ]
   have hk4:v2.cell? ⟨w.heap.size,4,none⟩=some (.slice a n cap):=by simp [World.cell?,oQ]
   clear oQ hrs EC hnn hb2 hbn Ap hHeld hq2;cases d4
   ·obtain rfl:r=false:=by rw [<-HR.out];simp
    go_wp2;go_ret;exact ⟨rfl,HB2.out⟩
   ·by_cases ED:n<=200
    ·have Qa:(n:Int)<=200:=omg;obtain rfl:r=d1:=by rw [<-HR.out];simp [ED]
     go_wp2;go_ret;exact ⟨by first|rfl|(simp [ara]),HB2.out⟩
    ·have Qa:¬(n:Int)<=200:=omg;obtain rfl:r=false:=by rw [<-HR.out];simp [ED]
     go_wp2;go_ret;exact ⟨rfl,HB2.out⟩


end Go.Proofs.YtkiamgcpcneggaaGreat
