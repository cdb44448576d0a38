import Derived.Test.YtkiamgcpcneggaaGreatPackL
import Derived.Deep.OwnRows
import Derived.Shelf.SlSorted.Search
import Derived.Deep.AppendLies
import Derived.Deep.DeepMust
import Derived.Deep.DeepFit
import Derived.Maps.RangeWalk
import Derived.Laws.AppendOwnNone
set_option linter.all false
set_option maxRecDepth 100000
set_option maxHeartbeats 12800000
namespace Go.Proofs.YtkiamgcpcneggaaGreat
section
open Go.RowKit

end
section
open Go.RowKit

structure Wd where
 a:OAd
 n:Nat
 cap:Nat
 zs:LIn
def Wd.v (x:Wd):Value:=.slice x.a x.n x.cap
def Wd.Good (w:World) (x:Wd):Prop:=Sl .i64 w x.a x.n x.cap x.zs
def Wd.no:Wd:=⟨none,0,0,[]⟩
instance:Inhabited Wd:=⟨Wd.no⟩
theorem Wd.no_good (w:World):Wd.no.Good w:=Sl.nil
theorem Wd.Good.below {w w':World} {x:Wd} {B:Nat} (h:x.Good w) (hb:Below B w w') (hB:w.heap.size<=B):x.Good w':=Sl.below h hb hB

def nums (xs:List Wd):LLI:=xs.map Wd.zs
def vals (xs:List Wd):List Value:=xs.map Wd.v
theorem nums_length (xs:List Wd):(nums xs).length=xs.length:=by simp [nums]
theorem aeD (xs:List Wd):(vals xs).length=xs.length:=by simp [vals]
theorem nums_app (xs ys:List Wd):nums (xs++ys)=nums xs++nums ys:=by simp [nums]
theorem II (xs ys:List Wd):vals (xs++ys)=vals xs++vals ys:=by simp [vals]
theorem MK (xs:List Wd) (i:Nat):(nums xs).getD i []=(xs.getD i Wd.no).zs:=by
 simp only [nums,gdq,List.getElem?_map];cases xs[i]?<;>rfl

def Ws (w:World) (a:OAd) (n cap:Nat) (xs:List Wd):Prop :=
 xs.length=n/\n<=cap/\cap<=maxLen/\(∀x∈xs,x.Good w) /\
  (n=0\/∃b off,a=some ⟨b,off,none⟩/\∀i,i<n->w.cell? ⟨b,off+i,none⟩=some (xs.getD i Wd.no).v)

theorem Ws.below {w w':World} {a:OAd} {n cap B:Nat} {xs:List Wd} (h:Ws w a n cap xs) (hb:Below B w w') (hB:w.heap.size<=B):Ws w' a n cap xs:=by
 obtain ⟨h1,h2,h3,h4,h5⟩:=h;refine ⟨h1,h2,h3,fun x hx=>(h4 x hx).below hb hB,?_⟩;rcases h5 with h5|⟨b,off,ha,hc⟩
 ·exact .inl h5
 ·refine .inr ⟨b,off,ha,fun i hi=>?_⟩;have hci:=hc i hi;have hlt:=bQ hci;rw [hb.cell (p:=⟨b,off+i,none⟩) (by show b<B;omega)];exact hci
theorem Ws.alloc {w:World} {a:OAd} {n cap:Nat} {xs:List Wd} (h:Ws w a n cap xs) (o:Obj):Ws (w.alloc o) a n cap xs :=
 h.below ((Below.refl w.heap.size w).alloc lrf o) lrf
theorem Ws.drawn {w w':World} {a:OAd} {n cap:Nat} {xs:List Wd} (h:Ws w a n cap xs) (hq:∃q,w'=w.drewN q):Ws w' a n cap xs:=by
 obtain ⟨q,rfl⟩:=hq;exact h
theorem Ws.nil {w:World}:Ws w none 0 0 []:=⟨rfl,Nat.le_refl _,by unfold maxLen;omega,by simp,.inl rfl⟩

theorem Ws.good {w:World} {a:OAd} {n cap:Nat} {xs:List Wd} (h:Ws w a n cap xs) (i:Nat):(xs.getD i Wd.no).Good w:=by
 rw [gdq]
 cases hx:xs[i]? with
 | none=>exact Wd.no_good w
 | some x=>exact h.2.2.2.1 x (List.mem_of_getElem? hx)

theorem Ws.at {w:World} {a:OAd} {n cap:Nat} {xs:List Wd} (h:Ws w a n cap xs) (hn:0<n) :
 ∃b off,a=some ⟨b,off,none⟩/\b<w.heap.size/\∀i,i<n->w.cell? ⟨b,off+i,none⟩=some (.slice (xs.getD i Wd.no).a (xs.getD i Wd.no).n (xs.getD i Wd.no).cap):=by
 obtain ⟨h1,h2,h3,h4,h5⟩:=h;rcases h5 with h5|⟨b,off,ha,hc⟩
 ·omega
 ·exact ⟨b,off,ha,bQ (hc 0 hn),hc⟩

theorem Ws.one {w:World} {a:OAd} {n cap:Nat} {xs:List Wd} (h:Ws w a n cap xs) (i:Nat) (hi:i<n) :
 ∃b off a1 n1 c1 zs,a=some ⟨b,off,none⟩/\b<w.heap.size/\xs.getD i Wd.no=⟨a1,n1,c1,zs⟩/\w.cell? ⟨b,off+i,none⟩=some (.slice a1 n1 c1)/\Sl .i64 w a1 n1 c1 zs/\(nums xs).getD i []=zs:=by
 obtain ⟨b,off,ha,hb,hc⟩:=h.at omg;exact ⟨b,off,_,_,_,_,ha,hb,rfl,hc i hi,h.good i,MK xs i⟩

theorem Ws.of_owns {w:World} {B:Nat} {T:TypeId} {a:OAd} {n cap:Nat} {xs:List Wd}
 (h:w.ownsRow B T 1 (.slice a n cap) n (vals xs)) (hw:∀x∈xs,x.Good w) (hl:xs.length=n):Ws w a n cap xs:=by
 have h':=h;obtain ⟨_,h2⟩:=h;rcases h2 with ⟨hv,h0⟩|⟨g,c,cur,hv,hg,hh,hnc,hcm,hcs,ht⟩
 ·simp only [Value.slice.injEq] at hv;obtain ⟨rfl,rfl,rfl⟩:=hv;exact ⟨hl,Nat.le_refl _,by unfold maxLen;omega,hw,.inl rfl⟩
 ·simp only [Value.slice.injEq] at hv;obtain ⟨rfl,_,rfl⟩:=hv;refine ⟨hl,hnc,hcm,hw,.inr ⟨g,0,rfl,fun i hi=>?_⟩⟩;rw [Nat.zero_add,h'.cellAt i omg];simp [vals,hl,hi]

def IJ (A:Nat->OAd) (L C:Nat->Nat) (Z:Nat->LIn) (r:Nat):Wd:=⟨A r,L r,C r,(Z r).take (L r)⟩
theorem Ws.of_rows {w:World} {base:Nat} {a:Addr} {len cap:Nat} {A:Nat->OAd} {L C:Nat->Nat} {Z:Nat->LIn} (hl:len<=cap) (hm:cap<=maxLen)
 (h:∀r,r<cap->w.cell? (a.add r)=some (.slice (A r) (L r) (C r))/\L r<=C r/\C r<=maxLen/\(Z r).length=C r/\(∀n∈Z r,(Lit.int .i64 n).wf=true)/\(A r=none->C r=0) /\
  ∀a',A r=some a'->base<=a'.block/\∀c,c<C r->w.cell? (a'.add c)=some (.int .i64 ((Z r).getD c 0))) :
 Ws w (some a) len cap ((List.range len).map (IJ A L C Z)):=by
 have good:∀r,r<cap->(IJ A L C Z r).Good w:=by
  intro r hr;obtain ⟨h1,h2,h3,h4,h5,h6,h7⟩:=h r hr;refine ⟨by show ((Z r).take (L r)).length=L r;rw [List.length_take];omega,h2,h3,fun z hz=>h5 z (List.mem_of_mem_take hz),?_⟩;show L r=0\/_;rcases Nat.eq_zero_or_pos (L r) with h0|hp
  ·exact .inl h0
  ·right
   cases hA:A r with
   | none=>have:=h6 hA;omega
   | some a' =>
     obtain ⟨b,off,spot⟩:=a';have hc:=(h7 _ hA).2;have hspot:spot=none:=by simpa [Addr.add] using World.cell?_spot (hc 0 omg)
     subst hspot;refine ⟨b,off,hA,fun i hi=>?_⟩;have hi':i<L r:=hi;have:=hc i omg;rw [show (⟨b,off,none⟩:Addr).add i=⟨b,off+i,none⟩ from by simp [Addr.add]] at this;rw [this];simp [IJ,hi']
 refine ⟨by simp,hl,hm,fun x hx=>?_,?_⟩
 ·obtain ⟨r,hr,rfl⟩:=List.mem_map.1 hx;exact good r (by have:=List.mem_range.1 hr;omega)
 ·rcases Nat.eq_zero_or_pos len with h0|hp
  ·exact .inl h0
  ·obtain ⟨b,off,spot⟩:=a;have hspot:spot=none:=by simpa [Addr.add] using World.cell?_spot (h 0 omg).1
   subst hspot;refine .inr ⟨b,off,rfl,fun i hi=>?_⟩;have:=(h i omg).1;rw [show (⟨b,off,none⟩:Addr).add i=⟨b,off+i,none⟩ from by simp [Addr.add]] at this;rw [this];simp [hi,IJ,Wd.v]

end
section
open Go.RowKit

theorem aeE {xs ys:List Wd} {j:Nat} (h:(nums xs).take j=(nums ys).take j) (hx:j<xs.length) (hy:j<ys.length) (e:(nums xs).getD j []=(nums ys).getD j []) :
 (nums xs).take (j+1)=(nums ys).take (j+1):=by
 have hx':j<(nums xs).length:=by rw [nums_length];exact hx
 have hy':j<(nums ys).length:=by rw [nums_length];exact hy
 rw [tsa hx',tsa hy',h];simp only [gdq,geg hx',geg hy',Option.getD_some] at e;rw [e]

theorem ML (a b:OAd) (n m cap cap2:Nat) (xs ys:List Wd) (r:Bool) (w:World) (ha:Ws w a n cap xs) (hb:Ws w b m cap2 ys) (h:decide (nums xs=nums ys)=r) :
 Calls Tryz.prog 16 #[.slice a n cap,.slice b m cap2] w fun e w'=>e=.returned (.bool r)/\∃q,w'=w.drewN q:=by
 subst h;have hnc:=ha.2.1;have hcm:=ha.2.2.1;unfold maxLen at hcm;have hmc:=hb.2.1;have hcm2:=hb.2.2.1;unfold maxLen at hcm2;have HA:=hdq ha;have HB:=hdq hb;clear ha hb;by_cases hnm:n=m
 ·subst hnm;go_enter Tryz.func16,Tryz.ntmps16;go_wp2;go_loopw [5] (fun ix wr=>∃j:Nat,j<=n/\ix=.int .i64 (j:Int)/\Hid ((nums xs).take j=(nums ys).take j)/\Hid (∃q,wr=w.drewN q)) (fun ix _=>n-(intOf ix).toNat)
  case atStart=>exact ⟨0,Nat.zero_le _,rfl,rfl,⟨0,rfl⟩⟩
  case round =>
   obtain ⟨j,hj,rfl,HT,HQ⟩:=hrel;by_cases hlt:j<n
   ·obtain ⟨b1,o1,a3,n3,c3,z3,rfl,_,_,hx1,hs1,hz1⟩:=(HA.out.drawn HQ.out).one j hlt;obtain ⟨b2,o2,a4,n4,c4,z4,rfl,_,_,hx2,hs2,hz2⟩:=(HB.out.drawn HQ.out).one j hlt;have bR:=hdq hs1;have HS2:=hdq hs2;have HZ1:=hdq hz1;have HZ2:=hdq hz2;have bB:(j:Int)<(n:Int):=omg;clear hs1 hs2 hz1 hz2;by_cases he:z3=z4
    ·have hd:decide (z3=z4)=true:=by simpa using he
     have HE:=hdq he;have HD:=hdq hd;clear hd he;go_wp2;go_quiet ((go_at_call 38;exact Calls.quiet_of (dR _ _ _ _ _ _ z3 z4 true _ (bR.out.drewN _) (HS2.out.drewN _) HD.out)));go_wp2;go_roundw
     case rel=>exact ⟨j+1,by omega,by go_num,aeE HT.out (by rw [HA.out.1];exact hlt) (by rw [HB.out.1];exact hlt) (by rw [HZ1.out,HZ2.out,HE.out]),(by obtain ⟨q,hq⟩:=HQ.out;exact ⟨_,by rw [hq,World.drewN_drewN]⟩)⟩
     case measure=>simp [intOf];omega
    ·have hd:decide (z3=z4)=false:=by simpa using he
     have hfin:decide (nums xs=nums ys)=false:=by
      rw [decide_eq_false_iff_not];intro h;apply he;rw [<-HZ1.out,<-HZ2.out,h]
     have HF:=hdq hfin;have HD:=hdq hd;clear he hfin hd;go_wp2;go_quiet ((go_at_call 38;exact Calls.quiet_of (dR _ _ _ _ _ _ z3 z4 false _ (bR.out.drewN _) (HS2.out.drewN _) HD.out)));go_wp2;go_ret;exact ⟨by rw [HF.out];rfl,(by obtain ⟨q,hq⟩:=HQ.out;exact ⟨_,by rw [hq,World.drewN_drewN]⟩)⟩
   ·have hfin:decide (nums xs=nums ys)=true:=by
     rw [decide_eq_true_iff];have h:=HT.out
     rwa [tol (by rw [nums_length,HA.out.1];omega),tol (by rw [nums_length,HB.out.1];omega)] at h
    have HF:=hdq hfin;clear hfin;go_wp2;go_ret;exact ⟨by rw [HF.out];rfl,HQ.out⟩
 ·have hfin:decide (nums xs=nums ys)=false:=by
   rw [decide_eq_false_iff_not];intro h;have:=congrArg List.length h;rw [nums_length,nums_length,HA.out.1,HB.out.1] at this;exact hnm this
  have h1:((n:Int)==(m:Int))=false:=by simp;omega
  have h2:((n:Int) != (m:Int))=true:=by simp;omega
  rw [hfin];clear hfin;go_enter Tryz.func16,Tryz.ntmps16;go_wp2;go_ret;exact ⟨rfl,0,rfl⟩

def Short (xs:List Wd):Prop:=∀x∈xs,x.n<=100
def aeF (K:Nat) (xs:List Wd) (n:Nat):Prop:=Short xs/\n<=K

theorem aeG (K:Nat) (kk:Int) (a:OAd) (n cap:Nat) (xs:List Wd) (w:World) (hk:kk=(K:Int)) (ha:Ws w a n cap xs) :
 Calls Tryz.prog 9 #[.slice a n cap,.int .i64 kk] w fun e w'=>(e=.returned (.bool false)\/e=.returned (.bool true)/\aeF K xs n)/\w=w':=by
 have hnc:=ha.2.1;have hcm:=ha.2.2.1;unfold maxLen at hcm;have HA:=hdq ha;have HK:=hdq hk;clear ha hk;go_enter Tryz.func9,Tryz.ntmps9;go_wp2;go_loop [5] (fun ix=>∃j:Nat,j<=n/\ix=.int .i64 (j:Int)/\Hid (Short (xs.take j))) (fun ix=>n-(intOf ix).toNat)
 case atStart=>exact ⟨0,Nat.zero_le _,rfl,(by intro x hx;simp at hx)⟩
 case round =>
  obtain ⟨j,hj,rfl,HT⟩:=hrel;by_cases hlt:j<n
  ·obtain ⟨b1,o1,a3,n3,c3,z3,rfl,_,hx,hx1,hs1,_⟩:=HA.out.one j hlt;have bB:(j:Int)<(n:Int):=omg;have arD:=hs1.2.1;have amA:=hs1.2.2.1;unfold maxLen at amA;have HX:=hdq hx;clear hs1 hx;by_cases he:100<n3
   ·have hei:(100:Int)<(n3:Int):=omg;go_wp2;go_ret;exact ⟨.inl rfl,rfl⟩
   ·have hei:¬(100:Int)<(n3:Int):=omg;go_wp2;go_round
    case rel =>
     refine ⟨j+1,by omega,by go_num,?_⟩;have hjl:j<xs.length:=by rw [HA.out.1];exact hlt
     intro x hx;rw [tsa hjl] at hx;rcases map1 hx with hx|hx
     ·exact HT.out x hx
     ·simp only [List.mem_singleton] at hx;have e:=HX.out;rw [gdq,geg hjl,Option.getD_some] at e;rw [hx,e];show n3<=100;omega
    case measure=>simp [intOf];omega
  ·have hfin:xs.take j=xs:=tol (by rw [HA.out.1];omega);rw [hfin] at HT;clear hfin;by_cases h2:n<=K
   ·have hi:decide ((n:Int)<=kk)=true:=by rw [HK.out];simp;omega
    have HI:=hdq hi;clear hi;go_wp2;go_ret;exact ⟨.inr ⟨by show Ending.returned (.bool (decide ((n:Int)<=kk)))=_;rw [HI.out],⟨HT.out,h2⟩⟩,rfl⟩
   ·have hi:decide ((n:Int)<=kk)=false:=by rw [HK.out];simp;omega
    have HI:=hdq hi;clear hi;go_wp2;go_ret;exact ⟨.inl (by show Ending.returned (.bool (decide ((n:Int)<=kk)))=_;rw [HI.out]),rfl⟩
theorem nW:(Tryz.prog.info? 3).map (fun i=>(i.zero,i.size,i.bytes))=some (some (.int .i64 0),1,8):=krf
theorem Dn:(Tryz.prog.info? 51).map (fun i=>(i.zero,i.size,i.bytes))=some (some (.slice none 0 0),1,24):=krf

end
namespace Go.Proofs
open Go.Shelf
end Go.Proofs
section
open Go.RowKit Go.Sort

end
section
open Go.RowKit

theorem Dp (xs:List Wd):∀v∈vals xs,v.oneCell'=true:=by
 intro v hv;obtain ⟨x,_,rfl⟩:=List.mem_map.1 hv;rfl

theorem Dq {w:World} {ops:Array Oper} {rest:List Oper} {o:Oper} {act:Act} {Q:Exit->Act->World->Prop} (hgd:o.guard=none) (s x:Operand)
 (ho:o.op=.call { callee:=.builtin .append,args:=#[s,x],argTypes:=#[29,29] }) (base:Nat) (v:Value) (n:Nat) (xs:List Wd) (hs:act.eval s=v)
 (hown:w.ownsRow base 51 1 v n (vals xs)) (a:OAd) (m c:Nat) (zs:List Wd) (hx:act.eval x=.slice a m c) (hz:Ws w a m c zs) (ha:a=none->c=0)
 (N:Nat) (hN:n+m=N) (h63:N*24<=140737488355328) (hbase:base<=w.heap.size)
 (h:∀a' c' w',w'.ownsRow base 51 1 (.slice a' N c') N (vals (xs++zs))->Below base w w'->(a'=none->c'=0)->wpList Tryz.prog ops Q rest (act.put o.dst (.slice a' N c')) w') :
 wpList Tryz.prog ops Q (o::rest) act w:=by
 subst hN;obtain ⟨i0,hi,hz0,hz1,hz2⟩:=info_parts Dn
 have form:∀{w':World} {v':Value} {k:Nat} {l:List Value},w'.ownsRow base 51 1 v' k l->∃a' c',v'=.slice a' k c'/\(a'=none->c'=0):=by
  intro w' v' k l ho;rcases ho.2 with ⟨h1,h2⟩|⟨g,cap,cur,h1,_⟩
  ·subst h2;exact ⟨none,0,h1,fun _=>rfl⟩
  ·exact ⟨_,cap,h1,fun h=>by cases h⟩
 cases a with
 | none =>
   obtain rfl:=ha rfl;obtain rfl:m=0:=by have:=hz.2.1;omega
   obtain rfl:zs=[]:=List.eq_nil_of_length_eq_zero hz.1;obtain ⟨a',c',rfl,hnil⟩:=form hown;refine wpList_append_own_none hgd s x 29 ho base 51 i0 1 Tryz.underlying29 hi _ n (vals xs) hs hown hx ?_;exact h a' c' w (by simpa using hown) (Below.refl _ _) hnil
 | some y =>
   have hnews:∀j u,(vals zs)[j]?=some u->w.cell? (y.add j)=some u:=by
    intro j u hj
    have hjl:j<zs.length:=by
     rcases Nat.lt_or_ge j zs.length with hlt|hge
     ·exact hlt
     ·simp [vals,List.getElem?_eq_none hge] at hj
    obtain ⟨b,off,hy,_,hc⟩:=hz.at (by have:=hz.1;omega);simp only [sij] at hy;subst hy;have:=hc j (by have:=hz.1;omega);rw [show (⟨b,off,none⟩:Addr).add j=⟨b,off+j,none⟩ from by simp [Addr.add],this];simp [vals,hjl] at hj;rw [<-hj];simp [hjl,Wd.v]
   refine wpList_append_own w hgd s x 29 ho base 51 i0 (.slice none 0 0) 1 24 Tryz.underlying29 hi hz0 hz1 hz2 rfl (by decide) v n (vals xs) hs hown y m c (vals zs) hx (by simp [vals,hz.1]) hnews (Dp zs) (by unfold maxLen;omega) h63 hbase ?_;intro v' w' hown' hgrow _;obtain ⟨a',c',rfl,hnil⟩:=form hown';refine h a' c' w' (by rw [II];exact hown') ?_ hnil;exact (Below.refl _ _).grown hgrow hbase (fun k hk=>(hown.lt k hk).1)
theorem aeH (w:World) (B:Nat):w.ownsRow B 51 1 (.slice none 0 0) 0 (vals []):=⟨rfl,.inl ⟨rfl,rfl⟩⟩

theorem Ws.newc {w:World} {t:TypeId} {B n m:Nat} (xs:List Wd) (hg:∀x∈xs,x.Good w) (hl:xs.length<=maxLen) (hB:B=w.heap.size) (hn:xs.length=n) (hm:xs.length=m) :
 Ws (w.alloc (.cells (vals xs).toArray t)) (some ⟨B,0,none⟩) n m xs:=by
 subst hB hn hm;refine ⟨rfl,Nat.le_refl _,hl,fun x hx=>(hg x hx).below ((Below.refl w.heap.size w).alloc lrf _) lrf,.inr ⟨w.heap.size,0,rfl,fun i hi=>?_⟩⟩;rw [World.cell?_alloc_at _ _ _ _ rfq];simp [vals,hi]

abbrev GWd (w:World):Type:={ x:Wd // x.Good w }
instance (w:World):Inhabited (GWd w):=⟨⟨Wd.no,Wd.no_good w⟩⟩
def GWd.v {w:World} (x:GWd w):Value:=x.1.v
def GWd.cf {w:World} (x y:GWd w):Int:=cmpL x.1.zs y.1.zs

end
section
open Go.RowKit

theorem MM {w:World} {ops:Array Oper} {rest:List Oper} {o:Oper} {act:Act} {Q:Exit->Act->World->Prop} (hgd:o.guard=none) (s x:Operand)
 (ho:o.op=.call { callee:=.builtin .append,args:=#[s,x],argTypes:=#[51,51] }) (base:Nat) (v:Value) (n:Nat) (xs:LIn) (hs:act.eval s=v)
 (hown:w.ownsRow base 3 1 v n (ay xs)) (a:OAd) (m c:Nat) (zs:LIn) (hx:act.eval x=.slice a m c) (hz:Sl .i64 w a m c zs) (ha:a=none->c=0)
 (N:Nat) (hN:n+m=N) (h63:N*8<=140737488355328) (hbase:base<=w.heap.size)
 (h:∀a' c' w',w'.ownsRow base 3 1 (.slice a' N c') N (ay (xs++zs))->Below base w w'->(a'=none->c'=0)->wpList Tryz.prog ops Q rest (act.put o.dst (.slice a' N c')) w') :
 wpList Tryz.prog ops Q (o::rest) act w:=by
 subst hN;obtain ⟨i0,hi,hz0,hz1,hz2⟩:=info_parts nW
 have form:∀{w':World} {v':Value} {k:Nat} {l:List Value},w'.ownsRow base 3 1 v' k l->∃a' c',v'=.slice a' k c'/\(a'=none->c'=0):=by
  intro w' v' k l ho;rcases ho.2 with ⟨h1,h2⟩|⟨g,cap,cur,h1,_⟩
  ·subst h2;exact ⟨none,0,h1,fun _=>rfl⟩
  ·exact ⟨_,cap,h1,fun h=>by cases h⟩
 cases a with
 | none =>
   obtain rfl:=ha rfl;obtain rfl:m=0:=by have:=hz.2.1;omega
   obtain rfl:zs=[]:=List.eq_nil_of_length_eq_zero hz.1;obtain ⟨a',c',rfl,hnil⟩:=form hown;refine wpList_append_own_none hgd s x 51 ho base 3 i0 1 Tryz.underlying51 hi _ n (ay xs) hs hown hx ?_;exact h a' c' w (by simpa using hown) (Below.refl _ _) hnil
 | some y =>
   have hnews:∀j u,(ay zs)[j]?=some u->w.cell? (y.add j)=some u:=by
    intro j u hj
    have hjl:j<zs.length:=by
     rcases Nat.lt_or_ge j zs.length with hlt|hge
     ·exact hlt
     ·simp [ay,List.getElem?_eq_none hge] at hj
    obtain ⟨b,off,hy,_,hc⟩:=hz.at (by have:=hz.1;omega);simp only [sij] at hy;subst hy;have:=hc j (by have:=hz.1;omega);rw [show (⟨b,off,none⟩:Addr).add j=⟨b,off+j,none⟩ from by simp [Addr.add],this];simp [ay,hjl] at hj;rw [<-hj];simp [hjl]
   refine wpList_append_own w hgd s x 51 ho base 3 i0 (.int .i64 0) 1 8 Tryz.underlying51 hi hz0 hz1 hz2 rfl (by decide) v n (ay xs) hs hown y m c (ay zs) hx (by simp [ay,hz.1]) hnews (ints_oneCell .i64 zs) (by unfold maxLen;omega) h63 hbase ?_;intro v' w' hown' hgrow _;obtain ⟨a',c',rfl,hnil⟩:=form hown';refine h a' c' w' (by rw [show ay (xs++zs)=ay xs++ay zs from by simp [ay]];exact hown') ?_ hnil;exact (Below.refl _ _).grown hgrow hbase (fun k hk=>(hown.lt k hk).1)
theorem MN (w:World):(w.alloc (.cells #[] 3)).ownsRow w.heap.size 3 1 (.slice (some ⟨w.heap.size,0,none⟩) 0 0) 0 (ay []):=by
 have h:=World.ownsRow_lit (base:=w.heap.size) (e:=3) (size:=1) w #[] 0 lrf (Nat.zero_le _) smp;simpa [ay] using h

end
section
open Go.RowKit

def Form (a:OAd) (c:Nat):Prop:=(a=none/\c=0)\/∃g,a=some ⟨g,0,none⟩
end
section
open Go.RowKit

def Wd.Far (k:Option Nat) (x:Wd):Prop:=x.n=0\/∃b off,x.a=some ⟨b,off,none⟩/\k≠some b

theorem Wd.Good.grown {w w':World} {x:Wd} {k:Option Nat} (h:x.Good w) (hg:w.grownBy w' k) (hf:x.Far k):x.Good w':=by
 obtain ⟨h1,h2,h3,h4,h5⟩:=h;refine ⟨h1,h2,h3,h4,?_⟩;rcases h5 with h5|⟨b,off,ha,hc⟩
 ·exact .inl h5
 ·rcases hf with hf|⟨b',off',ha',hk⟩
  ·exact .inl hf
  ·rw [ha] at ha';simp only [sij,Addr.mk.injEq,and_true] at ha';obtain ⟨rfl,rfl⟩:=ha';exact .inr ⟨b,off,ha,fun i hi=>hg.cell (hc i hi) (fun e=>hk e.symm)⟩

end
end Go.Proofs.YtkiamgcpcneggaaGreat
