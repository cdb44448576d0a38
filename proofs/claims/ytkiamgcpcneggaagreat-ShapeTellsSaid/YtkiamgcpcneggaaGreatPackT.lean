import Derived.Test.YtkiamgcpcneggaaGreatPackS
import Derived.Test.YtkiamgcpcneggaaGreatPackM
set_option linter.all false
set_option maxRecDepth 100000
set_option maxHeartbeats 12800000
namespace Go.Proofs.YtkiamgcpcneggaaGreat
section
open Go.RowKit Tri

def lv (o:Option Int):Int:=o.getD (-1)
theorem afE (n i:Nat) (o:Option Int) (s t:Int):pV n i o (s,t)=(decide (lv o<s)&&Utf.good s&&decide ((i:Int)<t)&&decide (t<(n:Int))):=by
 unfold pV
 cases o with
 | none =>
   simp only [behind,lv,Option.getD_none]
   cases hg:Utf.good s with
   | false=>simp
   | true =>
     have:-1<s:=by simp [Utf.good] at hg;omega
     simp [this]
 | some q =>
   simp only [behind,lv,Option.getD_some];rw [Bool.eq_iff_iff];simp only [Bool.and_eq_true,decide_eq_true_eq];constructor
   ·rintro ⟨⟨⟨a,b⟩,c⟩,d⟩;exact ⟨⟨⟨decide_eq_true d,a⟩,b⟩,c⟩
   ·rintro ⟨⟨⟨d,a⟩,b⟩,c⟩;exact ⟨⟨⟨a,b⟩,c⟩,of_decide_eq_true d⟩
theorem afF {n i:Nat} {l:List (Int × Int)} {j:Nat} (h:dh n i none (l.take j)=false):dh n i none l=false:=by
 cases hc:dh n i none l with
 | false=>rfl
 | true =>
   have:=Nk (l.take j) (l.drop j) none (by rw [List.take_append_drop];exact hc);rw [h] at this;cases this

theorem afG (lb ab nb:Nat) (p s t:Int) (i n cap:Nat) (a:OAd) (r:Bool) (W:World) (hl:W.heap[lb]?=some (.cells #[.int .i64 p] 3 (0,0))) (ha:W.cell? ⟨ab,0,none⟩=some (.int .i64 (i:Int))) (hn:W.cell? ⟨nb,0,none⟩=some (.slice a n cap)) (hne:ab≠lb) (hne':nb≠lb)
 (hs:(Lit.int .i64 s).wf=true) (hr:(decide (p<s)&&Utf.good s&&decide ((i:Int)<t)&&decide (t<(n:Int)))=!r) :
 Calls Tryz.prog 59 #[.agg #[.int .i64 s,.int .i64 t],.pointer (some ⟨lb,0,none⟩),.pointer (some ⟨ab,0,none⟩),.pointer (some ⟨nb,0,none⟩)] W fun e w'=>e=.returned (.bool r)/\w'.heap[lb]?=some (.cells #[.int .i64 s] 3 (0,0))/\W.grownBy w' (some lb):=by
 have hlc:∀o,(W.alloc o).cell? ⟨lb,0,none⟩=some (.int .i64 p):=fun o=>by
  rw [((Below.refl W.heap.size W).alloc lrf o).cell (p:=⟨lb,0,none⟩) (hltq hl)];simp only [World.cell?];rw [hl];rfl
 have hll:∀o,(W.alloc o).heap[lb]?=some (.cells #[.int .i64 p] 3 (0,0)):=fun o=>by
  rw [((Below.refl W.heap.size W).alloc lrf o).block _ (hltq hl)];exact hl
 have hlf:∀o,(W.alloc o).frozen? ⟨lb,0,none⟩=false:=fun o=>by
  simp only [World.frozen?];rw [hll o];rfl
 have hac:∀o v,((W.alloc o).setCell ⟨lb,0,none⟩ v).cell? ⟨ab,0,none⟩=some (.int .i64 (i:Int)):=fun o v=>by
  rw [World.cell?_of_block (w:=W.alloc o) (heap_setCell_other _ _ _ _ hne),((Below.refl W.heap.size W).alloc lrf o).cell (p:=⟨ab,0,none⟩) (bQ ha)];exact ha
 have hnc:∀o v,((W.alloc o).setCell ⟨lb,0,none⟩ v).cell? ⟨nb,0,none⟩=some (.slice a n cap):=fun o v=>by
  rw [World.cell?_of_block (w:=W.alloc o) (heap_setCell_other _ _ _ _ hne'),((Below.refl W.heap.size W).alloc lrf o).cell (p:=⟨nb,0,none⟩) (bQ hn)];exact hn
 have amM:lb<W.heap.size:=(hltq hl)
 have hb0:∀v,((W.alloc (Obj.cells #[.int .i64 s,.int .i64 t] 95)).setCell ⟨lb,0,none⟩ v).cell? ⟨W.heap.size,0,none⟩=some (.int .i64 s):=fun v=>by
  rw [World.cell?_of_block (w:=W.alloc _) (heap_setCell_other _ _ _ _ (show W.heap.size≠lb by omega))];exact (pU W (.int .i64 s) (.int .i64 t) 95 (0,0)).1
 have hb1:∀v,((W.alloc (Obj.cells #[.int .i64 s,.int .i64 t] 95)).setCell ⟨lb,0,none⟩ v).cell? ⟨W.heap.size,1,none⟩=some (.int .i64 t):=fun v=>by
  rw [World.cell?_of_block (w:=W.alloc _) (heap_setCell_other _ _ _ _ (show W.heap.size≠lb by omega))];exact (pU W (.int .i64 s) (.int .i64 t) 95 (0,0)).2
 have hend:∀o v,Hid (((W.alloc o).setCell ⟨lb,0,none⟩ v).heap[lb]?=some (.cells #[v] 3 (0,0))/\W.grownBy ((W.alloc o).setCell ⟨lb,0,none⟩ v) (some lb)):=fun o v=>by
  refine ⟨?_,?_⟩
  ·rw [heap_setCell_same _ _ _ _ _ _ (hll o)];rfl
  ·exact (World.grownBy_alloc W o (some lb)).trans ⟨rfl,rfl,rfl,by simp,fun k _ hk=>heap_setCell_other _ _ _ _ (fun e=>hk (by rw [e]))⟩
 have hbd:=bounds_i64 hs;have bG:=hdq hbd;have HN:=hdq hn;obtain ⟨g,hg⟩:∃g,Utf.good s=g:=⟨_,rfl⟩;have HG:=hdq hg;rw [hg] at hr;clear hl hll ha hn hbd hg hs amM;by_cases c1:p<s
 ·have Et:decide (s>p)=true:=decide_eq_true c1;cases g
  ·obtain rfl:r=true:=by simpa using hr.symm
   clear hr c1;go_enter Tryz.func59,Tryz.ntmps59;go_wp2_with (go_at_call 60;refine (yA s _ bG.out.1 bG.out.2).mono ?_;rintro e w' ⟨rfl,rfl⟩;rw [HG.out]);go_ret;exact ⟨rfl,(hend _ _).out⟩
  ·by_cases c2:t<=(i:Int)
   ·have PM:decide (t<=(i:Int))=true:=decide_eq_true c2;have:decide ((i:Int)<t)=false:=decide_eq_false omg;obtain rfl:r=true:=by rw [this] at hr;simpa using hr.symm
    clear hr c1 c2 this;go_enter Tryz.func59,Tryz.ntmps59;go_wp2_with (go_at_call 60;refine (yA s _ bG.out.1 bG.out.2).mono ?_;rintro e w' ⟨rfl,rfl⟩;rw [HG.out]);go_ret;exact ⟨rfl,(hend _ _).out⟩
   ·have PM:decide (t<=(i:Int))=false:=decide_eq_false c2;have h2:decide ((i:Int)<t)=true:=decide_eq_true omg
    have hrr:r=decide (t>=(n:Int)):=by
     rw [h2,show decide (p<s)=true from decide_eq_true c1] at hr;by_cases c3:t<(n:Int)
     ·rw [show decide (t<(n:Int))=true from decide_eq_true c3] at hr;rw [show decide (t>=(n:Int))=false from decide_eq_false omg];simpa using hr.symm
     ·rw [show decide (t<(n:Int))=false from decide_eq_false c3] at hr;rw [show decide (t>=(n:Int))=true from decide_eq_true omg];simpa using hr.symm
    subst hrr;clear hr c1 c2 h2;go_enter Tryz.func59,Tryz.ntmps59;go_wp2_with (go_at_call 60;refine (yA s _ bG.out.1 bG.out.2).mono ?_;rintro e w' ⟨rfl,rfl⟩;rw [HG.out]);go_ret;exact ⟨by first|rfl|simp,(hend _ _).out⟩
 ·have Et:decide (s>p)=false:=decide_eq_false c1;obtain rfl:r=true:=by rw [show decide (p<s)=false from decide_eq_false c1] at hr;simpa using hr.symm
  clear hr c1;go_enter Tryz.func59,Tryz.ntmps59;go_wp2;go_ret;exact ⟨rfl,(hend _ _).out⟩

theorem afH (lb ab nb i n cap sn sc:Nat) (a sa:OAd) (arcs:List (Int × Int)) (w:World) (hl:w.heap[lb]?=some (.cells #[.int .i64 (-1)] 3 (0,0))) (ha:w.cell? ⟨ab,0,none⟩=some (.int .i64 (i:Int))) (hn:w.cell? ⟨nb,0,none⟩=some (.slice a n cap)) (hne:ab≠lb) (hne':nb≠lb)
 (hs:Ars w sa sn sc arcs) (hb:0<sn->∀b off,sa=some ⟨b,off,none⟩->b≠lb) :
 Calls Tryz.prog 106 #[.slice sa sn sc,.func (.func 59) #[] #[.pointer (some ⟨lb,0,none⟩),.pointer (some ⟨ab,0,none⟩),.pointer (some ⟨nb,0,none⟩)]] w fun e w'=>∃k:Int,e=.returned (.int .i64 k)/\decide (k>=0)=!dh n i none arcs/\w.grownBy w' (some lb):=by
 have hsl:=hs.2.1;have oC:=hs.2.2.1;unfold maxLen at oC;have HS:=hdq hs;have dH:=hdq hs.1;have HL:=hdq hl;have YX:=hdq ha;have uT:=hdq hn;have HB:=hdq hb;have qi:Hid (ab≠lb/\nb≠lb):=⟨hne,hne'⟩;clear hs hl ha hn hb hne hne';go_enter Tryz.func106,Tryz.ntmps106;go_wp2;go_loopw [8] (fun ix wr=>∃j:Nat,j<=sn/\ix=.int .i64 (j:Int)/\Hid (dh n i none (arcs.take j)=true)/\Hid (wr.heap[lb]?=some (.cells #[.int .i64 (lv (mf none (arcs.take j)))] 3 (0,0)))/\Hid (w.grownBy wr (some lb))) (fun ix _=>sn-(intOf ix).toNat)
 case atStart=>exact ⟨0,Nat.zero_le _,rfl,rfl,HL.out,World.grownBy.refl w _⟩
 case round =>
  obtain ⟨j,hj,rfl,HT,HLJ,HG⟩:=hrel;by_cases hlt:j<sn
  ·obtain ⟨b2,o2,s,t,rfl,hb2,hy1,hy2,hws,hwt,hz2⟩:=HS.out.one j hlt;have YY:wr.cell? ⟨b2,o2+j*2,none⟩=some (.int .i64 s):=HG.out.cell hy1 (fun e=>HB.out omg b2 o2 rfl (Option.some.inj e));have amO:wr.cell? ⟨b2,o2+j*2+1,none⟩=some (.int .i64 t):=HG.out.cell hy2 (fun e=>HB.out omg b2 o2 rfl (Option.some.inj e));have HAJ:Hid (wr.cell? ⟨ab,0,none⟩=some (.int .i64 (i:Int))):=HG.out.cell YX.out (fun e=>qi.out.1 (Option.some.inj e));have HNJ:Hid (wr.cell? ⟨nb,0,none⟩=some (.slice a n cap)):=HG.out.cell uT.out (fun e=>qi.out.2 (Option.some.inj e));have HST:Hid (arcs.take (j+1)=arcs.take j++[(s,t)]):=sZ (by rw [dH.out];exact hlt) hz2;have ry:Hid (mf none (arcs.take (j+1))=some s):=Vd (by rw [dH.out];exact hlt) hz2;have jd:=hdq hws;have bB:(j:Int)<(sn:Int):=omg;obtain ⟨q,hq⟩:∃q,pV n i (mf none (arcs.take j)) (s,t)=!q:=⟨!pV n i (mf none (arcs.take j)) (s,t),by simp⟩;have HQ:Hid ((decide (lv (mf none (arcs.take j))<s)&&Utf.good s&&decide ((i:Int)<t)&&decide (t<(n:Int)))=!q):=by show _=_;rw [<-afE];exact hq
   have uR:Hid (dh n i none (arcs.take (j+1))=!q):=by show _=_;rw [HST.out,wu,HT.out,hq];simp
   clear hy1 hy2 hz2 hws hwt hq hb2;go_wp2_with fail;refine (afG lb ab nb _ s t i n cap a q wr HLJ.out HAJ.out HNJ.out qi.out.1 qi.out.2 jd.out HQ.out).mono ?_;rintro e w1 ⟨rfl,hl1,hg1⟩;have HL1:=hdq hl1;have cO:Hid (w.grownBy w1 (some lb)):=HG.out.trans hg1;clear hl1 hg1;cases q
   ·go_wp2;go_roundw
    case rel=>exact ⟨j+1,by omega,by go_num,uR.out,(by show _=_;rw [ry.out];exact HL1.out),cO.out⟩
    case measure=>simp [intOf];omega
   ·go_wp2;go_ret;refine ⟨(j:Int),rfl,?_,cO.out⟩;rw [afF uR.out];simp
  ·obtain rfl:j=sn:=omg
   have iT:Hid (dh n i none arcs=true):=by
    have h:=HT.out;rw [tol (by rw [dH.out];exact Nat.le_refl _)] at h;exact h
   go_wp2;go_ret;refine ⟨-1,rfl,?_,HG.out⟩;rw [iT.out];decide

theorem afI (lb ab nb i n cap sn sc:Nat) (a sa:OAd) (arcs:List (Int × Int)) (r:Bool) (w:World) (hl:w.heap[lb]?=some (.cells #[.int .i64 (-1)] 3 (0,0))) (ha:w.cell? ⟨ab,0,none⟩=some (.int .i64 (i:Int))) (hn:w.cell? ⟨nb,0,none⟩=some (.slice a n cap)) (hne:ab≠lb) (hne':nb≠lb)
 (hs:Ars w sa sn sc arcs) (hb:0<sn->∀b off,sa=some ⟨b,off,none⟩->b≠lb) (hr:dh n i none arcs=!r) :
 Calls Tryz.prog 61 #[.slice sa sn sc,.func (.func 59) #[] #[.pointer (some ⟨lb,0,none⟩),.pointer (some ⟨ab,0,none⟩),.pointer (some ⟨nb,0,none⟩)]] w fun e w'=>e=.returned (.bool r)/\w.grownBy w' (some lb):=by
 have hc:=afH lb ab nb i n cap sn sc a sa arcs w hl ha hn hne hne' hs hb;have HR:=hdq hr;clear hl ha hn hs hb hr;go_enter Tryz.func61,Tryz.ntmps61;go_wp2_with fail;refine hc.mono ?_;rintro e w1 ⟨k,rfl,hk,hg⟩;have hk':decide (k>=0)=r:=by rw [hk,HR.out];simp
 clear hk hc;subst hk';go_wp2;go_ret;exact ⟨rfl,hg⟩

end
section
open Go.RowKit Tri

theorem Ve {l:List St} (h:l.length=0\/6001<l.length):check l=false:=by
 unfold check;rcases h with h|h
 ·have:decide (1<=l.length)=false:=decide_eq_false omg;rw [this];simp
 ·have:decide (l.length<=6001)=false:=decide_eq_false omg;rw [this];simp
theorem afJ {n:Nat} {l:List St} {i:Nat} {s:St} (hi:i<l.length) (hs:l.getD i St.no=s) (h:ib n 0 (l.take i)=true) (ho:dh n i none s.arcs=true):ib n 0 (l.take (i+1))=true:=by
 have e:l.take (i+1)=l.take i++[s]:=by rw [tsa hi,<-hs];simp [hi]
 rw [e,IY,h,Nat.zero_add,show (l.take i).length=i by simp;omega];simp [ib,ho]

theorem three (w:World) (A B C:Obj):(((w.alloc A).alloc B).alloc C).heap[w.heap.size]?=some A/\(((w.alloc A).alloc B).alloc C).heap[w.heap.size+1+1]?=some C/\Below w.heap.size w (((w.alloc A).alloc B).alloc C):=by
 have h1:=(World.size_alloc w A);have h2:=(World.size_alloc (w.alloc A) B);refine ⟨?_,?_,((Below.refl _ w).alloc lrf A).alloc omg B |>.alloc omg C⟩
 ·rw [((Below.refl _ ((w.alloc A).alloc B)).alloc lrf C).block _ omg,((Below.refl _ (w.alloc A)).alloc lrf B).block _ omg];exact han w A
 ·rw [show w.heap.size+1+1=((w.alloc A).alloc B).heap.size by omega];exact han _ C

theorem uE (a:OAd) (n cap:Nat) (xs:List Sw) (r:Bool) (w:World) (ha:Ss w a n cap xs) (hr:check (sts xs)=r) :
 Calls Tryz.prog 26 #[.slice a n cap] w fun e w'=>e=.returned (.bool r)/\Below w.heap.size w w':=by
 have hnc:=ha.2.1;have hcm:=ha.2.2.1;unfold maxLen at hcm;have HA:=hdq ha;have HR:=hdq hr;have HL:Hid ((sts xs).length=n):=by show _=_;rw [fq,ha.1]
 have aN:∀o,Hid (Below w.heap.size w (w.alloc o)):=fun o=>(Below.refl _ w).alloc lrf o;clear ha hr;by_cases h0:n=0
 ·subst h0;obtain rfl:r=false:=by rw [<-HR.out];exact Ve (.inl HL.out)
  go_enter Tryz.func26,Tryz.ntmps26;go_wp2;go_ret;exact ⟨rfl,(aN _).out⟩
 have h0b:((n:Int)==0)=false:=by simp;omega
 by_cases h1:6001<n
 ·have h1d:decide ((n:Int)>6001)=true:=decide_eq_true omg;obtain rfl:r=false:=by rw [<-HR.out];exact Ve (.inr (by rw [HL.out];exact h1))
  clear h0 h1;go_enter Tryz.func26,Tryz.ntmps26;go_wp2;go_ret;exact ⟨rfl,(aN _).out⟩
 have h1d:decide ((n:Int)>6001)=false:=decide_eq_false omg;have Br:Hid (1<=n/\n<=6001):=⟨by omega,by omega⟩;clear h0 h1;go_enter Tryz.func26,Tryz.ntmps26;go_wp2;go_loopw [17] (fun ix wr=>∃i:Nat,i<=n/\ix=.int .i64 (i:Int)/\Hid (ib n 0 ((sts xs).take i)=true)/\Hid (Below w.heap.size w wr)/\Hid (wr.cell? ⟨w.heap.size,0,none⟩=some (.slice a n cap))) (fun ix _=>n-(intOf ix).toNat)
 case atStart=>exact ⟨0,Nat.zero_le _,rfl,rfl,(aN _).out,(by show _=_;simp only [World.cell?];rw [han];rfl)⟩
 case round =>
  obtain ⟨i,hi,rfl,aC,ai,qj⟩:=hrel;by_cases hlt:i<n
  ·obtain ⟨b1,o1,f,sa,sn,sc,arcs,rfl,hbl,hx1,hx2,bS,hz1⟩:=(HA.out.below ai.out lrf).one i hlt;have HZ1:Hid ((sts xs).getD i St.no=⟨f,arcs⟩):=by show _=_;rw [ic,hz1];rfl
   have jc:=hdq bS;have bB:(i:Int)<(n:Int):=omg;obtain ⟨q,hq⟩:∃q,dh n i none arcs=!q:=⟨!dh n i none arcs,by simp⟩;have HQ:=hdq hq;clear bS hz1 hq hbl;go_wp2_with fail;obtain ⟨e1,e2,e3⟩:=three wr (Obj.cells #[.int .i64 (i:Int)] 3) (Obj.cells #[.bool f,.slice sa sn sc] 58) (Obj.cells #[.int .i64 (-1)] 3);have PN:Hid (w.heap.size<wr.heap.size):=bQ qj.out;generalize (((wr.alloc (Obj.cells #[.int .i64 (i:Int)] 3)).alloc (Obj.cells #[.bool f,.slice sa sn sc] 58)).alloc (Obj.cells #[.int .i64 (-1)] 3))=w1 at *;refine (afI (wr.heap.size+1+1) wr.heap.size w.heap.size i n cap sn sc _ sa arcs q w1 e2 (by simp only [World.cell?];rw [e1];rfl) (by rw [e3.cell (p:=⟨w.heap.size,0,none⟩) PN.out];exact qj.out) omg (by have:=PN.out;omega) (jc.out.below e3 lrf) ?_ HQ.out).mono ?_
   ·intro hp b off hb;obtain ⟨b',off',hb',hlt',_⟩:=jc.out.at hp;rw [hb] at hb';simp only [sij,Addr.mk.injEq,and_true] at hb';omega
   ·rintro e w2 ⟨rfl,hg⟩;have HB2:Hid (Below wr.heap.size wr w2):=e3.grown hg e3.size (fun k hk=>by cases hk;omega);clear e1 e2 e3 hg;cases q
    ·go_wp2;go_roundw
     case rel=>exact ⟨i+1,by omega,by go_num,afJ (by rw [HL.out];exact hlt) HZ1.out aC.out HQ.out,ai.out.trans (HB2.out.mono ai.out.size),(by show _=_;rw [HB2.out.cell (p:=⟨w.heap.size,0,none⟩) PN.out];exact qj.out)⟩
     case measure=>simp [intOf];omega
    ·obtain rfl:r=false:=by
      rw [<-HR.out];refine DD (j:=arcs.length) (by rw [HL.out];exact hlt) HZ1.out ?_;rw [HL.out];show dh n i none (arcs.take arcs.length)=false;rw [List.take_length];exact HQ.out
     go_wp2;go_ret;exact ⟨rfl,ai.out.trans (HB2.out.mono ai.out.size)⟩
  ·obtain rfl:i=n:=omg
   have hrr:r=true:=by
    have h:=aC.out;rw [tol (by rw [HL.out];exact Nat.le_refl _)] at h;rw [<-HR.out];unfold check;rw [HL.out,h,decide_eq_true Br.out.1,decide_eq_true Br.out.2];rfl
   subst hrr;go_wp2;go_ret;exact ⟨rfl,ai.out⟩

end
section
open Go.RowKit Go.Maps Go.WideMaps Tri

theorem ahK:laidOutB Tryz.prog=true:=krf
theorem DJ:Keyed Tryz.prog 151:=Keyed.of_law (deep_law_laid ahK (m:=4) omg (by decide +kernel) krf krf)
theorem ahL (w:World):(zeroValue 3).run Tryz.prog w=.ok (.int .i64 0) w:=krf
theorem ahM:Tryz.prog.cellsOf 3=1:=krf
theorem VK:Tryz.prog.cellsOf 151=2:=krf
theorem ahN:Tryz.prog.keyType 151=true:=krf
def jm (f s:Int):Lit:=.string (keyBytes [.int .i64 f,.int .i64 s])
def yE (f s:Int):Value:=.agg #[.int .i64 f,.int .i64 s]
theorem ahO (d:Nat) (f s:Int) (hf:(Lit.int .i64 f).wf=true) (hs:(Lit.int .i64 s).wf=true):Tryz.prog.keyLits (d+2) 151 ([.int .i64 f,.int .i64 s]:List Value)=some ([.int .i64 f,.int .i64 s]:List Lit):=by
 simp [Program.keyLits,Tryz.underlying151,Tryz.underlying3,VK,ahM,List.mapM_cons,hf,hs]
theorem AQ (f s:Int) (hf:(Lit.int .i64 f).wf=true) (hs:(Lit.int .i64 s).wf=true):keyOf Tryz.prog 151 (yE f s)=some (jm f s):=by
 have hk:=ahO (Tryz.prog.types.size-1) f s hf hs
 have hz:Tryz.prog.types.size-1+2=Tryz.prog.types.size+1:=by
  have:1<=Tryz.prog.types.size:=of_decide_eq_true krf;omega
 rw [hz] at hk;unfold keyOf yE;simp only [Tryz.underlying151];rw [if_pos (by simp [ahN,Value.formed,Tryz.underlying151,VK])];rw [show (Value.agg #[.int .i64 f,.int .i64 s]).cells.toList=([.int .i64 f,.int .i64 s]:List Value) from rfl,hk];rfl
theorem ahP {f s f' s':Int} (hf:(Lit.int .i64 f).wf=true) (hs:(Lit.int .i64 s).wf=true) (hf':(Lit.int .i64 f').wf=true) (hs':(Lit.int .i64 s').wf=true) (h:jm f s=jm f' s'):f=f'/\s=s':=by
 have h1:=DJ.inj (AQ f s hf hs) (by rw [h];exact AQ f' s' hf' hs');simpa [yE] using h1

def kC (D:DataW Unit) (f s:Int):Option Int :=
 if (Lit.int .i64 f).wf=true/\(Lit.int .i64 s).wf=true/\has D (jm f s)=true then (match D.atKey (jm f s) (.lit (.int .i64 0)) with|.lit (.int _ c)=>some c|_=>none) else none
theorem VL {D:DataW Unit} {f s c:Int} (hf:(Lit.int .i64 f).wf=true) (hs:(Lit.int .i64 s).wf=true) (h:has D (jm f s)=true) (ha:D.atKey (jm f s) (.lit (.int .i64 0))=.lit (.int .i64 c)):kC D f s=some c:=by
 unfold kC;rw [if_pos ⟨hf,hs,h⟩,ha]
theorem ahQ {D:DataW Unit} {f s:Int} (h:has D (jm f s)=false):kC D f s=none:=by
 unfold kC;rw [if_neg (by rw [h];simp)]
theorem ahR (f s:Int):kC (.map []:DataW Unit) f s=none:=ahQ rfl
theorem ahS {D:DataW Unit} (hD:IsMap D) {f s:Int} (hf:(Lit.int .i64 f).wf=true) (hs:(Lit.int .i64 s).wf=true) (c:Int):kC (D.put (jm f s) (.lit (.int .i64 c))) f s=some c :=
 VL hf hs (has_put_same hD (DJ.key (AQ f s hf hs)) _) (atKey_put_same hD (DJ.key (AQ f s hf hs)) _ _)
theorem ahT {D:DataW Unit} {f s f' s':Int} (hf:(Lit.int .i64 f).wf=true) (hs:(Lit.int .i64 s).wf=true) (hne:¬(f'=f/\s'=s)) (c:Int):kC (D.put (jm f s) (.lit (.int .i64 c))) f' s'=kC D f' s':=by
 unfold kC;by_cases hf':(Lit.int .i64 f').wf=true
 ·by_cases hs':(Lit.int .i64 s').wf=true
  ·have hk:jm f' s'≠jm f s:=fun e=>hne (ahP hf' hs' hf hs e);rw [has_put_other hk,atKey_put_other hk]
  ·rw [if_neg (fun h=>hs' h.2.1),if_neg (fun h=>hs' h.2.1)]
 ·rw [if_neg (fun h=>hf' h.1),if_neg (fun h=>hf' h.1)]

theorem ng {w:World} {B:Nat} {e:TypeId} {size n:Nat} {v:Value} {l:List Value} (h:w.ownsRow B e size v n l) {g:Nat} (hg:v.ownBlock=some g):∃cur,w.heap[g]?=some (.cells cur e (0,0)):=by
 rcases h.2 with ⟨rfl,_⟩|⟨g',cap,cur,rfl,_,hh,_⟩
 ·cases hg
 ·have:g'=g:=by simpa [Value.ownBlock] using hg
  subst this;exact ⟨cur,hh⟩
theorem mg {w:World} {B:Nat} {e:TypeId} {size n k:Nat} {v:Value} {l:List Value} {o:Obj} (h:w.ownsRow B e size v n l) (ho:w.heap[k]?=some o) (hne:∀cur,o≠.cells cur e (0,0)):v.ownBlock=none\/v.ownBlock≠some k:=by
 cases hv:v.ownBlock with
 | none=>exact .inl rfl
 | some g =>
   refine .inr fun e=>?_;cases e;obtain ⟨cur,hc⟩:=ng h hv;rw [ho] at hc;exact hne cur (Option.some.inj hc)
theorem qd {w:World} {B B':Nat} {e e':TypeId} {s s' n n':Nat} {v v':Value} {l l':List Value} (h:w.ownsRow B e s v n l) (h':w.ownsRow B' e' s' v' n' l') (hne:e≠e'):v.ownBlock=none\/v.ownBlock≠v'.ownBlock:=by
 cases hv:v'.ownBlock with
 | none =>
   cases hw:v.ownBlock with
   | none=>exact .inl rfl
   | some g=>exact .inr smp
 | some g =>
   obtain ⟨cur,hc⟩:=ng h' hv;exact mg h hc (fun cur' e=>by simp only [Obj.cells.injEq] at e;exact hne e.2.1.symm)
theorem mh {w:World} {B:Nat} {e:TypeId} {size n k:Nat} {v:Value} {l:List Value} {o:Obj} (h:w.ownsRow B e size v n l) (ho:w.heap[k]?=some o) (hne:∀cur,o≠.cells cur e (0,0)):some k≠v.ownBlock:=by
 intro e;rcases mg h ho hne with h1|h1
 ·rw [h1] at e;cases e
 ·exact h1 e.symm
theorem nY {w:World} {B n c size:Nat} {e:TypeId} {a:OAd} {l:List Value} (h:w.ownsRow B e size (.slice a n c) n l) (hn:0<n):∃b,a=some ⟨b,0,none⟩:=by
 rcases h.2 with ⟨_,h0⟩|⟨g,c',cur,hv,_⟩
 ·omega
 ·simp only [Value.slice.injEq] at hv;exact ⟨g,hv.1⟩
theorem dC (w:World) (p:Addr) (v:Value):w.grownBy (w.setCell p v) (some p.block):=⟨rfl,rfl,rfl,by simp,fun k _ hk=>heap_setCell_other _ _ _ _ (fun e=>hk (by rw [e]))⟩
theorem af {w:World} {g i:Nat} {cs:Array Value} {t:TypeId} (h:w.heap[g]?=some (.cells cs t (0,0))):w.cell? ⟨g,i,none⟩=cs[i]?:=cell_of_row w g i cs t (0,0) h
def dG (w w':World):Prop:=∀(b:Nat) (cur:Array Value) (fr:Nat × Nat),w.heap[b]?=some (Obj.cells cur 3 fr)->w'.heap[b]?=w.heap[b]?
theorem dG.trans {a b c:World} (h:dG a b) (h':dG b c):dG a c:=fun k cur fr hk=>by
 have h1:=h k cur fr hk;exact (h' k cur fr (h1.trans hk)).trans h1
theorem dG.grown {w w':World} {row:Option Nat} (hg:w.grownBy w' row) (hr:∀k,row=some k->∃o,w.heap[k]?=some o/\∀cur fr,o≠Obj.cells cur 3 fr):dG w w':=fun b cur fr hb =>
 hg.block b (hltq hb) (fun e=>by
  obtain ⟨o,ho,hne⟩:=hr b e.symm;rw [hb] at ho
  exact hne cur fr (Option.some.inj ho).symm)
theorem dG.row {w w':World} {B:Nat} {e:TypeId} {size n:Nat} {v:Value} {l:List Value} (hg:w.grownBy w' v.ownBlock) (h:w.ownsRow B e size v n l) (hne:e≠3):dG w w':=dG.grown hg fun k hk=>by
 obtain ⟨cur,hc⟩:=ng h hk;exact ⟨_,hc,fun cur' fr e'=>by simp only [Obj.cells.injEq] at e';exact hne e'.2.1⟩
theorem dG.none {w w':World} (hg:w.grownBy w' none):dG w w':=dG.grown hg fun _ h=>by cases h
theorem dG.owns {w w':World} {B size n:Nat} {v:Value} {l:List Value} (h:dG w w') (ho:w.ownsRow B 3 size v n l):w'.ownsRow B 3 size v n l:=by
 refine ⟨ho.1,?_⟩;rcases ho.2 with h1|⟨g,c,cur,h1,h2,h3,h4⟩
 ·exact .inl h1
 ·exact .inr ⟨g,c,cur,h1,h2,(h g cur _ h3).trans h3,h4⟩

structure Mk (w:World) (B mb mp M:Nat) (sa:OAd) (N c:Nat) (outs:List Sw) (D:DataW Unit):Prop where
 base:B<=mb/\B<=mp
 box:w.heap[mb]?=some (.cells #[.slice sa N c,.map (some mp)] 148 (0,0))
 map:w.ownsMap Tryz.prog 151 (plainElem Tryz.prog 3) mp M D
 row:w.ownsRow B 58 2 (.slice sa N c) N (bT outs)
 arcs:∀x∈outs,w.ownsRow B 95 2 x.s x.n (aL x.arcs)
 wfs:∀x∈outs,∀y∈x.arcs,(Lit.int .i64 y.1).wf=true/\(Lit.int .i64 y.2).wf=true
 apart:outs.Pairwise fun x y=>x.s.ownBlock=none\/x.s.ownBlock≠y.s.ownBlock
theorem Mk.len {w:World} {B mb mp M N c:Nat} {sa:OAd} {outs:List Sw} {D:DataW Unit} (h:Mk w B mb mp M sa N c outs D):outs.length=N:=by
 have:=h.row.1;rw [yx] at this;omega
theorem Mk.mapObj {w:World} {B mb mp M N c:Nat} {sa:OAd} {outs:List Sw} {D:DataW Unit} (h:Mk w B mb mp M sa N c outs D):∃es clock,w.heap[mp]?=some (.map es clock):=by
 obtain ⟨es,clock,hb,_⟩:=h.map;exact ⟨es,clock,hb⟩
theorem Mk.mbmp {w:World} {B mb mp M N c:Nat} {sa:OAd} {outs:List Sw} {D:DataW Unit} (h:Mk w B mb mp M sa N c outs D):mb≠mp:=by
 intro e;obtain ⟨es,clock,hb⟩:=h.mapObj;rw [<-e,h.box] at hb;cases hb
theorem Mk.lt {w:World} {B mb mp M N c:Nat} {sa:OAd} {outs:List Sw} {D:DataW Unit} (h:Mk w B mb mp M sa N c outs D):mb<w.heap.size/\mp<w.heap.size :=
 ⟨(hltq h.box),h.map.lt⟩
theorem Mk.kept {w w':World} {B mb mp M N c:Nat} {sa:OAd} {outs:List Sw} {D:DataW Unit} {row:Option Nat} (h:Mk w B mb mp M sa N c outs D) (hg:w.grownBy w' row) (h1:some mb≠row) (h2:some mp≠row) (h3:(Value.slice sa N c).ownBlock=none\/(Value.slice sa N c).ownBlock≠row)
 (h4:∀x∈outs,x.s.ownBlock=none\/x.s.ownBlock≠row):Mk w' B mb mp M sa N c outs D :=
 ⟨h.base,(hg.block _ h.lt.1 h1).trans h.box,h.map.kept hg h2,h.row.kept hg h3,fun x hx=>(h.arcs x hx).kept hg (h4 x hx),h.wfs,h.apart⟩
theorem or_none (v:Value):v.ownBlock=none\/v.ownBlock≠none:=by cases v.ownBlock<;>simp
theorem Mk.grow {w w':World} {B mb mp M N c:Nat} {sa:OAd} {outs:List Sw} {D:DataW Unit} (h:Mk w B mb mp M sa N c outs D) (hg:w.grownBy w' none):Mk w' B mb mp M sa N c outs D :=
 h.kept hg smp smp (or_none _) (fun x _=>or_none _)
theorem Mk.alloc {w:World} {B mb mp M N c:Nat} {sa:OAd} {outs:List Sw} {D:DataW Unit} (h:Mk w B mb mp M sa N c outs D) (o:Obj):Mk (w.alloc o) B mb mp M sa N c outs D:=h.grow (World.grownBy_alloc w o none)
theorem Mk.drewN {w:World} {B mb mp M N c:Nat} {sa:OAd} {outs:List Sw} {D:DataW Unit} (h:Mk w B mb mp M sa N c outs D) (q:Nat):Mk (w.drewN q) B mb mp M sa N c outs D:=⟨h.base,h.box,h.map,h.row,h.arcs,h.wfs,h.apart⟩
theorem Mk.drew {w:World} {B mb mp M N c:Nat} {sa:OAd} {outs:List Sw} {D:DataW Unit} (h:Mk w B mb mp M sa N c outs D):Mk w.drew B mb mp M sa N c outs D:=⟨h.base,h.box,h.map,h.row,h.arcs,h.wfs,h.apart⟩
theorem Mk.put {w w':World} {B mb mp M N c:Nat} {sa:OAd} {outs:List Sw} {D D':DataW Unit} (h:Mk w B mb mp M sa N c outs D) (hown:w'.ownsMap Tryz.prog 151 (plainElem Tryz.prog 3) mp (M+1) D') (hg:w.grownBy w' (some mp)):Mk w' B mb mp (M+1) sa N c outs D':=by
 obtain ⟨es,clock,hb⟩:=h.mapObj;exact ⟨h.base,(hg.block _ h.lt.1 (by simpa using h.mbmp)).trans h.box,hown,h.row.kept hg (mg h.row hb smp),fun x hx=>(h.arcs x hx).kept hg (mg (h.arcs x hx) hb smp),h.wfs,h.apart⟩
theorem DK:(148:TypeId)≠58:=by decide
theorem VM:(148:TypeId)≠95:=by decide
theorem mi:(58:TypeId)≠95:=by decide
theorem fV {cs cs':Array Value} {t t':TypeId} {fr fr':Nat × Nat} (h:t≠t'):Obj.cells cs t fr≠Obj.cells cs' t' fr':=fun e=>h (by simp only [Obj.cells.injEq] at e;exact e.2.1)
theorem Mk.state {w w':World} {B mb mp M N c c':Nat} {sa a':OAd} {outs:List Sw} {D:DataW Unit} (h:Mk w B mb mp M sa N c outs D) (hrow:w'.ownsRow B 58 2 (.slice a' (N+1) c') (N+1) (bT (outs++[Sw.no]))) (hg:w.grownBy w' (Value.slice sa N c).ownBlock) :
 Mk (w'.setCell ⟨mb,0,none⟩ (.slice a' (N+1) c')) B mb mp M a' (N+1) c' (outs++[Sw.no]) D:=by
 obtain ⟨es,clock,hb⟩:=h.mapObj;have kL:w'.heap[mb]?=some (.cells #[.slice sa N c,.map (some mp)] 148 (0,0)):=(hg.block _ h.lt.1 (mh h.row h.box (fun cur=>fV DK))).trans h.box;have hset:=dC w' ⟨mb,0,none⟩ (.slice a' (N+1) c');have tV:∀x∈outs,w'.ownsRow B 95 2 x.s x.n (aL x.arcs):=fun x hx=>(h.arcs x hx).kept hg (qd (h.arcs x hx) h.row mi.symm);refine ⟨h.base,?_,(h.map.kept hg (mh h.row hb smp)).kept hset (by simpa using h.mbmp.symm),hrow.kept hset (mg hrow kL (fun cur=>fV DK)),?_,?_,?_⟩
 ·rw [heap_setCell_same _ _ _ _ _ _ kL];rfl
 ·intro x hx;rcases map1 hx with hx|hx
  ·exact (tV x hx).kept hset (mg (tV x hx) kL (fun cur=>fV VM))
  ·rw [msg hx];exact World.ownsRow_nil _ _ _ _
 ·intro x hx;rcases map1 hx with hx|hx
  ·exact h.wfs x hx
  ·rw [msg hx];intro y hy;cases hy
 ·rw [List.pairwise_append];refine ⟨h.apart,List.pairwise_singleton _ _,fun x _ y hy=>?_⟩;rw [msg hy];exact or_none _
theorem Jg (xs:List Sw) (f:Nat) (z:Sw):bT (xs.set f z)=((bT xs).set (f*2) z.f).set (f*2+1) z.s:=by
 induction xs generalizing f with
 | nil=>simp [bT]
 | cons x xs ih =>
   cases f with
   | zero=>simp [bT,Sw.cells]
   | succ f =>
     rw [List.set_cons_succ,Dv,ih f,Dv,show (f+1)*2=f*2+2 by omega,show f*2+2+1=f*2+1+2 by omega];simp [Sw.cells]
theorem qf {xs:List Sw} {f:Nat} (h:f<xs.length):(bT xs)[f*2]?=some (xs.getD f Sw.no).f/\(bT xs)[f*2+1]?=some (xs.getD f Sw.no).s :=
 ⟨Dw xs f 0 h omg,Dw xs f 1 h omg⟩
theorem wD {l:List Value} {i:Nat} {v:Value} (h:l[i]?=some v):l.set i v=l:=by
 obtain ⟨hi,e⟩:=List.getElem?_eq_some_iff.1 h;rw [<-e];exact List.set_getElem_self hi
theorem AR {xs:List Sw} {f:Nat} (h:f<xs.length):xs.getD f Sw.no∈xs:=by
 rw [gdq,geg h,Option.getD_some];exact List.getElem_mem _
theorem Jh {xs:List Sw} (h:xs.Pairwise fun x y=>x.s.ownBlock=none\/x.s.ownBlock≠y.s.ownBlock) {i k:Nat} (hi:i<xs.length) (hk:k<xs.length) (hne:i≠k):xs[i].s.ownBlock=none\/xs[i].s.ownBlock≠xs[k].s.ownBlock:=by
 rw [List.pairwise_iff_getElem] at h;rcases Nat.lt_or_gt_of_ne hne with hlt|hgt
 ·exact h i k hi hk hlt
 ·rcases h k i hk hi hgt with h1|h1
  ·rw [h1];exact or_none _
  ·exact .inr h1.symm
theorem Mk.arc {w w':World} {B mb mp M N c sb f c':Nat} {a':OAd} {outs:List Sw} {D:DataW Unit} {x:Sw} {y:Int × Int} (h:Mk w B mb mp M (some ⟨sb,0,none⟩) N c outs D) (hf:f<N) (hx:outs.getD f Sw.no=x)
 (hown:w'.ownsRow B 95 2 (.slice a' (x.n+1) c') (x.n+1) (aL (x.arcs++[y]))) (hg:w.grownBy w' x.s.ownBlock) (hat:(Value.slice a' (x.n+1) c').ownBlock=x.s.ownBlock\/∃g,(Value.slice a' (x.n+1) c').ownBlock=some g/\w.heap.size<=g)
 (hy:(Lit.int .i64 y.1).wf=true/\(Lit.int .i64 y.2).wf=true) :
 Mk (w'.setCell ⟨sb,f*2+1,none⟩ (.slice a' (x.n+1) c')) B mb mp M (some ⟨sb,0,none⟩) N c (outs.set f ⟨x.fin,a',x.n+1,c',x.arcs++[y]⟩) D:=by
 have hlen:=h.len;have hfl:f<outs.length:=omg;have hxm:x∈outs:=by rw [<-hx];exact AR hfl
 have hxo:=h.arcs x hxm;have hxe:outs[f]=x:=by rw [<-hx];simp [hfl]
 obtain ⟨es,clock,hb⟩:=h.mapObj;have kL:w'.heap[mb]?=some (.cells #[.slice (some ⟨sb,0,none⟩) N c,.map (some mp)] 148 (0,0)):=(hg.block _ h.lt.1 (mh hxo h.box (fun cur=>fV VM))).trans h.box;have hrow:w'.ownsRow B 58 2 (.slice (some ⟨sb,0,none⟩) N c) N (bT outs):=h.row.kept hg (qd h.row hxo mi);obtain ⟨Kg,hso⟩:=ng hrow (g:=sb) rfl;have hset:=dC w' ⟨sb,f*2+1,none⟩ (.slice a' (x.n+1) c');have hbs:some mb≠some sb:=mh hrow kL (fun cur=>fV DK)
 have hother:∀i,(hi:i<outs.length)->i≠f->w'.ownsRow B 95 2 outs[i].s outs[i].n (aL outs[i].arcs):=fun i hi hne=>by
  refine (h.arcs _ (List.getElem_mem hi)).kept hg ?_;have:=Jh h.apart hi hfl hne
  rwa [hxe] at this
 refine ⟨h.base,(hset.block _ (hltq kL) hbs).trans kL,(h.map.kept hg (mh hxo hb smp)).kept hset ?_,?_,?_,?_,?_⟩
 ·intro e;obtain ⟨cur,hc⟩:=ng h.row (g:=sb) rfl;have e':mp=sb:=Option.some.inj e;rw [<-e',hb] at hc;cases hc
 ·have h1:=(hrow.stored (f*2+1) (.slice a' (x.n+1) c')).1;rw [Jg,wD (l:=bT outs) (i:=f*2) (v:=Sw.f ⟨x.fin,a',x.n+1,c',x.arcs++[y]⟩)]
  ·exact h1
  ·have:=(qf hfl).1;rw [hx] at this;exact this
 ·intro z hz;obtain ⟨i,hi,rfl⟩:=List.getElem_of_mem hz;have hi':i<outs.length:=by simpa using hi
  rw [List.getElem_set];by_cases hif:f=i
  ·rw [if_pos hif];exact hown.kept hset (mg hown hso (fun cur=>fV mi))
  ·rw [if_neg hif];have ho:=hother i hi' (Ne.symm hif);exact ho.kept hset (mg ho hso (fun cur=>fV mi))
 ·intro z hz;rcases List.mem_or_eq_of_mem_set hz with hz|rfl
  ·exact h.wfs z hz
  ·intro u hu;rcases map1 hu with hu|hu
   ·exact h.wfs x hxm u hu
   ·rw [msg hu];exact hy
 ·have hnew:∀i,(hi:i<outs.length)->i≠f->outs[i].s.ownBlock=none\/outs[i].s.ownBlock≠(Value.slice a' (x.n+1) c').ownBlock:=fun i hi hne=>by
   rcases hat with e|⟨g,e,hge⟩
   ·rw [e];have:=Jh h.apart hi hfl hne
    rwa [hxe] at this
   ·rw [e]
    cases ho:outs[i].s.ownBlock with
    | none=>exact .inl rfl
    | some q =>
      refine .inr fun e'=>?_;cases e';have:=((h.arcs _ (List.getElem_mem hi)).lt _ ho).2;omega
  rw [List.pairwise_iff_getElem];intro i j hi hj hij;have hi':i<outs.length:=by simpa using hi
  have hj':j<outs.length:=by simpa using hj
  rw [List.getElem_set,List.getElem_set];by_cases hif:f=i
  ·rw [if_pos hif,if_neg omg];rcases hnew j hj' omg with e|e
   ·rw [e];exact or_none _
   ·exact .inr (fun e'=>e e'.symm)
  ·rw [if_neg hif];by_cases EE:f=j
   ·rw [if_pos EE];exact hnew i hi' (Ne.symm hif)
   ·rw [if_neg EE];exact List.pairwise_iff_getElem.1 h.apart i j hi' hj' hij
theorem Mk.final {w:World} {B mb mp M N c sb k:Nat} {outs:List Sw} {D:DataW Unit} {x:Sw} (h:Mk w B mb mp M (some ⟨sb,0,none⟩) N c outs D) (hk:k<N) (hx:outs.getD k Sw.no=x) :
 Mk (w.setCell ⟨sb,k*2,none⟩ (.bool true)) B mb mp M (some ⟨sb,0,none⟩) N c (outs.set k ⟨true,x.a,x.n,x.cap,x.arcs⟩) D:=by
 have hlen:=h.len;have hkl:k<outs.length:=omg;have hxm:x∈outs:=by rw [<-hx];exact AR hkl
 have hxe:outs[k]=x:=by rw [<-hx];simp [hkl]
 obtain ⟨es,clock,hb⟩:=h.mapObj;obtain ⟨Kg,hso⟩:=ng h.row (g:=sb) rfl;have hset:=dC w ⟨sb,k*2,none⟩ (.bool true);have hkeep:∀x∈outs,(w.setCell ⟨sb,k*2,none⟩ (.bool true)).ownsRow B 95 2 x.s x.n (aL x.arcs):=fun x hx=>(h.arcs x hx).kept hset (mg (h.arcs x hx) hso (fun cur=>fV mi));refine ⟨h.base,(hset.block _ h.lt.1 (mh h.row h.box (fun cur=>fV DK))).trans h.box,h.map.kept hset ?_,?_,?_,?_,?_⟩
 ·intro e;have e':mp=sb:=Option.some.inj e;rw [<-e',hb] at hso;cases hso
 ·have h1:=(h.row.stored (k*2) (.bool true)).1;rw [Jg,wD (v:=(⟨true,x.a,x.n,x.cap,x.arcs⟩:Sw).s) (i:=k*2+1)]
  ·exact h1
  ·have:=(qf hkl).2;rw [hx] at this;rw [List.getElem?_set_ne omg];exact this
 ·intro z hz;rcases List.mem_or_eq_of_mem_set hz with hz|rfl
  ·exact hkeep z hz
  ·exact hkeep x hxm
 ·intro z hz;rcases List.mem_or_eq_of_mem_set hz with hz|rfl
  ·exact h.wfs z hz
  ·exact h.wfs x hxm
 ·rw [List.pairwise_iff_getElem];intro i j hi hj hij;have hi':i<outs.length:=by simpa using hi
  have hj':j<outs.length:=by simpa using hj
  have h0:=List.pairwise_iff_getElem.1 h.apart i j hi' hj' hij;rw [List.getElem_set,List.getElem_set];by_cases hki:k=i
  ·subst hki;rw [if_pos rfl,if_neg omg];rw [hxe] at h0;exact h0
  ·rw [if_neg hki];by_cases hkj:k=j
   ·subst hkj;rw [if_pos rfl];rw [hxe] at h0;exact h0
   ·rw [if_neg hkj];exact h0
theorem Mk.states {w:World} {B mb mp M N c:Nat} {sa:OAd} {outs:List Sw} {D:DataW Unit} (h:Mk w B mb mp M sa N c outs D):Ss w sa N c outs:=by
 refine Ss.of_owns h.row (fun x hx=>?_) h.len;have:=h.arcs x hx;refine Ars.of_owns this (h.wfs x hx) ?_;have h1:=this.1;rw [uC] at h1;omega

end
end Go.Proofs.YtkiamgcpcneggaaGreat
