import Derived.Test.YtkiamgcpcneggaaGreatPackAJ
import Derived.Test.YtkiamgcpcneggaaGreatDawgProg
set_option linter.all false
set_option maxRecDepth 100000
set_option maxHeartbeats 12800000
namespace Go.Proofs.YtkiamgcpcneggaaGreat
section
open Go.RowKit

theorem UW (a:OAd) (n cap:Nat) (zs:LIn) (w:World) (hs:Sl .i64 w a n cap zs) (hn:n<=100000) :
 Calls Tryz.prog 71 #[.slice a n cap] w fun e w'=>∃a' c',e=.returned (.slice a' n c')/\Sl .i64 w' a' n c' zs/\Below w.heap.size w w':=by
 cases a with
 | none =>
   have h0:n=0:=by
    rcases hs.2.2.2.2 with h|⟨b,off,h,_⟩
    ·exact h
    ·cases h
   subst h0;obtain rfl:zs=[]:=List.eq_nil_of_length_eq_zero hs.1;clear hs hn;have qT:∀(w:World) (a:OAd) (n c:Nat),(binOp .eql 51 (.slice a n c) (.slice none 0 0)).run Tryz.prog w=.ok (.bool a.isNone) w:=fun w a n c=>run_eql_slice_nil w _ _ a n c Tryz.underlying51;go_enter Tryz.func71,Tryz.ntmps71;go_wp2;go_ret;exact ⟨none,0,rfl,Sl.nil,Below.refl _ _⟩
 | some y =>
   refine (IK (some y) n cap zs w hs (fun h=>by cases h) hn).mono ?_;rintro e w' ⟨a',c',rfl,h1,h2⟩;exact ⟨a',c',rfl,Sl.of_owns h1 hs.2.2.2.1 hs.1,h2⟩

theorem afn (a:OAd) (n cap:Nat) (xs:List Rw) (w:World) (hs:Rs w a n cap xs) (hn:n<=200) :
 Calls Tryz.prog 70 #[.slice a n cap] w fun e w'=>∃a' c',e=.returned (.slice a' n c')/\w'.ownsRow w.heap.size 74 3 (.slice a' n c') n (aZ xs)/\(a'=none->c'=0)/\Below w.heap.size w w':=by
 have qT:∀(w:World) (a:OAd) (n c:Nat),(binOp .eql 24 (.slice a n c) (.slice none 0 0)).run Tryz.prog w=.ok (.bool a.isNone) w:=fun w a n c=>run_eql_slice_nil w _ _ a n c Tryz.underlying24
 cases a with
 | none =>
   have h0:n=0:=by
    rcases hs.2.2.2.2 with h|⟨b,off,h,_⟩
    ·exact h
    ·cases h
   subst h0;obtain rfl:xs=[]:=List.eq_nil_of_length_eq_zero hs.1;clear hs hn;go_enter Tryz.func70,Tryz.ntmps70;go_wp2;go_ret;exact ⟨none,0,rfl,UD w _,fun _=>rfl,Below.refl _ _⟩
 | some y =>
   have HS:=hdq hs;have HB0:∀o,Hid (Below w.heap.size w (w.alloc o)):=fun o=>hdq ((Below.refl _ w).alloc lrf o);clear hs;go_enter Tryz.func70,Tryz.ntmps70;go_wp2_with (at_builtin;refine Ay rfq (.tmp 5) (.tmp 6) rfq w.heap.size _ 0 [] rfq (kY w) (some y) n cap xs rfq (HS.out.alloc _) n omg omg smp ?_;intro a' c' w' hown hb _ hnil;have HO:=hdq hown;have HN:=hdq hnil;have HB:Hid (Below w.heap.size w w'):=hdq ((HB0 _).out.trans hb);clear hown hb hnil);go_ret;exact ⟨a',c',rfl,by simpa using HO.out,HN.out,HB.out⟩

theorem afo {l:List Rw} {k:Nat} (hk:k<l.length) (x:Rw) (hc:x.C=(l.getD k Rw.no).C):aZ (l.set k x)=((aZ l).set (k*3) x.l).set (k*3+1) x.rt:=by
 induction l generalizing k with
 | nil=>simp at hk
 | cons y l ih =>
   cases k with
   | zero =>
     rw [List.set_cons_zero,qN,qN];have hc':x.C=y.C:=hc;simp [Rw.cells,Rw.c,hc']
   | succ k =>
     rw [List.set_cons_succ,qN,qN,ih (by simpa using hk) hc];rw [show (k+1)*3=k*3+3 by omega,show k*3+3+1=k*3+1+3 by omega];rfl
theorem afp {l:List Rw} {k:Nat} (hk:k<l.length) (x:Rw) (hx:x.r=(l.getD k Rw.no).r):aA (l.set k x)=aA l:=by
 unfold aA;rw [List.map_set,hx];apply List.ext_getElem?;intro i;rw [List.getElem?_set];by_cases h:k=i
 ·subst h;rw [if_pos rfl];simp [hk,gdq]
 ·rw [if_neg h]
theorem afq {w:World} {B g n c k:Nat} {l:List Rw} (h:w.ownsRow B 74 3 (.slice (some ⟨g,0,none⟩) n c) n (aZ l)) (hk:k<l.length) (x:Rw) (hc:x.C=(l.getD k Rw.no).C) :
 ((w.setCell ⟨g,k*3,none⟩ x.l).setCell ⟨g,k*3+1,none⟩ x.rt).ownsRow B 74 3 (.slice (some ⟨g,0,none⟩) n c) n (aZ (l.set k x)):=by
 rw [afo hk x hc];exact ((h.stored (k*3) x.l).1.stored (k*3+1) x.rt).1
theorem UX {w:World} {b g i j:Nat} {s t:Value} {o:Obj} (h:w.heap[b]?=some o) (hne:b≠g):((w.setCell ⟨g,i,none⟩ s).setCell ⟨g,j,none⟩ t).heap[b]?=some o:=by
 rw [heap_setCell_other _ _ _ _ hne,heap_setCell_other _ _ _ _ hne];exact h

theorem afr {r:aj} (h:chk r=true):r.L.length<=8/\r.R.length<=8:=⟨jl (nX h).1,jl (nX h).2⟩
theorem uD:(Tryz.prog.info? 26).map (·.size)=some 5:=krf
theorem Dz {w:World} {p q:Addr} {u v:Value} (h:w.cell? q=some u) (hne:p≠q):(w.setCell p v).cell? q=some u:=by rw [World.cell?_setCell_other _ _ _ _ hne];exact h
theorem kg {W:World} {B N g i:Nat} {s x y z:Value} (h1:B+1+1<=g) (h2:g<N) (h:W.cell? ⟨B,4,none⟩=some x/\W.cell? ⟨N,0,none⟩=some y/\W.cell? ⟨N,1,none⟩=some z) :
 (W.setCell ⟨g,i,none⟩ s).cell? ⟨B,4,none⟩=some x/\(W.setCell ⟨g,i,none⟩ s).cell? ⟨N,0,none⟩=some y/\(W.setCell ⟨g,i,none⟩ s).cell? ⟨N,1,none⟩=some z :=
 ⟨Dz h.1 (by intro e;simp only [Addr.mk.injEq] at e;omega),Dz h.2.1 (by intro e;simp only [Addr.mk.injEq] at e;omega),Dz h.2.2 (by intro e;simp only [Addr.mk.injEq] at e;omega)⟩
theorem Sl.setS {w:World} {a:OAd} {n cap:Nat} {zs:LIn} {p:Addr} {q:OAd} {m d:Nat} {v:Value} (h:Sl .i64 w a n cap zs) (hp:w.cell? p=some (.slice q m d)):Sl .i64 (w.setCell p v) a n cap zs:=by
 obtain ⟨h1,h2,h3,h4,h5⟩:=h;refine ⟨h1,h2,h3,h4,?_⟩;rcases h5 with h5|⟨b,off,ha,hc⟩
 ·exact .inl h5
 ·refine .inr ⟨b,off,ha,fun i hi=>Dz (hc i hi) fun e=>?_⟩;rw [e,hc i hi] at hp;cases hp
theorem Rw.Good.setS {w:World} {x:Rw} {p:Addr} {q:OAd} {m d:Nat} {v:Value} (h:x.Good w) (hp:w.cell? p=some (.slice q m d)):x.Good (w.setCell p v):=⟨h.1.setS hp,h.2.1.setS hp,h.2.2⟩
theorem Sl.notAt {w w':World} {a:OAd} {n cap k:Nat} {zs:LIn} {cs:Array Value} {t:TypeId} (h:Sl .i64 w a n cap zs) (hk:w.heap[k]?=some (.cells cs t (0,0))) (hno:∀(j:Nat) (z:Int),cs[j]?≠some (.int .i64 z)) (hg:w.grownBy w' (some k)):Sl .i64 w' a n cap zs:=by
 obtain ⟨h1,h2,h3,h4,h5⟩:=h;refine ⟨h1,h2,h3,h4,?_⟩;rcases h5 with h5|⟨b,off,ha,hc⟩
 ·exact .inl h5
 ·refine .inr ⟨b,off,ha,fun i hi=>hg.cell (hc i hi) fun e=>?_⟩;have hb:b=k:=Option.some.inj e;have h6:=hc i hi;subst hb;rw [cell_of_row w _ _ _ _ _ hk] at h6;exact hno _ _ h6
theorem UY (j:Nat) (z:Int):(#[.int .u64 0,.int .u64 0,.int .u64 0,.int .u64 0,.slice none 0 0]:Array Value)[j]?≠some (.int .i64 z):=by
 intro h
 match j,h with
 | 0,h=>simp at h
 | 1,h=>simp at h
 | 2,h=>simp at h
 | 3,h=>simp at h
 | 4,h=>simp at h
 | j+5,h=>simp at h
theorem afs {w w':World} {B k:Nat} {a:OAd} {n c:Nat} {xs:List Rw} (ho:w.ownsRow B 74 3 (.slice a n c) n (aZ xs)) (hg:w.grownBy w' (some k)) (hk:k<B) (hx:∀x∈xs,x.Good w') (hw:Rs w a n c xs):Rs w' a n c xs:=by
 obtain ⟨h1,h2,h3,-,h5⟩:=hw;refine ⟨h1,h2,h3,hx,?_⟩;rcases h5 with h5|⟨b,off,ha,hc⟩
 ·exact .inl h5
 ·rcases Nf ho with h0|⟨g,h6,h7,_⟩
  ·exact .inl h0
  ·rw [ha] at h6;simp only [sij,Addr.mk.injEq] at h6;refine .inr ⟨b,off,ha,fun i hi=>(hc i hi).grown hg ?_⟩;intro e;have:=Option.some.inj e;omega
theorem afu (c:Cw) (w:World) (hc:c.Good w) (hk:File.check c.c=true) :
 Calls Tryz.prog 31 #[c.v] w fun e w'=>∃y:Cw,e=.returned y.v/\y.Good w'/\y.c=c.c/\(y.a=none->y.cap=0)/\Below w.heap.size w w':=by
 obtain ⟨m,l,o,t,a,n,cap,xs⟩:=c;have HX:Hid (Rs w a n cap xs):=hc.1;have bM:Hid (∀z∈[m,l,o,t],0<=z/\z<18446744073709551616):=hc.2;obtain ⟨-,hn,hfit,-⟩:=File.aew hk;have hn:n<=200:=by have h:(aA xs).length<=200:=hn;rw [gP,HX.out.1] at h;exact h
 have JS:Hid (∀z∈aA xs,z.L.length<=8/\z.R.length<=8):=fun z hz=>afr (Spec.fit_parts (hfit z hz)).1;have hmx:Tryz.prog.follows .mixedOrders=true:=krf;obtain ⟨W0,hW0⟩:∃W,W=(w.alloc (.cells #[.int .u64 m,.int .u64 l,.int .u64 o,.int .u64 t,.slice a n cap] 26)).alloc (.cells #[.int .u64 0,.int .u64 0,.int .u64 0,.int .u64 0,.slice none 0 0] 26):=⟨_,rfl⟩;have hs0:W0.heap.size=w.heap.size+1+1:=by rw [hW0,World.size_alloc,World.size_alloc]
 have hb0:Below w.heap.size w W0:=by rw [hW0];exact ((Below.refl _ w).alloc lrf _).alloc smp _
 have hp0:W0.heap[w.heap.size]?=some (.cells #[.int .u64 m,.int .u64 l,.int .u64 o,.int .u64 t,.slice a n cap] 26 (0,0)):=by
  rw [hW0,((Below.refl (w.alloc _).heap.size (w.alloc _)).alloc lrf _).block _ smp];exact han w _
 have hz0:W0.heap[w.heap.size+1]?=some (.cells #[.int .u64 0,.int .u64 0,.int .u64 0,.int .u64 0,.slice none 0 0] 26 (0,0)):=by
  have h:=han (w.alloc (.cells #[.int .u64 m,.int .u64 l,.int .u64 o,.int .u64 t,.slice a n cap] 26)) (.cells #[.int .u64 0,.int .u64 0,.int .u64 0,.int .u64 0,.slice none 0 0] 26);rw [World.size_alloc] at h;rw [hW0];exact h
 have dA:=hdq hs0;have HB0:=hdq hb0;have ou:=hdq hp0;have HZ0:=hdq hz0;have HW0:=hdq hW0;have dF:Hid (xs.length=n):=HX.out.1;clear hc hk hfit hs0 hb0 hp0 hz0 hW0;show Calls _ _ #[.agg #[.int .u64 m,.int .u64 l,.int .u64 o,.int .u64 t,.slice a n cap]] w _;go_enter Tryz.func31,Tryz.ntmps31;go_wp2_with fail;rw [<-HW0.out];refine (afn a n cap xs W0 (HX.out.below HB0.out lrf) hn).mono ?_;rintro e w1 ⟨a',c',rfl,hown,hnil,hb⟩;rw [dA.out] at hown;have gV:=hdq hown;have fu:=hdq hnil;have HB1:Hid (Below w.heap.size w w1):=HB0.out.trans (hb.mono HB0.out.size);have hp1:w1.heap[w.heap.size]?=some (.cells #[.int .u64 m,.int .u64 l,.int .u64 o,.int .u64 t,.slice a n cap] 26 (0,0)):=(hb.block _ (by rw [dA.out];omega)).trans ou.out;have hz1:w1.heap[w.heap.size+1]?=some (.cells #[.int .u64 0,.int .u64 0,.int .u64 0,.int .u64 0,.slice none 0 0] 26 (0,0)):=(hb.block _ (by rw [dA.out];omega)).trans HZ0.out;have tJ:Hid (∀x∈xs,x.Good w1):=fun x hx=>(HX.out.2.2.2.1 x hx).below HB1.out lrf;have hs1:w.heap.size+1+1<=w1.heap.size:=by rw [<-dA.out];exact hb.size
 have bR:=hdq hs1;obtain ⟨W2,hW2⟩:∃W,W=w1.setCell ⟨w.heap.size,4,none⟩ (.slice a' n c'):=⟨_,rfl⟩;have hp2:W2.heap[w.heap.size]?=some (.cells #[.int .u64 m,.int .u64 l,.int .u64 o,.int .u64 t,(.slice a' n c')] 26 (0,0)):=by rw [hW2,heap_setCell_same _ _ _ _ _ _ hp1];rfl
 have hz2:W2.heap[w.heap.size+1]?=some (.cells #[.int .u64 0,.int .u64 0,.int .u64 0,.int .u64 0,.slice none 0 0] 26 (0,0)):=by rw [hW2,heap_setCell_other _ _ _ _ (by show w.heap.size+1≠w.heap.size;omega)];exact hz1
 have iq:Below w.heap.size w W2:=by rw [hW2];exact HB1.out.setCell (p:=⟨w.heap.size,4,none⟩) lrf _
 have hx2:∀x∈xs,x.Good W2:=by
  intro x hx;exact (HX.out.2.2.2.1 x hx).below iq lrf
 have ho2:W2.ownsRow (w.heap.size+1+1) 74 3 (.slice a' n c') n (aZ xs):=by
  rw [hW2];refine ownsRow_setCell_other hown (fun h=>?_) _;have:=(hown.lt _ h).1;exact absurd this (by show ¬_<=w.heap.size;omega)
 have eO:=hdq hp2;have HZ2:=hdq hz2;have HB2:=hdq iq;have HX2:=hdq hx2;have bD:=hdq ho2;have HW2:=hdq hW2;have k4:w1.cell? ⟨w.heap.size,4,none⟩=some (.slice a n cap):=by rw [cell_of_row w1 _ 4 _ _ _ hp1];rfl
 have f4:w1.frozen? ⟨w.heap.size,4,none⟩=false:=frozen_of_row w1 _ 4 _ _ hp1;clear hown hnil hb hp1 hz1 hs1 hW2 hp2 hz2 iq hx2 ho2 ou HZ0 HW0;go_wp2;rw [<-HW2.out];go_loopw [12] (fun ix wr=>∃(i:Nat) (zs:List Rw),i<=n/\ix=.int .i64 (i:Int)/\Hid (zs.length=n/\aA zs=aA xs/\∀x∈zs,x.Good wr)/\Hid (wr.ownsRow (w.heap.size+1+1) 74 3 (.slice a' n c') n (aZ zs))/\Hid (wr.heap[w.heap.size]?=some (.cells #[.int .u64 m,.int .u64 l,.int .u64 o,.int .u64 t,(.slice a' n c')] 26 (0,0)))/\Hid (wr.heap[w.heap.size+1]?=some (.cells #[.int .u64 0,.int .u64 0,.int .u64 0,.int .u64 0,.slice none 0 0] 26 (0,0)))/\Hid (Below w.heap.size w wr)) (fun ix _=>n-(intOf ix).toNat)
 case atStart=>exact ⟨0,xs,Nat.zero_le _,rfl,⟨dF.out,rfl,HX2.out⟩,bD.out,eO.out,HZ2.out,HB2.out⟩
 case round =>
  obtain ⟨i,zs,hi,rfl,qh,HO,HP,HZ,HB⟩:=hrel;by_cases hlt:i<n
  ·obtain ⟨g,rfl,hg1,hg2⟩:∃g,a'=some ⟨g,0,none⟩/\w.heap.size+1+1<=g/\g<wr.heap.size:=by
    rcases Nf HO.out with h|h
    ·omega
    ·exact h
   have hzl:i<zs.length:=by rw [qh.out.1];exact hlt
   obtain ⟨⟨la,ln,lc,L,ra,rn,rc,R,C⟩,hy⟩:∃y,zs.getD i Rw.no=y:=⟨_,rfl⟩;have hym:(⟨la,ln,lc,L,ra,rn,rc,R,C⟩:Rw)∈zs:=by rw [<-hy,gdq,geg hzl,Option.getD_some];exact List.getElem_mem _
   obtain ⟨gl,gr,gc⟩:=qh.out.2.2 _ hym;simp only at gl gr gc;have Bo:(⟨L,R,C⟩:aj)∈aA xs:=by rw [<-qh.out.2.1];exact List.mem_map.2 ⟨_,hym,rfl⟩
   obtain ⟨PK,mD⟩:=JS.out _ Bo;simp only at PK mD;have hln:ln<=8:=by rw [<-gl.1];exact PK
   have hrn:rn<=8:=by rw [<-gr.1];exact mD
   have hat:∀j,j<3->wr.cell? ⟨g,i*3+j,none⟩=(⟨la,ln,lc,L,ra,rn,rc,R,C⟩:Rw).cells[j]?:=fun j hj=>by rw [HO.out.cellAt (i*3+j) omg,Aw zs i j hzl hj,hy]
   have c0:wr.cell? ⟨g,i*3,none⟩=some (.slice la ln lc):=hat 0 omg;have c1:wr.cell? ⟨g,i*3+1,none⟩=some (.slice ra rn rc):=hat 1 omg;have c2:wr.cell? ⟨g,i*3+2,none⟩=some (.int .u64 C):=hat 2 omg;have hltz:(i:Int)<(n:Int):=omg;have mE:=hdq gl;have wN:=hdq gr;have JU:=hdq gc;have HY:=hdq hy;have fw:=hdq hzl;obtain ⟨WA,Er⟩:∃W,W=wr.alloc (.cells #[.slice la ln lc,.slice ra rn rc,.int .u64 C] 74):=⟨_,rfl⟩;have YT:Below wr.heap.size wr WA:=by rw [Er];exact (Below.refl _ wr).alloc lrf _
   have hsA:WA.heap.size=wr.heap.size+1:=by rw [Er,World.size_alloc]
   have YU:WA.heap[wr.heap.size]?=some (.cells #[.slice la ln lc,.slice ra rn rc,.int .u64 C] 74 (0,0)):=by rw [Er];exact han wr _
   have gp:=hdq YT;have JV:=hdq hsA;have Bq:=hdq YU;have mF:=hdq Er;have cO:=hdq hg1;have HG2:=hdq hg2;have uQ:Hid (w.heap.size+1+1<=wr.heap.size):=Nat.le_of_lt (Nat.lt_of_le_of_lt hg1 hg2)
   have aD:Hid (∀W,Below WA.heap.size WA W->W.cell? ⟨w.heap.size,4,none⟩=some (.slice (some ⟨g,0,none⟩) n c')/\W.cell? ⟨wr.heap.size,0,none⟩=some (.slice la ln lc)/\W.cell? ⟨wr.heap.size,1,none⟩=some (.slice ra rn rc)):=by
    intro W hW;have e1:W.heap[w.heap.size]?=_:=(hW.block _ (by rw [JV.out];have:=uQ.out;omega)).trans ((gp.out.block _ (by have:=uQ.out;omega)).trans HP.out);have e2:W.heap[wr.heap.size]?=_:=(hW.block _ (by rw [JV.out];omega)).trans Bq.out;exact ⟨by rw [cell_of_row W _ 4 _ _ _ e1];rfl,by rw [cell_of_row W _ 0 _ _ _ e2];rfl,by rw [cell_of_row W _ 1 _ _ _ e2];rfl⟩
   have HD:Hid (Below WA.heap.size WA WA.drew):=aG (Below.refl _ WA) ⟨1,rfl⟩;have JW:Hid (Below wr.heap.size wr WA.drew):=gp.out.trans (HD.out.mono gp.out.size);clear hat hy hym Bo PK mD gl gr gc YT hsA YU Er hg1 hg2 hzl;go_wp2;rw [<-mF.out];refine wp_region_held_drew (S:=(fun W=>W.cell? ⟨w.heap.size,4,none⟩=some (.slice (some ⟨g,0,none⟩) n c')/\W.cell? ⟨wr.heap.size,0,none⟩=some (.slice la ln lc)/\W.cell? ⟨wr.heap.size,1,none⟩=some (.slice ra rn rc))) krf (by first|(first|exact aD.out _ HD.out|exact aD.out _ (Below.refl _ _)|exact aD.out _ B5.out|exact aD.out _ B6.out|exact kg cO.out HG2.out (aD.out _ B6.out)|exact kg cO.out HG2.out (kg cO.out HG2.out (aD.out _ B6.out)))|((try dsimp only);first|exact aD.out _ HD.out|exact aD.out _ (Below.refl _ _)|exact aD.out _ B5.out|exact aD.out _ B6.out|exact kg cO.out HG2.out (aD.out _ B6.out)|exact kg cO.out HG2.out (kg cO.out HG2.out (aD.out _ B6.out)))) (fun hHeld=>?_);refine t_h 0 ?_;refine t_h 1 ?_;refine t_h 2 ?_;refine t_h 3 ?_;refine t_h 4 ?_;refine t_h 5 ?_;refine t_h 6 ?_;refine t_h 7 ?_;refine t_h 9 ?_;refine t_h 10 ?_;refine r_h 8 (fun K hK=>?_);go_simp;refine (UW la ln lc L _ (mE.out.below JW.out lrf) omg).mono ?_;rintro e w5 ⟨a5,c5,rfl,h5,b5⟩;have H5:=hdq h5;have B5:Hid (Below WA.heap.size WA w5):=HD.out.trans b5;clear h5 b5;refine k_h hK (by (try dsimp only);first|exact aD.out _ HD.out|exact aD.out _ (Below.refl _ _)|exact aD.out _ B5.out|exact aD.out _ B6.out|exact kg cO.out HG2.out (aD.out _ B6.out)|exact kg cO.out HG2.out (kg cO.out HG2.out (aD.out _ B6.out))) (fun hHeld=>?_);clear hK K;refine r_h 11 (fun K hK=>?_);go_simp;refine (UW ra rn rc R _ (wN.out.below (gp.out.trans (B5.out.mono gp.out.size)) lrf) omg).mono ?_;rintro e w6 ⟨a6,c6,rfl,h6,b6⟩;have H6:=hdq h6;have B6:Hid (Below WA.heap.size WA w6):=B5.out.trans (b6.mono B5.out.size);have H56:Hid (Sl .i64 w6 a5 ln c5 L):=H5.out.below b6 lrf;have ai:Hid (Below wr.heap.size wr w6):=gp.out.trans (B6.out.mono gp.out.size);have jq:Hid (w6.ownsRow (w.heap.size+1+1) 74 3 (.slice (some ⟨g,0,none⟩) n c') n (aZ zs)):=ownsRow_below HO.out ai.out lrf;have ff0:w6.frozen? ⟨g,i*3,none⟩=false:=jq.out.frozenAt _;have ff1:w6.frozen? ⟨g,i*3+1,none⟩=false:=jq.out.frozenAt _;have cc0:w6.cell? ⟨g,i*3,none⟩=some (.slice la ln lc):=by rw [ai.out.cell (p:=⟨g,i*3,none⟩) HG2.out];exact c0
   have cc1:w6.cell? ⟨g,i*3+1,none⟩=some (.slice ra rn rc):=by rw [ai.out.cell (p:=⟨g,i*3+1,none⟩) HG2.out];exact c1
   have Es:=hdq cc0;have PL:Hid ((w6.setCell ⟨g,i*3,none⟩ (.slice a5 ln c5)).cell? ⟨g,i*3+1,none⟩=some (.slice ra rn rc)):=Dz cc1 (by intro e;simp only [Addr.mk.injEq] at e;omega);clear h6 b6;refine k_h hK (by (try dsimp only);first|exact aD.out _ HD.out|exact aD.out _ (Below.refl _ _)|exact aD.out _ B5.out|exact aD.out _ B6.out|exact kg cO.out HG2.out (aD.out _ B6.out)|exact kg cO.out HG2.out (kg cO.out HG2.out (aD.out _ B6.out))) (fun hHeld=>?_);clear hK K;refine t_h 12 ?_;refine t_h 13 ?_;refine r_h 14 (fun K hK=>?_);go_simp;refine k_h hK (by (try dsimp only);first|exact aD.out _ HD.out|exact aD.out _ (Below.refl _ _)|exact aD.out _ B5.out|exact aD.out _ B6.out|exact kg cO.out HG2.out (aD.out _ B6.out)|exact kg cO.out HG2.out (kg cO.out HG2.out (aD.out _ B6.out))) (fun hHeld=>?_);clear hK K;refine t_h 15 ?_;refine t_h 16 ?_;refine r_h 17 (fun K hK=>?_);go_simp;refine k_h hK (by (try dsimp only);first|exact aD.out _ HD.out|exact aD.out _ (Below.refl _ _)|exact aD.out _ B5.out|exact aD.out _ B6.out|exact kg cO.out HG2.out (aD.out _ B6.out)|exact kg cO.out HG2.out (kg cO.out HG2.out (aD.out _ B6.out))) (fun hHeld=>?_);clear hK K;refine wpAnyH_done krf ?_ _;have jr:=hdq hHeld;clear hHeld;go_wp2;go_roundw
   case rel =>
    have hyC:C=(zs.getD i Rw.no).C:=by rw [HY.out]
    refine ⟨i+1,zs.set i ⟨a5,ln,c5,L,a6,rn,c6,R,C⟩,by omega,by go_num,hdq ⟨?_,?_,?_⟩,hdq ?_,hdq ?_,hdq ?_,hdq ?_⟩
    ·rw [List.length_set];exact qh.out.1
    ·rw [afp fw.out _ (by rw [HY.out];rfl)];exact qh.out.2.1
    ·intro x hx;rcases List.mem_or_eq_of_mem_set hx with hx|rfl
     ·exact (((qh.out.2.2 x hx).below ai.out lrf).setS Es.out).setS PL.out
     ·exact ⟨(H56.out.setS Es.out).setS PL.out,(H6.out.setS Es.out).setS PL.out,JU.out⟩
    ·exact afq jq.out fw.out ⟨a5,ln,c5,L,a6,rn,c6,R,C⟩ hyC
    ·exact UX ((ai.out.block _ (by have:=uQ.out;omega)).trans HP.out) (by have:=cO.out;omega)
    ·exact UX ((ai.out.block _ (by have:=uQ.out;omega)).trans HZ.out) (by have:=cO.out;omega)
    ·exact ((HB.out.trans (ai.out.mono HB.out.size)).setCell (p:=⟨g,i*3,none⟩) (by have:=cO.out;show _<=g;omega) _).setCell (p:=⟨g,i*3+1,none⟩) (by have:=cO.out;show _<=g;omega) _
   case measure=>simp [intOf];omega
  ·obtain rfl:i=n:=omg;have HOW:=HO
   have HWZ:Hid (∀w',wr.grownBy w' (some (w.heap.size+1))->Cw.Good w' ⟨m,l,o,t,a',i,c',zs⟩/\Below w.heap.size w w'):=by
    intro w' hg
    have hzg:∀x∈zs,x.Good w':=fun x hx=>by
     obtain ⟨g1,g2,g3⟩:=qh.out.2.2 x hx;exact ⟨g1.notAt HZ.out UY hg,g2.notAt HZ.out UY hg,g3⟩
    exact ⟨⟨afs HO.out hg omg hzg (Rs.of_owns HO.out qh.out.2.2 qh.out.1),bM.out⟩,HB.out.grown hg HB.out.size (fun k hk=>by cases hk;omega)⟩
   go_wp2_with first
    | (refine eQ rfq 26 (.tmp 1) rfq w.heap.size rfq 26 #[.int .u64 m,.int .u64 l,.int .u64 o,.int .u64 t,.slice a' i c'] (0,0) _ HP.out Tryz.underlying26 rfq (show _=some (#[.int .u64 m,.int .u64 l,.int .u64 o,.int .u64 t,.slice a' i c']:Array Value).size from uD) ?_)
    | (refine gQ rfq 26 (.tmp 2) (.tmp 34) rfq (w.heap.size+1) #[.int .u64 m,.int .u64 l,.int .u64 o,.int .u64 t,.slice a' i c'] rfq rfq 26 #[.int .u64 0,.int .u64 0,.int .u64 0,.int .u64 0,.slice none 0 0] HZ.out (show _=some (#[.int .u64 m,.int .u64 l,.int .u64 o,.int .u64 t,.slice a' i c']:Array Value).size from uD) rfl (by simp [Value.oneCell']) ?_;intro w9 jv jw ow;have jb:=hdq jv;have lJ:=hdq (HWZ.out _ jw);clear jv jw ow)
   refine bodyPost_ret (results_cell_row rfq _ _ (w.heap.size+1) 26 _ (0,0) _ rfq jb.out Tryz.underlying26 rfq krf) rfl ?_;exact ⟨⟨m,l,o,t,a',i,c',zs⟩,rfl,lJ.out.1,by show File.Cst.mk _ _=File.Cst.mk _ _;rw [qh.out.2.1];rfl,fu.out,lJ.out.2⟩

end
section
theorem z41 {P:Prop} (h:P:=by
 match j,h with
 | 0,h=>simp at h
 | 1,h=>simp at h
 | 2,h=>simp at h
 | 3,h=>simp at h
 | 4,h=>simp at h
 | 5,h=>simp at h
 | j+6,h=>simp at h):P:=h
open Go.RowKit Tri

def Idle (cs:Array Value):Prop :=
 (∀(j:Nat) (z:Int),cs[j]?≠some (.int .i64 z))/\(∀(j:Nat) (b:Bool),cs[j]?≠some (.bool b))/\(∀(j:Nat) (a a':OAd) (n c n' c':Nat),cs[j]?=some (.slice a n c)->cs[j+1]?≠some (.slice a' n' c'))
theorem Yo:Idle #[Value.slice none 0 0,Value.int .u64 0,Value.int .u64 0,Value.int .u64 0,Value.int .u64 0,Value.slice none 0 0]:=by
 refine ⟨fun j z h=>?_,fun j b h=>?_,fun j a a' n c n' c' h h'=>?_⟩
 ·exact z41
 ·exact z41
 ·match j,h,h' with
  | 0,h,h'=>simp at h'
  | 1,h,h'=>simp at h
  | 2,h,h'=>simp at h
  | 3,h,h'=>simp at h
  | 4,h,h'=>simp at h
  | 5,h,h'=>simp at h'
  | j+6,h,h'=>simp at h
section
variable {w w':World} {k:Nat} {cs:Array Value} {t:TypeId} (hk:w.heap[k]?=some (.cells cs t (0,0))) (hno:Idle cs) (hg:w.grownBy w' (some k))
include hk hno hg
theorem Ars.notAt {a:OAd} {n cap:Nat} {l:List (Int × Int)} (h:Ars w a n cap l):Ars w' a n cap l:=by
 obtain ⟨h1,h2,h3,h4,h5⟩:=h;refine ⟨h1,h2,h3,h4,?_⟩;rcases h5 with h5|⟨b,off,ha,hc⟩
 ·exact .inl h5
 ·refine .inr ⟨b,off,ha,fun i hi=>?_⟩
  have hb:some b≠some k:=fun e=>by
   have hb:b=k:=Option.some.inj e;have h6:=(hc i hi).1;subst hb;rw [cell_of_row w _ _ _ _ _ hk] at h6;exact hno.1 _ _ h6
  exact ⟨hg.cell (hc i hi).1 hb,hg.cell (hc i hi).2 hb⟩
theorem Ss.notAt {a:OAd} {n cap:Nat} {xs:List Sw} (h:Ss w a n cap xs):Ss w' a n cap xs:=by
 obtain ⟨h1,h2,h3,h4,h5⟩:=h;refine ⟨h1,h2,h3,fun x hx=>Ars.notAt hk hno hg (h4 x hx),?_⟩;rcases h5 with h5|⟨b,off,ha,hc⟩
 ·exact .inl h5
 ·refine .inr ⟨b,off,ha,fun i hi=>?_⟩
  have hb:some b≠some k:=fun e=>by
   have hb:b=k:=Option.some.inj e;have h6:=(hc i hi).1;subst hb;rw [cell_of_row w _ _ _ _ _ hk] at h6;exact hno.2.1 _ _ h6
  exact ⟨hg.cell (hc i hi).1 hb,hg.cell (hc i hi).2 hb⟩
theorem Rs.notAt {a:OAd} {n cap:Nat} {xs:List Rw} (h:Rs w a n cap xs):Rs w' a n cap xs:=by
 obtain ⟨h1,h2,h3,h4,h5⟩:=h;refine ⟨h1,h2,h3,fun x hx=>⟨(h4 x hx).1.notAt hk hno.1 hg,(h4 x hx).2.1.notAt hk hno.1 hg,(h4 x hx).2.2⟩,?_⟩;rcases h5 with h5|⟨b,off,ha,hc⟩
 ·exact .inl h5
 ·refine .inr ⟨b,off,ha,fun i hi=>(hc i hi).grown hg fun e=>?_⟩;have hb:b=k:=Option.some.inj e;obtain ⟨h6,h7,-⟩:=hc i hi;subst hb;rw [cell_of_row w _ _ _ _ _ hk] at h6 h7;exact hno.2.2 _ _ _ _ _ _ _ h6 h7
theorem Iw.Good.notAt {x:Iw} (h:x.Good w):x.Good w':=⟨Ss.notAt hk hno hg h.1,Rs.notAt hk hno hg h.2.1,h.2.2⟩
end

def wK (w w':World) (e:Ending) (g:Img.Im × Int):Prop :=
 ∃y:Iw,e=.returned (.tuple #[y.v,.int .i64 g.2])/\y.Good w'/\y.im=g.1/\((y.a=none->y.cap=0)/\(y.c.a=none->y.c.cap=0))/\Below w.heap.size w w'
def JK:Iw:=⟨none,0,0,[],⟨0,0,0,0,none,0,0,[]⟩⟩
theorem Yp (w:World):JK.Good w:=⟨Ss.nil,Rs.nil,by intro z hz;simp [Cw.base,JK] at hz;omega⟩
theorem wK.no {w w':World} {er:Int} (hb:Below w.heap.size w w'):wK w w' (.returned (.tuple #[.agg #[Value.slice none 0 0,Value.int .u64 0,Value.int .u64 0,Value.int .u64 0,Value.int .u64 0,Value.slice none 0 0],.int .i64 er])) (Img.Im.no,er) :=
 ⟨JK,rfl,Yp w',rfl,⟨fun _=>rfl,fun _=>rfl⟩,hb⟩

theorem JL (a:OAd) (n cap:Nat) (xs:List Wd) (c:Cw) (g:Img.Im × Int) (w:World) (hs:Ws w a n cap xs) (hnil:a=none->cap=0) (hc:c.Good w) (hg:Shp.mk (nums xs) c.c=g) :
 Calls Tryz.prog 12 #[.slice a n cap,c.v] w fun e w'=>wK w w' e g:=by
 obtain ⟨m,l,o,t,ra,rn,bJ,rs⟩:=c;obtain ⟨⟨L,er⟩,hd⟩:∃p,og (nums xs)=p:=⟨_,rfl⟩;obtain ⟨d,BN⟩:∃d,File.check (Cw.c ⟨m,l,o,t,ra,rn,bJ,rs⟩)=d:=⟨_,rfl⟩;have HS:=hdq hs;have fu:=hdq hnil;have HC:=hdq hc;have HD:=hdq hd;have xS:=hdq BN;have HG:=hdq hg;obtain ⟨W0,hW0⟩:∃W,W=(w.alloc (.cells #[Value.int .u64 m,Value.int .u64 l,Value.int .u64 o,Value.int .u64 t,Value.slice ra rn bJ] 26)).alloc (.cells #[Value.slice none 0 0,Value.int .u64 0,Value.int .u64 0,Value.int .u64 0,Value.int .u64 0,Value.slice none 0 0] 28):=⟨_,rfl⟩;have hs0:W0.heap.size=w.heap.size+1+1:=by rw [hW0,World.size_alloc,World.size_alloc]
 have hb0:Below w.heap.size w W0:=by rw [hW0];exact ((Below.refl _ w).alloc lrf _).alloc smp _
 have hp0:W0.heap[w.heap.size]?=some (.cells #[Value.int .u64 m,Value.int .u64 l,Value.int .u64 o,Value.int .u64 t,Value.slice ra rn bJ] 26 (0,0)):=by
  rw [hW0,((Below.refl (w.alloc _).heap.size (w.alloc _)).alloc lrf _).block _ smp];exact han w _
 have hz0:W0.heap[w.heap.size+1]?=some (.cells #[Value.slice none 0 0,Value.int .u64 0,Value.int .u64 0,Value.int .u64 0,Value.int .u64 0,Value.slice none 0 0] 28 (0,0)):=by
  have h:=han (w.alloc (.cells #[Value.int .u64 m,Value.int .u64 l,Value.int .u64 o,Value.int .u64 t,Value.slice ra rn bJ] 26)) (.cells #[Value.slice none 0 0,Value.int .u64 0,Value.int .u64 0,Value.int .u64 0,Value.int .u64 0,Value.slice none 0 0] 28);rw [World.size_alloc] at h;rw [hW0];exact h
 have dA:=hdq hs0;have HB0:=hdq hb0;have ou:=hdq hp0;have HZ0:=hdq hz0;have HW0:=hdq hW0;clear hs hnil hc hd BN hg hs0 hb0 hp0 hz0 hW0;show Calls _ _ #[.slice a n cap,.agg #[Value.int .u64 m,Value.int .u64 l,Value.int .u64 o,Value.int .u64 t,Value.slice ra rn bJ]] w _;go_enter Tryz.func12,Tryz.ntmps12;go_wp2_with fail;rw [<-HW0.out];refine (akX a n cap xs (L,er) W0 (HS.out.below HB0.out lrf) fu.out HD.out).mono ?_;rintro e w1 ⟨a1,n1,c1,ys,rfl,hs1,hst,Hm,hb⟩;have bR:=hdq hs1;have HST:=hdq hst;have Tc:=hdq Hm;have HB1:Hid (Below w.heap.size w w1):=HB0.out.trans (hb.mono HB0.out.size);have kK:Hid (w1.heap[w.heap.size]?=some (.cells #[Value.int .u64 m,Value.int .u64 l,Value.int .u64 o,Value.int .u64 t,Value.slice ra rn bJ] 26 (0,0))):=(hb.block _ (by rw [dA.out];omega)).trans ou.out;have HZ1:Hid (w1.heap[w.heap.size+1]?=some (.cells #[Value.slice none 0 0,Value.int .u64 0,Value.int .u64 0,Value.int .u64 0,Value.int .u64 0,Value.slice none 0 0] 28 (0,0))):=(hb.block _ (by rw [dA.out];omega)).trans HZ0.out;clear hs1 hst Hm hb ou HZ0 HB0 HW0;have hG:=HG.out;unfold Shp.mk at hG;rw [HD.out] at hG;by_cases h0:er=0
 ·subst h0;rw [if_pos rfl] at hG;have hz:((0:Int)==0)=true:=rfl;have ru:=hdq hG;clear hG;go_wp2_with (refine eQ rfq 26 (.tmp 3) rfq w.heap.size rfq 26 #[Value.int .u64 m,Value.int .u64 l,Value.int .u64 o,Value.int .u64 t,Value.slice ra rn bJ] (0,0) _ kK.out Tryz.underlying26 rfq (show _=some (#[Value.int .u64 m,Value.int .u64 l,Value.int .u64 o,Value.int .u64 t,Value.slice ra rn bJ]:Array Value).size from uD) ?_);refine (Vz ⟨m,l,o,t,ra,rn,bJ,rs⟩ d _ (HC.out.below HB1.out lrf) xS.out).mono ?_;rintro e w2 ⟨rfl,hb⟩;have HB2:Hid (Below w.heap.size w w2):=HB1.out.trans (hb.mono HB1.out.size);have eO:Hid (w2.heap[w.heap.size]?=some (.cells #[Value.int .u64 m,Value.int .u64 l,Value.int .u64 o,Value.int .u64 t,Value.slice ra rn bJ] 26 (0,0))):=(hb.block _ (hltq kK.out)).trans kK.out;have HZ2:Hid (w2.heap[w.heap.size+1]?=some (.cells #[Value.slice none 0 0,Value.int .u64 0,Value.int .u64 0,Value.int .u64 0,Value.int .u64 0,Value.slice none 0 0] 28 (0,0))):=(hb.block _ (hltq HZ1.out)).trans HZ1.out;have HS2:=hdq (bR.out.below hb lrf);clear hb
  cases d with
  | false =>
    obtain rfl:g=(Img.Im.no,60):=by
     have h:=ru.out;rw [if_neg (by rw [xS.out];exact Bool.noConfusion)] at h;exact h.symm
    go_wp2_with (refine gQ rfq 28 (.tmp 4) (.tmp 20) rfq (w.heap.size+1) #[Value.slice none 0 0,Value.int .u64 0,Value.int .u64 0,Value.int .u64 0,Value.int .u64 0,Value.slice none 0 0] rfq rfq 28 #[Value.slice none 0 0,Value.int .u64 0,Value.int .u64 0,Value.int .u64 0,Value.int .u64 0,Value.slice none 0 0] HZ2.out (show _=some (#[Value.slice none 0 0,Value.int .u64 0,Value.int .u64 0,Value.int .u64 0,Value.int .u64 0,Value.slice none 0 0]:Array Value).size from kF) rfl (by simp [Value.oneCell']) ?_;intro w9 jv jw ow;have jb:=hdq jv;have lJ:=hdq jw;clear jv jw ow);refine bodyPost_ret (mW rfq _ _ (w.heap.size+1) 28 _ (0,0) _ rfq jb.out Tryz.underlying28 rfq krf) rfl ?_;exact wK.no (HB2.out.grown lJ.out HB2.out.size (fun k hk=>by cases hk;omega))
  | true =>
    obtain rfl:g=(⟨L,Cw.c ⟨m,l,o,t,ra,rn,bJ,rs⟩⟩,0):=by
     have h:=ru.out;rw [if_pos xS.out] at h;exact h.symm
    go_wp2_with (refine eQ rfq 26 (.tmp 3) rfq w.heap.size rfq 26 #[Value.int .u64 m,Value.int .u64 l,Value.int .u64 o,Value.int .u64 t,Value.slice ra rn bJ] (0,0) _ eO.out Tryz.underlying26 rfq (show _=some (#[Value.int .u64 m,Value.int .u64 l,Value.int .u64 o,Value.int .u64 t,Value.slice ra rn bJ]:Array Value).size from uD) ?_);refine (afu ⟨m,l,o,t,ra,rn,bJ,rs⟩ _ (HC.out.below HB2.out lrf) xS.out).mono ?_;rintro e w3 ⟨⟨m',l',o',t',iU,iV,Td,rs'⟩,rfl,hyg,uk,hyn,hb⟩;have HB3:Hid (Below w.heap.size w w3):=HB2.out.trans (hb.mono HB2.out.size);have HZ3:Hid (w3.heap[w.heap.size+1]?=some (.cells #[Value.slice none 0 0,Value.int .u64 0,Value.int .u64 0,Value.int .u64 0,Value.int .u64 0,Value.slice none 0 0] 28 (0,0))):=(hb.block _ (hltq HZ2.out)).trans HZ2.out;have Ad:=hdq (HS2.out.below hb lrf);have LG:=hdq hyg;have HYC:=hdq uk;have xU:=hdq hyn;clear hb hyg uk hyn;simp only [Cw.v,Cw.cells];go_wp2_with (refine gQ rfq 28 (.tmp 4) (.tmp 24) rfq (w.heap.size+1) #[Value.slice a1 n1 c1,Value.int .u64 m',Value.int .u64 l',Value.int .u64 o',Value.int .u64 t',Value.slice iU iV Td] rfq rfq 28 #[Value.slice none 0 0,Value.int .u64 0,Value.int .u64 0,Value.int .u64 0,Value.int .u64 0,Value.slice none 0 0] HZ3.out (show _=some (#[Value.slice a1 n1 c1,Value.int .u64 m',Value.int .u64 l',Value.int .u64 o',Value.int .u64 t',Value.slice iU iV Td]:Array Value).size from kF) rfl (by simp [Value.oneCell']) ?_;intro w9 jv jw ow;have jb:=hdq jv;have lJ:=hdq jw;clear jv jw ow);refine bodyPost_ret (mW rfq _ _ (w.heap.size+1) 28 _ (0,0) _ rfq jb.out Tryz.underlying28 rfq krf) rfl ?_;refine ⟨⟨a1,n1,c1,ys,⟨m',l',o',t',iU,iV,Td,rs'⟩⟩,rfl,?_,?_,⟨Tc.out,xU.out⟩,HB3.out.grown lJ.out HB3.out.size (fun k hk=>by cases hk;omega)⟩
    ·exact Iw.Good.notAt HZ3.out Yo lJ.out ⟨Ad.out,LG.out⟩
    ·show Img.Im.mk _ _=Img.Im.mk _ _;rw [HYC.out];rw [show sts ys=L from HST.out]
 ·rw [if_neg h0] at hG;subst hG;have hz:(er==0)=false:=by simp [h0]
  go_wp2_with (refine gQ rfq 28 (.tmp 4) (.tmp 15) rfq (w.heap.size+1) #[Value.slice none 0 0,Value.int .u64 0,Value.int .u64 0,Value.int .u64 0,Value.int .u64 0,Value.slice none 0 0] rfq rfq 28 #[Value.slice none 0 0,Value.int .u64 0,Value.int .u64 0,Value.int .u64 0,Value.int .u64 0,Value.slice none 0 0] HZ1.out (show _=some (#[Value.slice none 0 0,Value.int .u64 0,Value.int .u64 0,Value.int .u64 0,Value.int .u64 0,Value.slice none 0 0]:Array Value).size from kF) rfl (by simp [Value.oneCell']) ?_;intro w9 jv jw ow;have jb:=hdq jv;have lJ:=hdq jw;clear jv jw ow);refine bodyPost_ret (mW rfq _ _ (w.heap.size+1) 28 _ (0,0) _ rfq jb.out Tryz.underlying28 rfq krf) rfl ?_;exact wK.no (HB1.out.grown lJ.out HB1.out.size (fun k hk=>by cases hk;omega))

end
end Go.Proofs.YtkiamgcpcneggaaGreat
