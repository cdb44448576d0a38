import Derived.Test.YtkiamgcpcneggaaGreatPackAG
import Derived.Test.YtkiamgcpcneggaaGreatPackU
import Derived.WalkSpells
import Derived.Lib.SmallJoins
set_option linter.all false
set_option maxRecDepth 100000
set_option maxHeartbeats 12800000
namespace Go.Proofs.YtkiamgcpcneggaaGreat
section
open Go.RowKit

theorem IK (a:OAd) (n cap:Nat) (zs:LIn) (w:World) (hs:Sl .i64 w a n cap zs) (hnil:a=none->cap=0) (hn:n<=100000) :
 Calls Tryz.prog 71 #[.slice a n cap] w fun e w'=>∃a' c',e=.returned (.slice a' n c')/\w'.ownsRow w.heap.size 3 1 (.slice a' n c') n (ay zs)/\Below w.heap.size w w':=by
 cases a with
 | none =>
   obtain rfl:=hnil rfl;obtain rfl:n=0:=by have:=hs.2.1;omega
   obtain rfl:zs=[]:=List.eq_nil_of_length_eq_zero hs.1;clear hs hnil;have qT:∀(w:World) (a:OAd) (n c:Nat),(binOp .eql 51 (.slice a n c) (.slice none 0 0)).run Tryz.prog w=.ok (.bool a.isNone) w:=fun w a n c=>run_eql_slice_nil w _ _ a n c Tryz.underlying51;go_enter Tryz.func71,Tryz.ntmps71;go_wp2;go_ret;exact ⟨none,0,rfl,World.ownsRow_nil w _ _ _,Below.refl _ _⟩
 | some y =>
   have HS:=hdq hs;have HB0:∀o,Hid (Below w.heap.size w (w.alloc o)):=fun o=>hdq ((Below.refl _ w).alloc lrf o);clear hs hnil;have qT:∀(w:World) (a:OAd) (n c:Nat),(binOp .eql 51 (.slice a n c) (.slice none 0 0)).run Tryz.prog w=.ok (.bool a.isNone) w:=fun w a n c=>run_eql_slice_nil w _ _ a n c Tryz.underlying51;go_enter Tryz.func71,Tryz.ntmps71;go_wp2_with (at_builtin;refine MM rfq (.tmp 5) (.tmp 6) rfq w.heap.size _ 0 [] rfq (MN w) (some y) n cap zs rfq (HS.out.alloc _) smp n omg omg smp ?_;intro a' c' w' hown hb hnil;have HO:=hdq hown;have HB:Hid (Below w.heap.size w w'):=hdq ((HB0 _).out.trans hb);clear hown hb hnil);go_ret;exact ⟨a',c',rfl,by simpa using HO.out,HB.out⟩

end
section
open Go.RowKit Tri

theorem XX {w:World} {ops:Array Oper} {o:Oper} {act:Act} {K:Act->World->Prop} {Q:Exit->Act->World->Prop} {E:Prop} (hw:Region.wanted o (yielded ops act.tmps)=true) (x:Operand) (s:Int)
 (ho:o.op=.buildSlice 51 1 #[(0,x)]) (hx:act.eval x=.int .i64 s) (h:∀g w',w'.cell? ⟨g,0,none⟩=some (.int .i64 s)->Below w.heap.size w w'->K (act.put o.dst (.slice (some ⟨g,0,none⟩) 1 1)) w') :
 if Region.wanted o (yielded ops act.tmps)=true then o.wp Tryz.prog act w K Q else E:=by
 rw [if_pos hw];unfold Oper.wp;simp only [execOp,ho,List.map_toArray,List.map_cons,List.map_nil,hx];go_simp;exact h _ _ (by rw [World.cell?,han];rfl) ((Below.refl _ w).alloc lrf _)
theorem XY {w:World} {ops:Array Oper} {o:Oper} {act:Act} {K:Act->World->Prop} {Q:Exit->Act->World->Prop} {E:Prop} (hw:Region.wanted o (yielded ops act.tmps)=true) (s x:Operand)
 (ho:o.op=.call { callee:=.builtin .append,args:=#[s,x],argTypes:=#[51,51] }) (base:Nat) (v:Value) (n:Nat) (zs:LIn) (hs:act.eval s=v)
 (hown:w.ownsRow base 3 1 v n (ay zs)) (g:Nat) (y:Int) (hx:act.eval x=.slice (some ⟨g,0,none⟩) 1 1) (hc:w.cell? ⟨g,0,none⟩=some (.int .i64 y))
 (N:Nat) (hN:n+1=N) (h63:N*8<=140737488355328) (hbase:base<=w.heap.size)
 (h:∀a' c' w',w'.ownsRow base 3 1 (.slice a' N c') N (ay (zs++[y]))->Below base w w'->K (act.put o.dst (.slice a' N c')) w') :
 if Region.wanted o (yielded ops act.tmps)=true then o.wp Tryz.prog act w K Q else E:=by
 subst hN;rw [if_pos hw];obtain ⟨i0,hi,hz0,hz1,hz2⟩:=info_parts nW;refine wp_append_own w s x 51 ho base 3 i0 (.int .i64 0) 1 8 Tryz.underlying51 hi hz0 hz1 hz2 rfl (by decide) v n (ay zs) hs hown ⟨g,0,none⟩ 1 1 (ay [y]) hx (by simp [ay]) ?_ (ints_oneCell .i64 [y]) (by unfold maxLen;omega) h63 hbase ?_
 ·intro j u hj
  match j,hj with
  | 0,hj=>simp [ay] at hj;rw [<-hj,<-hc];simp [Addr.add]
  | j+1,hj=>simp [ay] at hj
 ·intro v' w' hown' hgrow _;rcases hown'.2 with ⟨_,h2⟩|⟨g',cap,cur,rfl,_⟩
  ·omega
  ·exact h (some ⟨g',0,none⟩) cap w' (by rw [show ay (zs++[y])=ay zs++ay [y] from by simp [ay]];exact hown') ((Below.refl _ _).grown hgrow hbase (fun k hk=>(hown.lt k hk).1))

structure jh (w:World) (B g N:Nat) (os:List Wd):Prop where
 row:w.ownsRow B 51 1 (.slice (some ⟨g,0,none⟩) N N) N (vals os)
 good:∀x∈os,x.Good w
 far:∀x∈os,∀b off,x.a=some ⟨b,off,none⟩->b≠g
 nil:∀x∈os,x.a=none->x.cap=0
 up:∀x∈os,∀b off,x.a=some ⟨b,off,none⟩->B<=b/\b<w.heap.size
theorem jh.len {w:World} {B g N:Nat} {os:List Wd} (h:jh w B g N os):os.length=N:=by
 have:=h.row.1;rw [aeD] at this;omega
theorem jh.base {w:World} {B g N:Nat} {os:List Wd} (h:jh w B g N os):B<=g:=(h.row.lt g rfl).1
theorem jh.lt {w:World} {B g N:Nat} {os:List Wd} (h:jh w B g N os):g<w.heap.size:=(h.row.lt g rfl).2
theorem jh.below {w w':World} {B g N:Nat} {os:List Wd} (h:jh w B g N os) (hb:Below w.heap.size w w'):jh w' B g N os :=
 ⟨ownsRow_below h.row hb lrf,fun x hx=>(h.good x hx).below hb lrf,h.far,h.nil,fun x hx b off e=>⟨(h.up x hx b off e).1,Nat.lt_of_lt_of_le (h.up x hx b off e).2 hb.size⟩⟩
theorem jh.get {w:World} {B g N k:Nat} {os:List Wd} (h:jh w B g N os) (hk:k<N):w.cell? ⟨g,k,none⟩=some (os.getD k Wd.no).v/\os.getD k Wd.no∈os:=by
 have hl:=h.len;have hkl:k<os.length:=omg;refine ⟨?_,by rw [gdq,geg hkl,Option.getD_some];exact List.getElem_mem _⟩;rw [h.row.cellAt k omg];simp [vals,hkl]
theorem jh.put {w:World} {B g N t n c base:Nat} {a:OAd} {os:List Wd} {zs:LIn} (h:jh w B g N os) (_ht:t<os.length) (hown:w.ownsRow base 3 1 (.slice a n c) n (ay zs)) (hg:g<base) (hw:(∀z∈zs,(Lit.int .i64 z).wf=true)/\zs.length=n) :
 jh (w.setCell ⟨g,t,none⟩ (.slice a n c)) B g N (os.set t ⟨a,n,c,zs⟩):=by
 have hset:=dC w ⟨g,t,none⟩ (.slice a n c);refine ⟨?_,fun x hx=>?_,fun x hx=>?_,fun x hx=>?_,fun x hx=>?_⟩
 ·have h1:=(h.row.stored t (.slice a n c)).1;have e:vals (os.set t ⟨a,n,c,zs⟩)=(vals os).set t (.slice a n c):=by simp [vals,List.map_set,Wd.v]
  rw [e];exact h1
 ·rcases List.mem_or_eq_of_mem_set hx with hx|rfl
  ·exact Sl.kept (h.good x hx) hset (fun b off e e'=>h.far x hx b off e (by simpa using e'))
  ·have hs:Sl .i64 w a n c zs:=Sl.of_owns hown hw.1 hw.2;refine Sl.kept hs hset (fun b off e e'=>?_);subst e;have:=(hown.lt b rfl).1;have e2:b=g:=by simpa using e'
   omega
 ·rcases List.mem_or_eq_of_mem_set hx with hx|rfl
  ·exact h.far x hx
  ·intro b off e;simp only at e;subst e;have:=(hown.lt b rfl).1;omega
 ·rcases List.mem_or_eq_of_mem_set hx with hx|rfl
  ·exact h.nil x hx
  ·intro e;simp only at e;subst e;rcases hown.2 with ⟨h1,_⟩|⟨g',c',cur,h1,_⟩
   ·simp at h1;exact h1.2
   ·simp at h1
 ·rcases List.mem_or_eq_of_mem_set hx with hx|rfl
  ·intro b off e;exact ⟨(h.up x hx b off e).1,by simpa using (h.up x hx b off e).2⟩
  ·intro b off e;simp only at e;subst e;have h1:=hown.lt b rfl;have h2:=h.base;exact ⟨by omega,by simpa using h1.2⟩

def tF (ws:LLI) (k:Nat) (done:List (Int × Int)) (os:List Wd):Prop :=
 ∀i,i<(begs ws).length->(i=0\/(∃p s,p<k/\(s,(i:Int))∈aP (begs ws) ((begs ws).getD p []))\/∃s,(s,(i:Int))∈done)->(os.getD i Wd.no).zs=(begs ws).getD i []
theorem akq (ws:LLI) (N:Nat):tF ws 0 [] (List.replicate N Wd.no):=by
 intro i hi h
 have h0:i=0:=by
  rcases h with h|⟨p,s,h,_⟩|⟨s,h⟩
  ·exact h
  ·omega
  ·cases h
 subst h0
 have e:(List.replicate N Wd.no).getD 0 Wd.no=Wd.no:=by
  cases N with
  | zero=>rfl
  | succ N=>rfl
 rw [e];rfl
theorem OY {ws:LLI} {k t:Nat} {s:Int} (h:(s,(t:Int))∈aP (begs ws) ((begs ws).getD k [])):t<(begs ws).length/\(begs ws).getD t []=(begs ws).getD k []++[s]:=by
 obtain ⟨i,hi,h1,h2⟩:=mY.1 h;simp only at h1 h2;obtain rfl:t=i:=omg;exact ⟨hi,by rw [<-h1];simp [hi]⟩
theorem XZ {ws:LLI} {k j t:Nat} {s:Int} {arcs:List (Int × Int)} {os:List Wd} {x:Wd} (h:tF ws k (arcs.take j) os) (iE:arcs=aP (begs ws) ((begs ws).getD k [])) (hj:j<arcs.length) (hv:arcs.getD j (0,0)=(s,(t:Int))) (ht:t<(begs ws).length)
 (hx:os.length=(begs ws).length/\x.zs=(begs ws).getD k []++[s]):tF ws k (arcs.take (j+1)) (os.set t x):=by
 have hmem:(s,(t:Int))∈aP (begs ws) ((begs ws).getD k []):=by
  rw [<-iE,<-hv,gdq,geg hj,Option.getD_some];exact List.getElem_mem _
 obtain ⟨_,hbt⟩:=OY hmem;intro i hi h';by_cases hit:t=i
 ·subst hit;rw [hbt,<-hx.2];simp [hx.1,ht]
 ·have e:(os.set t x).getD i Wd.no=os.getD i Wd.no:=by simp [gdq,List.getElem?_set_ne hit]
  rw [e];refine h i hi ?_;rcases h' with h' | h' | ⟨s',h'⟩
  ·exact .inl h'
  ·exact .inr (.inl h')
  ·rw [sZ hj hv] at h';rcases map1 h' with h' | h'
   ·exact .inr (.inr ⟨s',h'⟩)
   ·rw [List.mem_singleton] at h';simp only [Prod.mk.injEq] at h';exact absurd omg hit
theorem akr {ws:LLI} {k:Nat} {os:List Wd} (h:tF ws k (aP (begs ws) ((begs ws).getD k [])) os):tF ws (k+1) [] os:=by
 intro i hi h';refine h i hi ?_;rcases h' with h' | ⟨p,s,hp,h'⟩|⟨s,h'⟩
 ·exact .inl h'
 ·rcases Nat.lt_or_ge p k with hpk|hpk
  ·exact .inr (.inl ⟨p,s,hpk,h'⟩)
  ·obtain rfl:p=k:=omg;exact .inr (.inr ⟨s,h'⟩)
 ·cases h'
theorem Ya {ws:LLI} (hs:Tri.Short ws) {i:Nat} (hi:i<(begs ws).length):i=0\/∃p s,p<i/\(s,(i:Int))∈aP (begs ws) ((begs ws).getD p []):=by
 obtain ⟨q,hq⟩:∃q,(begs ws)[i]=q:=⟨_,rfl⟩;rcases List.eq_nil_or_concat q with h|⟨p,s,h⟩
 ·left;rw [h,<-aeJ ws] at hq;exact MW (IL ws) hi (Az ws) hq
 ·right;rw [List.concat_eq_append] at h;have hpm:p∈begs ws:=MQ hs (q:=q) (by rw [<-hq];exact List.getElem_mem _) (by rw [h];exact List.prefix_append _ _);obtain ⟨m,hm,hmp⟩:=List.getElem_of_mem hpm;refine ⟨m,s,IP (wh ws) hm hi hmp (by rw [hq,h]),?_⟩;have e:(begs ws).getD m []=p:=by rw [<-hmp];simp [hm]
  rw [e];exact mY.2 ⟨i,hi,by rw [hq,h],rfl⟩
theorem aks {ws:LLI} (hs:Tri.Short ws) {k:Nat} {done:List (Int × Int)} {os:List Wd} (h:tF ws k done os) (hk:k<(begs ws).length):(os.getD k Wd.no).zs=(begs ws).getD k []:=by
 refine h k hk ?_;rcases Ya hs hk with h0|⟨p,s,hp,hm⟩
 ·exact .inl h0
 ·exact .inr (.inl ⟨p,s,hp,hm⟩)
theorem akt {ws:LLI} (hs:Tri.Short ws) {os:List Wd} (h:tF ws (begs ws).length [] os) (hl:os.length=(begs ws).length):nums os=begs ws:=by
 refine List.ext_getElem (by rw [nums_length,hl]) fun i h1 h2=>?_;have hi:i<(begs ws).length:=h2
 have:=h i hi (by
  rcases Ya hs hi with h0|⟨p,s,hp,hm⟩
  ·exact .inl h0
  ·exact .inr (.inl ⟨p,s,by omega,hm⟩))
 have e1:(nums os)[i]=(nums os).getD i []:=by simp [show i<(nums os).length from h1]
 have e2:(begs ws)[i]=(begs ws).getD i []:=by simp [hi]
 rw [e1,e2,MK,this]
theorem aku (N:Nat):(madeCells #[Value.slice none 0 0] N).toList=vals (List.replicate N Wd.no):=by
 apply List.ext_getElem
 ·simp [madeCells,vals]
 ·intro i h1 h2;simp [madeCells,vals,Nat.mod_one,Wd.v,Wd.no]

theorem lD (ws:LLI) (a:OAd) (n cap:Nat) (ys:List Sw) (w:World) (hy:Ss w a n cap ys) (hst:sts ys=make ws) (hsh:Tri.Short ws) (hn:n<=6001) :
 Calls Tryz.prog 66 #[.slice a n cap] w fun e w'=>∃g os,e=.returned (.slice (some ⟨g,0,none⟩) n n)/\Ws w' (some ⟨g,0,none⟩) n n os/\nums os=begs ws/\(∀x∈os,x.a=none->x.cap=0)/\(w.heap.size<=g/\g<w'.heap.size)/\(∀x∈os,∀b off,x.a=some ⟨b,off,none⟩->w.heap.size<=b/\b<w'.heap.size)/\Below w.heap.size w w':=by
 have hnc:=hy.2.1;have hcm:=hy.2.2.1;unfold maxLen at hcm;have HY:=hdq hy;have iR:Hid (ys.length=n):=hdq hy.1;have HST:=hdq hst;have dP:=hdq hsh;have dD:Hid ((begs ws).length=n):=hdq (by rw [<-iM,<-hst,fq,hy.1]);have gq:Hid (Tryz.prog.follows .mixedOrders=true):=by show _=_;kernel_rfl
 have hmk:=run_make_row' (P:=Tryz.prog) 29 51 (.slice none 0 0) 24 Tryz.underlying29 Dn rfl .i64 .i64 n omg omg;have HB0:∀o,Hid (Below w.heap.size w (w.alloc o)):=fun o=>hdq ((Below.refl _ w).alloc lrf o)
 have Cn:Hid (jh (w.alloc (.cells (madeCells #[.slice none 0 0] n) 51)) w.heap.size w.heap.size n (List.replicate n Wd.no)):=hdq (by
  have h:=World.ownsRow_lit (base:=w.heap.size) (e:=51) (size:=1) w (madeCells #[.slice none 0 0] n) n lrf (by unfold maxLen;omega) (by simp [madeCells]);rw [aku] at h;refine ⟨h,fun x hx=>?_,fun x hx=>?_,fun x hx=>?_,fun x hx=>?_⟩
  ·rw [(List.mem_replicate.1 hx).2];exact Wd.no_good _
  ·rw [(List.mem_replicate.1 hx).2];intro b off e;cases e
  ·rw [(List.mem_replicate.1 hx).2];intro _;rfl
  ·rw [(List.mem_replicate.1 hx).2];intro b off e;cases e)
 clear hy hst hsh;go_enter Tryz.func66,Tryz.ntmps66;go_wp2;clear hmk;go_loopw [13] (fun ix wr=>∃(k:Nat) (os:List Wd),k<=n/\ix=.int .i64 (k:Int)/\Hid (jh wr w.heap.size w.heap.size n os)/\Hid (tF ws k [] os)/\Hid (Below w.heap.size w wr)) (fun ix _=>n-(intOf ix).toNat)
 case atStart=>exact ⟨0,_,Nat.zero_le _,rfl,Cn,hdq (akq ws n),HB0 _⟩
 case round =>
  obtain ⟨k,os,hk,rfl,vL,Rp,Co⟩:=hrel;by_cases hlt:k<n
  ·obtain ⟨b1,o1,f,sa,sn,sc,arcs,rfl,hb1,hc0,hc1,bS,hz⟩:=HY.out.one k hlt;have hc0':wr.cell? ⟨b1,o1+k*2,none⟩=some (.bool f):=by rw [Co.out.cell (p:=⟨b1,o1+k*2,none⟩) hb1];exact hc0
   have hc1':wr.cell? ⟨b1,o1+k*2+1,none⟩=some (.slice sa sn sc):=by rw [Co.out.cell (p:=⟨b1,o1+k*2+1,none⟩) hb1];exact hc1
   have hst:(⟨f,arcs⟩:St)=⟨decide ((begs ws).getD k []∈ws),aP (begs ws) ((begs ws).getD k [])⟩:=by
    have h1:=ic ys k;have hkl:k<(begs ws).length:=by rw [dD.out];exact hlt
    rw [HST.out,hz] at h1;have h2:(make ws).getD k St.no=(make ws)[k]'(by rw [iM];exact hkl):=by simp [iM,hkl]
    rw [h2,AB (by rw [iM];exact hkl)] at h1;have h3:(begs ws)[k]=(begs ws).getD k []:=by simp [hkl]
    rw [h3] at h1;exact h1.symm
   have mK:Hid (arcs=aP (begs ws) ((begs ws).getD k [])):=hdq (congrArg St.arcs hst);have kQ:=hdq bS;have KS:Hid (arcs.length=sn):=hdq bS.1;have hsn:sn<=6001:=by rw [<-bS.1,mK.out];exact Nat.le_trans (DL _ _) (by rw [dD.out];exact hn)
   have apd:=bS.2.1;have oC:=bS.2.2.1;unfold maxLen at oC;have hltz:(k:Int)<(n:Int):=omg;have Rq:∀o,Hid (jh (wr.alloc o) w.heap.size w.heap.size n os/\Below w.heap.size w (wr.alloc o)):=fun o=>hdq ⟨vL.out.below ((Below.refl _ wr).alloc lrf o),Co.out.alloc Co.out.size o⟩;clear hc0 hc1 hz hst bS hb1;go_wp2;generalize wr=wo at *;go_loopw [21] (fun ix wr=>∃(j:Nat) (os:List Wd),j<=sn/\ix=.int .i64 (j:Int)/\Hid (jh wr w.heap.size w.heap.size n os)/\Hid (tF ws k (arcs.take j) os)/\Hid (Below w.heap.size w wr)) (fun ix _=>sn-(intOf ix).toNat)
   case atStart=>exact ⟨0,os,Nat.zero_le _,rfl,hdq (Rq _).out.1,Rp,hdq (Rq _).out.2⟩
   case round =>
    clear vL Rp Co Rq;obtain ⟨j,os,hj,rfl,KT,gp,Cq⟩:=hrel;by_cases KU:j<sn
    ·obtain ⟨b2,o2,s,t',rfl,hb2,hd0,hd1,hws,_,hz2⟩:=kQ.out.one j KU;have ape:wr.cell? ⟨b2,o2+j*2,none⟩=some (.int .i64 s):=by rw [Cq.out.cell (p:=⟨b2,o2+j*2,none⟩) hb2];exact hd0
     have apf:wr.cell? ⟨b2,o2+j*2+1,none⟩=some (.int .i64 t'):=by rw [Cq.out.cell (p:=⟨b2,o2+j*2+1,none⟩) hb2];exact hd1
     have hmem:(s,t')∈aP (begs ws) ((begs ws).getD k []):=by
      rw [<-mK.out,<-hz2,gdq,geg (by rw [KS.out];exact KU),Option.getD_some];exact List.getElem_mem _
     obtain ⟨t,rfl⟩:∃t:Nat,t'=(t:Int):=by
      obtain ⟨i,_,_,h2⟩:=mY.1 hmem;exact ⟨i,h2⟩
     have htn:t<n:=by rw [<-dD.out];exact (OY hmem).1
     have hkt:k<t:=IP (wh ws) (i:=k) (k:=t) (p:=(begs ws).getD k []) (s:=s) (by rw [dD.out];exact hlt) (by rw [dD.out];exact htn) (by simp [show k<(begs ws).length by rw [dD.out];exact hlt]) (by rw [<-(OY hmem).2];simp [show t<(begs ws).length by rw [dD.out];exact htn]);have HJV:=hdq hz2;have atj:(j:Int)<(sn:Int):=omg;have htz:(t:Int)<(n:Int):=omg;have ht0:(0:Int)<=(t:Int):=omg;have hk0:(0:Int)<=(k:Int):=omg;have hkz:(k:Int)<(n:Int):=omg;have aaH:=hdq hws;clear hd0 hd1 hmem hz2 hws hb2;go_wp2_with fail;obtain ⟨xb,hxb⟩:∃xb,wr.heap.size=xb:=⟨_,rfl⟩;generalize Rt:World.alloc wr _=wy;have nM:Below wr.heap.size wr wy:=by rw [<-Rt];exact (Below.refl _ wr).alloc lrf _
     have hxo:wy.heap[xb]?=some (.cells #[.int .i64 s,.int .i64 (t:Int)] 95 (0,0)):=by rw [<-Rt,<-hxb];exact han wr _
     obtain ⟨wz,hwz⟩:∃wz,wz=wy.drew:=⟨_,rfl⟩;have hbz:Below wr.heap.size wr wz:=by rw [hwz];exact aG nM ⟨1,rfl⟩
     have hxg:xb≠w.heap.size:=by have:=KT.out.lt;omega
     have ji:Hid (jh wz w.heap.size w.heap.size n os):=hdq (KT.out.below hbz);have ai:Hid (Below w.heap.size w wz):=hdq (Cq.out.trans (hbz.mono Cq.out.size));have lN:Hid (os.length=n):=hdq ji.out.len;have Ru:wz.heap[xb]?=some (.cells #[.int .i64 s,.int .i64 (t:Int)] 95 (0,0)):=by rw [hwz];exact hxo
     obtain ⟨KV,hgm⟩:=ji.out.get hlt;have hrd:=aks dP.out gp.out (by rw [dD.out];exact hlt);have hgood:=ji.out.good _ hgm;have hnil:=ji.out.nil _ hgm;obtain ⟨x,hx⟩:∃x,os.getD k Wd.no=x:=⟨_,rfl⟩;rw [hx] at KV hgm hrd hgood hnil;obtain ⟨oa,on,oc,oz⟩:=x;simp only [Wd.v,Wd.Good] at KV hrd hgood hnil;have dH:Hid (Sl .i64 wz oa on oc oz):=hdq hgood;have iX:=hdq hnil;have HKZ:Hid (os.length=(begs ws).length/\oz++[s]=(begs ws).getD k []++[s]):=hdq ⟨by rw [lN.out,dD.out],by rw [hrd]⟩
     have hon:on<=20:=by
      rw [<-hgood.1,hrd];exact IW dP.out (by rw [gdq,geg (by rw [dD.out];exact hlt),Option.getD_some];exact List.getElem_mem _)
     have BJ:Hid (∀z∈oz++[s],(Lit.int .i64 z).wf=true):=hdq (fun z hz=>by
      rcases map1 hz with hz|hz
      ·exact hgood.2.2.2.1 z hz
      ·rw [msg hz];exact aaH.out)
     have rA:Hid ((oz++[s]).length=on+1):=hdq (by rw [List.length_append,hgood.1];rfl);have Rv:Hid (w.heap.size<wz.heap.size):=hdq ji.out.lt
     have aH:Hid (∀W,Below wz.heap.size wz W->W.cell? ⟨xb,0,none⟩=some (.int .i64 s)/\W.cell? ⟨xb,1,none⟩=some (.int .i64 (t:Int))/\W.cell? ⟨w.heap.size,k,none⟩=some (.slice oa on oc)):=hdq (fun W hW=>by
      have hx1:=(hW.block xb (hltq Ru)).trans Ru
      exact ⟨by rw [af hx1];rfl,by rw [af hx1];rfl,by rw [hW.cell (p:=⟨w.heap.size,k,none⟩) Rv.out];exact KV⟩)
     have oU:Hid (∀W,Below wz.heap.size wz W->∀v,(W.setCell ⟨w.heap.size,t,none⟩ v).cell? ⟨xb,0,none⟩=some (.int .i64 s)/\(W.setCell ⟨w.heap.size,t,none⟩ v).cell? ⟨xb,1,none⟩=some (.int .i64 (t:Int))/\(W.setCell ⟨w.heap.size,t,none⟩ v).cell? ⟨w.heap.size,k,none⟩=some (.slice oa on oc)):=hdq (fun W hW v=>by
      obtain ⟨h1,h2,h3⟩:=aH.out W hW;refine ⟨(World.cell?_setCell_other (w:=W) (a:=⟨w.heap.size,t,none⟩) (b:=⟨xb,0,none⟩) (v:=v) ?_).trans h1,(World.cell?_setCell_other (w:=W) (a:=⟨w.heap.size,t,none⟩) (b:=⟨xb,1,none⟩) (v:=v) ?_).trans h2,(World.cell?_setCell_other (w:=W) (a:=⟨w.heap.size,t,none⟩) (b:=⟨w.heap.size,k,none⟩) (v:=v) ?_).trans h3⟩
      ·intro e;simp only [Addr.mk.injEq] at e;omega
      ·intro e;simp only [Addr.mk.injEq] at e;omega
      ·intro e;simp only [Addr.mk.injEq] at e;omega)
     have JU:Hid (∀W,Below wz.heap.size wz W->W.cell? ⟨w.heap.size,t,none⟩=some (.slice (os.getD t Wd.no).a (os.getD t Wd.no).n (os.getD t Wd.no).cap)/\W.frozen? ⟨w.heap.size,t,none⟩=false):=hdq (fun W hW=>by
      have hB:=ji.out.below hW
      exact ⟨(hB.get htn).1,hB.row.frozenAt _⟩)
     have hmx:=gq.out;rw [hxb];subst hwz;clear hx KV hgm hrd hgood hnil hxo Ru hbz nM Rt ape apf hxb aaH KT Cq;refine wp_region_held_drew (S:=(fun W=>W.cell? ⟨xb,0,none⟩=some (.int .i64 s)/\W.cell? ⟨xb,1,none⟩=some (.int .i64 (t:Int))/\W.cell? ⟨w.heap.size,k,none⟩=some (.slice oa on oc))) krf (by first|((first|exact pq|exact eZ|exact bI|exact aH.out _ (Below.refl _ _)|exact pE _))|((try dsimp only);(first|exact pq|exact eZ|exact bI|exact aH.out _ (Below.refl _ _)|exact pE _))) (fun hHeld=>?_);refine wpAnyH_take (i:=0) (v:=?atl) rfl krf krf krf (fun _ _ _ h=>h) (Or.inl ⟨by rfl,?apg⟩) (by assumption) ?atm
     case apg=>intro w hSw;(try dsimp only at hSw);go_simp;try with_reducible rfl
     simp only [Act.put,List.getElem_toArray,List.getElem_cons_zero,List.setIfInBounds_toArray,List.set_cons_succ,List.set_cons_zero];refine t_h 1 ?_;refine t_h 2 ?_;refine t_h 3 ?_;refine t_h 4 ?_;refine t_h 5 ?_;refine t_h 6 ?_;refine t_h 8 ?_;refine t_h 9 ?_;refine fT 7 10 (fun K hK=>?_) (fun K hK=>?_)
     ·go_simp;go_at_call 71;refine (IK oa on oc oz _ dH.out iX.out omg).mono ?_;rintro e w7 ⟨a7,c7,rfl,KW,iF⟩;have bH:=KW;have az:Below wy.drew.heap.size wy.drew w7:=iF;have bI:=aH.out w7 az;go_wp2_with fail;refine k_h hK (by (try dsimp only);(first|exact pq|exact eZ|exact bI|exact aH.out _ (Below.refl _ _)|exact pE _)) (fun hHeld=>?_);clear hK K;refine r_h 10 (fun K hK=>?_);refine XX rfq (.tmp 34) s rfq rfq ?_;intro gB wB hcB gK;have au:Below wy.drew.heap.size wy.drew wB:=az.trans (gK.mono az.size);have eZ:=aH.out wB au;have aph:=ownsRow_below bH gK lrf;refine k_h hK (by (try dsimp only);(first|exact pq|exact eZ|exact bI|exact aH.out _ (Below.refl _ _)|exact pE _)) (fun hHeld=>?_);clear hK K;refine r_h 11 (fun K hK=>?_);refine XY rfq (.tmp 32) (.tmp 35) rfq wy.drew.heap.size _ on oz rfq aph gB s rfq hcB (on+1) rfl omg au.size ?_;intro FZ c11 nN Ga Gb;have sj:Below wy.drew.heap.size wy.drew nN:=au.trans (Gb.mono lrf);have pq:=aH.out nN sj;have pE:=oU.out nN sj;obtain ⟨hcg,hfg⟩:=JU.out nN sj;refine k_h hK (by (try dsimp only);(first|exact pq|exact eZ|exact bI|exact aH.out _ (Below.refl _ _)|exact pE _)) (fun hHeld=>?_);clear hK K;refine t_h 12 ?_;refine r_h 13 (fun K hK=>?_);go_simp;refine k_h hK (by (try dsimp only);(first|exact pq|exact eZ|exact bI|exact aH.out _ (Below.refl _ _)|exact pE _)) (fun hHeld=>?_);clear hK K;refine wpAnyH_done krf ?_ _;have Rx:=hdq Ga;have Gc:=hdq sj;clear Ga sj Gb pq pE hcg hfg hHeld;go_wp2;go_roundw
      case rel=>exact ⟨j+1,os.set t ⟨FZ,on+1,c11,oz++[s]⟩,by omega,by go_num,hdq (jh.put ((ji.out).below Gc.out) (by rw [<-lN.out] at htn;exact htn) Rx.out Rv.out ⟨BJ.out,rA.out⟩),hdq (XZ (x:=⟨FZ,on+1,c11,oz++[s]⟩) gp.out mK.out (by rw [KS.out];exact KU) HJV.out (by rw [dD.out];exact htn) HKZ.out),hdq (Below.setCell (p:=⟨w.heap.size,t,none⟩) (ai.out.trans (Gc.out.mono ai.out.size)) lrf _)⟩
      case measure=>simp [intOf];omega
     ·refine XX rfq (.tmp 34) s rfq rfq ?_;intro gB wB hcB gK;have au:Below wy.drew.heap.size wy.drew wB:=gK;have eZ:=aH.out wB au;have hslB:Sl .i64 wB oa on oc oz:=dH.out.below au lrf;refine k_h hK (by (try dsimp only);(first|exact pq|exact eZ|exact bI|exact aH.out _ (Below.refl _ _)|exact pE _)) (fun hHeld=>?_);clear hK K;refine r_h 7 (fun K hK=>?_);go_simp;go_at_call 71;refine (IK oa on oc oz _ hslB iX.out omg).mono ?_;rintro e w7 ⟨a7,c7,rfl,KW,iF⟩;have bH:=Joins.ownsRow_le KW au.size;have az:Below wy.drew.heap.size wy.drew w7:=au.trans (iF.mono au.size);have bI:=aH.out w7 az;have vg:w7.cell? ⟨gB,0,none⟩=some (.int .i64 s):=by rw [iF.cell (p:=⟨gB,0,none⟩) (bQ hcB)];exact hcB
      clear iF KW;go_wp2_with fail;refine k_h hK (by (try dsimp only);(first|exact pq|exact eZ|exact bI|exact aH.out _ (Below.refl _ _)|exact pE _)) (fun hHeld=>?_);clear hK K;refine r_h 11 (fun K hK=>?_);refine XY rfq (.tmp 32) (.tmp 35) rfq wy.drew.heap.size _ on oz rfq bH gB s rfq vg (on+1) rfl omg az.size ?_;intro FZ c11 nN Ga Gb;have sj:Below wy.drew.heap.size wy.drew nN:=az.trans (Gb.mono lrf);have pq:=aH.out nN sj;have pE:=oU.out nN sj;obtain ⟨hcg,hfg⟩:=JU.out nN sj;refine k_h hK (by (try dsimp only);(first|exact pq|exact eZ|exact bI|exact aH.out _ (Below.refl _ _)|exact pE _)) (fun hHeld=>?_);clear hK K;refine t_h 12 ?_;refine r_h 13 (fun K hK=>?_);go_simp;refine k_h hK (by (try dsimp only);(first|exact pq|exact eZ|exact bI|exact aH.out _ (Below.refl _ _)|exact pE _)) (fun hHeld=>?_);clear hK K;refine wpAnyH_done krf ?_ _;have Rx:=hdq Ga;have Gc:=hdq sj;clear Ga sj Gb pq pE hcg hfg hHeld;go_wp2;go_roundw
      case rel=>exact ⟨j+1,os.set t ⟨FZ,on+1,c11,oz++[s]⟩,by omega,by go_num,hdq (jh.put ((ji.out).below Gc.out) (by rw [<-lN.out] at htn;exact htn) Rx.out Rv.out ⟨BJ.out,rA.out⟩),hdq (XZ (x:=⟨FZ,on+1,c11,oz++[s]⟩) gp.out mK.out (by rw [KS.out];exact KU) HJV.out (by rw [dD.out];exact htn) HKZ.out),hdq (Below.setCell (p:=⟨w.heap.size,t,none⟩) (ai.out.trans (Gc.out.mono ai.out.size)) lrf _)⟩
      case measure=>simp [intOf];omega
    ·obtain rfl:j=sn:=omg
     have fD:Hid (tF ws (k+1) [] os):=hdq (by
      have h:=gp.out;rw [tol (by rw [KS.out];exact Nat.le_refl _),mK.out] at h
      exact akr h)
     go_wp2;go_roundw
     case rel=>exact ⟨k+1,os,by omega,by go_num,KT,fD,Cq⟩
     case measure=>simp [intOf];omega
  ·obtain rfl:k=n:=omg;go_wp2;go_ret;refine ⟨w.heap.size,os,rfl,Ws.of_owns vL.out.row vL.out.good vL.out.len,akt dP.out (by rw [dD.out];exact Rp.out) (by rw [dD.out];exact vL.out.len),vL.out.nil,⟨Nat.le_refl _,vL.out.lt⟩,vL.out.up,Co.out⟩
end
end Go.Proofs.YtkiamgcpcneggaaGreat
