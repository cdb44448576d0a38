import Derived.Test.YtkiamgcpcneggaaGreatPackK
import Derived.Test.YtkiamgcpcneggaaGreatPackJ
set_option linter.all false
set_option maxRecDepth 100000
set_option maxHeartbeats 12800000
namespace Go.Proofs.YtkiamgcpcneggaaGreat
section
open Go.RowKit Tri

def yz (xs:List Sw):Prop:=∀x∈xs,x.n<=100
theorem yz.snoc {xs:List Sw} {j:Nat} (h:yz (xs.take j)) (hj:j<xs.length) (hx:(xs.getD j Sw.no).n<=100):yz (xs.take (j+1)):=by
 intro x hm;rw [tsa hj] at hm;rcases map1 hm with hm|hm
 ·exact h x hm
 ·rw [msg hm];simpa [hj] using hx

theorem aeM (a:OAd) (n cap:Nat) (xs:List Sw) (most:Nat) (_hmost:most<=10000) (w:World) (ha:Ss w a n cap xs) :
 Calls Tryz.prog 27 #[.slice a n cap,.int .i64 (most:Int)] w fun e w'=>(e=.returned (.bool false)\/(e=.returned (.bool true)/\yz xs/\n<=most))/\w'=w:=by
 have hnc:=ha.2.1;have hcm:=ha.2.2.1;unfold maxLen at hcm;have HA:=hdq ha;clear ha;go_enter Tryz.func27,Tryz.ntmps27;go_wp2;go_loopw [5] (fun ix wr=>∃j:Nat,j<=n/\ix=.int .i64 (j:Int)/\Hid (yz (xs.take j))/\Hid (wr=w)) (fun ix _=>n-(intOf ix).toNat)
 case atStart=>exact ⟨0,Nat.zero_le _,rfl,(fun x hx=>by simp at hx),rfl⟩
 case round =>
  obtain ⟨j,hj,rfl,HT,HW⟩:=hrel;obtain rfl:=HW.out;clear HW;by_cases hlt:j<n
  ·obtain ⟨b1,o1,f,sa,sn,sc,arcs,rfl,_,hx1,hx2,_,hz1⟩:=HA.out.one j hlt;have HZ1:=hdq hz1;have bB:(j:Int)<(n:Int):=omg;clear hz1;by_cases h1:100<sn
   ·have uO:(100:Int)<(sn:Int):=omg;go_wp2;go_ret;exact ⟨.inl rfl,rfl⟩
   have uO:¬(100:Int)<(sn:Int):=omg;go_wp2;go_roundw
   case rel=>exact ⟨j+1,by omega,by go_num,HT.out.snoc (by rw [HA.out.1];exact hlt) (by rw [HZ1.out];show sn<=100;omega),(by first|exact (trivial:True)|rfl)⟩
   case measure=>simp [intOf];omega
  ·have hfin:yz xs:=by
    have h:=HT.out
    rwa [tol (by rw [HA.out.1];omega)] at h
   have HF:=hdq hfin;clear hfin;by_cases hm:n<=most
   ·have Eg:(n:Int)<=(most:Int):=omg;go_wp2;go_ret;exact ⟨.inr ⟨rfl,HF.out,hm⟩,rfl⟩
   ·have Eg:¬(n:Int)<=(most:Int):=omg;go_wp2;go_ret;exact ⟨by first|exact .inl rfl|rfl,rfl⟩

theorem UI {l:List St} {f s:Int} (h:f<0\/(l.length:Int)<=f):Tri.step l f s=(0,false):=by unfold Tri.step;rw [if_pos h]
theorem aeN {l:List St} {i:Nat} {s:Int} (h:i<l.length):Tri.step l (i:Int) s=match (l.getD i St.no).arcs.find? fun a=>decide (a.1=s) with
 | some a=>(a.2,true)
 | none=>(0,false):=by
 unfold Tri.step;rw [if_neg omg];rfl
theorem aeO {l:List (Int × Int)} {j:Nat} {s t:Int} (hj:j<l.length) (hx:l.getD j (0,0)=(s,t)) (h:∀x∈l.take j,x.1≠s):(l.find? fun a=>decide (a.1=s))=some (s,t):=by
 have e:l=l.take j++(s,t)::l.drop (j+1):=by
  have h1:l[j]=(s,t):=by rw [<-hx];simp [hj]
  rw [<-h1,List.getElem_cons_drop];exact (List.take_append_drop j l).symm
 rw [e,List.find?_append,List.find?_eq_none.2 (fun x hx=>by simpa using h x hx)];simp
theorem aeP {l:List (Int × Int)} {s:Int} (h:∀x∈l,x.1≠s):(l.find? fun a=>decide (a.1=s))=none:=List.find?_eq_none.2 (fun x hx=>by simpa using h x hx)

end
section
open Go.RowKit Tri

theorem IM {w w1:World} {q:Nat} (h:∃q,w1=w.drewN q):∃p,w1.drewN q=w.drewN p:=by
 obtain ⟨p,rfl⟩:=h;exact ⟨_,World.drewN_drewN _ _ _⟩

end
section
open Go.RowKit Tri

theorem IQ:(Tryz.prog.info? 95).map (fun i=>(i.zero,i.size,i.bytes))=some (some (.agg #[.int .i64 0,.int .i64 0]),2,16):=krf
theorem Na:(Tryz.prog.info? 58).map (fun i=>(i.zero,i.size,i.bytes))=some (some (.agg #[.bool false,.slice none 0 0]),2,32):=krf
theorem Nb (l:List (Int × Int)):∀u∈aL l,u.oneCell'=true:=by
 intro u hu;obtain ⟨x,_,hx⟩:=List.mem_flatMap.1 hu;simp only [List.mem_cons,List.not_mem_nil,or_false] at hx;rcases hx with rfl|rfl<;>rfl
theorem aeT (xs:List Sw):∀u∈bT xs,u.oneCell'=true:=by
 intro u hu;obtain ⟨x,_,hx⟩:=List.mem_flatMap.1 hu;simp only [Sw.cells,List.mem_cons,List.not_mem_nil,or_false] at hx;rcases hx with rfl|rfl<;>rfl
theorem IU {w:World} {g:Nat} {u v:Value} (h0:w.cell? ⟨g,0,none⟩=some u) (h1:w.cell? ⟨g,1,none⟩=some v):∀j x,([u,v]:List Value)[j]?=some x->w.cell? ((⟨g,0,none⟩:Addr).add j)=some x:=by
 intro j x hj
 match j,hj with
 | 0,hj=>simp at hj;subst hj;simpa [Addr.add] using h0
 | 1,hj=>simp at hj;subst hj;simpa [Addr.add] using h1

theorem aeU {w:World} {ops:Array Oper} {rest:List Oper} {o:Oper} {act:Act} {Q:Exit->Act->World->Prop} (hw:Region.wanted o (yielded ops act.tmps)=true) (s x:Operand)
 (ho:o.op=.call { callee:=.builtin .append,args:=#[s,x],argTypes:=#[56,56] }) (base:Nat) (v:Value) (n:Nat) (l:List (Int × Int)) (hs:act.eval s=v)
 (hown:w.ownsRow base 95 2 v n (aL l)) (g:Nat) (y:Int × Int) (hx:act.eval x=.slice (some ⟨g,0,none⟩) 1 1) (h0:w.cell? ⟨g,0,none⟩=some (.int .i64 y.1)) (h1:w.cell? ⟨g,1,none⟩=some (.int .i64 y.2))
 (N:Nat) (hN:n+1=N) (h63:N*16<=140737488355328) (hbase:base<=w.heap.size)
 (h:∀a' c' w',w'.ownsRow base 95 2 (.slice a' N c') N (aL (l++[y]))->Below base w w'->w.grownBy w' v.ownBlock->(a'=none->c'=0)->wpList Tryz.prog ops Q rest (act.put o.dst (.slice a' N c')) w') :
 wpList Tryz.prog ops Q (o::rest) act w:=by
 subst hN;refine wpList_step fun K hK=>?_;rw [if_pos hw];refine yj s x 56 95 ho _ 2 16 Tryz.underlying56 IQ rfl omg base v n (aL l) hs hown _ 1 1 (aL [y]) hx rfl (fun _=>⟨_,rfl,IU h0 h1⟩) (Nb [y]) (by unfold maxLen;omega) omg hbase ?_;intro a' c' w' h1 h2 h3 h4;exact hK _ _ (h a' c' w' (by rw [MS];exact h1) h2 h3 h4)
theorem Nc {w:World} {ops:Array Oper} {rest:List Oper} {o:Oper} {act:Act} {Q:Exit->Act->World->Prop} (hw:Region.wanted o (yielded ops act.tmps)=true) (s x:Operand)
 (ho:o.op=.call { callee:=.builtin .append,args:=#[s,x],argTypes:=#[22,22] }) (base:Nat) (v:Value) (n:Nat) (l:List Sw) (hs:act.eval s=v)
 (hown:w.ownsRow base 58 2 v n (bT l)) (g:Nat) (y:Sw) (hx:act.eval x=.slice (some ⟨g,0,none⟩) 1 1) (h0:w.cell? ⟨g,0,none⟩=some y.f) (h1:w.cell? ⟨g,1,none⟩=some y.s)
 (N:Nat) (hN:n+1=N) (h63:N*32<=140737488355328) (hbase:base<=w.heap.size)
 (h:∀a' c' w',w'.ownsRow base 58 2 (.slice a' N c') N (bT (l++[y]))->Below base w w'->w.grownBy w' v.ownBlock->(a'=none->c'=0)->wpList Tryz.prog ops Q rest (act.put o.dst (.slice a' N c')) w') :
 wpList Tryz.prog ops Q (o::rest) act w:=by
 subst hN;refine wpList_step fun K hK=>?_;rw [if_pos hw];refine yj s x 22 58 ho _ 2 32 Tryz.underlying22 Na rfl omg base v n (bT l) hs hown _ 1 1 (bT [y]) hx rfl (fun _=>⟨_,rfl,IU h0 h1⟩) (aeT [y]) (by unfold maxLen;omega) omg hbase ?_;intro a' c' w' h1 h2 h3 h4;exact hK _ _ (h a' c' w' (by rw [aeK];exact h1) h2 h3 h4)

theorem UK {w:World} {ops:Array Oper} {o:Oper} {act:Act} {K:Act->World->Prop} {Q:Exit->Act->World->Prop} {E:Prop} (hw:Region.wanted o (yielded ops act.tmps)=true) (s x:Operand)
 (ho:o.op=.call { callee:=.builtin .append,args:=#[s,x],argTypes:=#[56,56] }) (base:Nat) (v:Value) (n:Nat) (l:List (Int × Int)) (hs:act.eval s=v)
 (hown:w.ownsRow base 95 2 v n (aL l)) (g:Nat) (y:Int × Int) (hx:act.eval x=.slice (some ⟨g,0,none⟩) 1 1) (h0:w.cell? ⟨g,0,none⟩=some (.int .i64 y.1)) (h1:w.cell? ⟨g,1,none⟩=some (.int .i64 y.2))
 (N:Nat) (hN:n+1=N) (h63:N*16<=140737488355328) (hbase:base<=w.heap.size)
 (h:∀a' c' w',w'.ownsRow base 95 2 (.slice a' N c') N (aL (l++[y]))->Below base w w'->w.grownBy w' v.ownBlock->(a'=none->c'=0)->K (act.put o.dst (.slice a' N c')) w') :
 if Region.wanted o (yielded ops act.tmps)=true then o.wp Tryz.prog act w K Q else E:=by
 subst hN;rw [if_pos hw];refine yj s x 56 95 ho _ 2 16 Tryz.underlying56 IQ rfl omg base v n (aL l) hs hown _ 1 1 (aL [y]) hx rfl (fun _=>⟨_,rfl,IU h0 h1⟩) (Nb [y]) (by unfold maxLen;omega) omg hbase ?_;intro a' c' w' h1 h2 h3 h4;exact h a' c' w' (by rw [MS];exact h1) h2 h3 h4
theorem pU (w:World) (u v:Value) (t:TypeId) (fr:Nat × Nat):(w.alloc (.cells #[u,v] t fr)).cell? ⟨w.heap.size,0,none⟩=some u/\(w.alloc (.cells #[u,v] t fr)).cell? ⟨w.heap.size,1,none⟩=some v:=by
 have h:=han w (.cells #[u,v] t fr);constructor
 ·simp only [World.cell?];rw [h];rfl
 ·simp only [World.cell?];rw [h];rfl
theorem AJ {w:World} {ops:Array Oper} {o:Oper} {act:Act} {K:Act->World->Prop} {Q:Exit->Act->World->Prop} {E:Prop} (hw:Region.wanted o (yielded ops act.tmps)=true) (x:Operand) (s t:Int)
 (ho:o.op=.buildSlice 56 1 #[(0,x)]) (hx:act.eval x=.agg #[.int .i64 s,.int .i64 t]) (h:∀g w',w'.cell? ⟨g,0,none⟩=some (.int .i64 s)->w'.cell? ⟨g,1,none⟩=some (.int .i64 t)->Below w.heap.size w w'->K (act.put o.dst (.slice (some ⟨g,0,none⟩) 1 1)) w') :
 if Region.wanted o (yielded ops act.tmps)=true then o.wp Tryz.prog act w K Q else E:=by
 rw [if_pos hw];unfold Oper.wp;simp only [execOp,ho,List.map_toArray,List.map_cons,List.map_nil,hx];go_simp;exact h _ _ (pU w _ _ _ _).1 (pU w _ _ _ _).2 ((Below.refl _ w).alloc lrf _)

def Sw.Front (x:Sw):Prop:=x.n=0\/∃b,x.a=some ⟨b,0,none⟩
theorem Sw.Good.apart {w w':World} {x:Sw} {k:Option Nat} (h:x.Good w) (hf:x.Front) (hg:w.grownBy w' k) (hk:∀b,k=some b->∀z:Int,w.cell? ⟨b,0,none⟩≠some (.int .i64 z)):x.Good w':=by
 obtain ⟨h1,h2,h3,h4,h5⟩:=h;refine ⟨h1,h2,h3,h4,?_⟩;rcases h5 with h5|⟨b,off,ha,hc⟩
 ·exact .inl h5
 ·rcases Nat.eq_zero_or_pos x.n with h0|hp
  ·exact .inl h0
  ·refine .inr ⟨b,off,ha,fun i hi=>?_⟩;rcases hf with hf|⟨b',hb'⟩
   ·omega
   ·rw [ha] at hb';simp only [sij,Addr.mk.injEq,and_true] at hb';obtain ⟨rfl,rfl⟩:=hb';have hne:k≠some b:=fun e=>hk b e _ (by have:=(hc 0 hp).1;simpa using this);obtain ⟨e1,e2⟩:=hc i hi;exact ⟨hg.cell e1 (fun e=>hne e.symm),hg.cell e2 (fun e=>hne e.symm)⟩
theorem aeV {w:World} {B:Nat} {T:TypeId} {v:Value} {n:Nat} {xs:List Sw} (h:w.ownsRow B T 2 v n (bT xs)):∀b,v.ownBlock=some b->xs≠[]->∀z:Int,w.cell? ⟨b,0,none⟩≠some (.int .i64 z):=by
 intro b hb hne z;rcases h.2 with ⟨rfl,_⟩|⟨g,c,cur,rfl,_⟩
 ·cases hb
 ·have:g=b:=by simpa [Value.ownBlock] using hb
  subst this
  cases xs with
  | nil=>exact absurd rfl hne
  | cons x xs =>
    have hl:=h.1;rw [yx,List.length_cons] at hl;rw [h.cellAt 0 omg];simp [bT,Sw.cells,Sw.f]

end
section
open Go.RowKit Tri

def IV (w w':World) (e:Ending) (p:List St × Int):Prop :=
 ∃a n c ys,e=.returned (.tuple #[.slice a n c,.int .i64 p.2])/\Ss w' a n c ys/\sts ys=p.1/\(a=none->c=0)/\Below w.heap.size w w'
theorem aeW:(Tryz.prog.info? 58).map (·.size)=some 2:=krf
theorem Ars.far {w w':World} {a:OAd} {n cap:Nat} {l:List (Int × Int)} {k:Option Nat} (h:Ars w a n cap l) (hg:w.grownBy w' k) (hne:∀b off,a=some ⟨b,off,none⟩->k≠some b):Ars w' a n cap l:=by
 obtain ⟨h1,h2,h3,h4,h5⟩:=h;refine ⟨h1,h2,h3,h4,?_⟩;rcases h5 with h5|⟨b,off,ha,hc⟩
 ·exact .inl h5
 ·exact .inr ⟨b,off,ha,fun i hi=>⟨hg.cell (hc i hi).1 (fun e=>hne b off ha e.symm),hg.cell (hc i hi).2 (fun e=>hne b off ha e.symm)⟩⟩
theorem Nf {w:World} {B:Nat} {T:TypeId} {s:Nat} {a:OAd} {c n:Nat} {l:List Value} (h:w.ownsRow B T s (.slice a n c) n l):n=0\/∃b,a=some ⟨b,0,none⟩/\B<=b/\b<w.heap.size:=by
 rcases h.2 with ⟨_,h0⟩|⟨g,c',cur,hv,hb,_⟩
 ·exact .inl h0
 ·simp only [Value.slice.injEq] at hv;obtain ⟨rfl,_,_⟩:=hv;exact .inr ⟨g,rfl,(h.lt g rfl).1,(h.lt g rfl).2⟩
theorem IW {ws:LLI} (hs:Tri.Short ws) {p:LIn} (hp:p∈begs ws):p.length<=20:=by
 rcases (yu hs).1 hp with rfl|⟨w,hw,h⟩
 ·simp
 ·exact Nat.le_trans h.length_le (hs w hw)
theorem aeX {ws:LLI} {i:Nat} {p:LIn} {f:Bool} (hi:i<(begs ws).length) (hp:(begs ws).getD i []=p) (hf:decide (p∈ws)=f):(make ws).take (i+1)=(make ws).take i++[⟨f,aP (begs ws) p⟩]:=by
 have hl:=iM ws;have hi':i<(make ws).length:=omg;rw [tsa hi',AB hi'];have e:(begs ws)[i]=p:=by rw [<-hp];simp [hi]
 simp only [e,hf]
end
section
open Go.RowKit Tri

def pV (n i:Nat) (p:Option Int) (x:Int × Int):Bool:=Utf.good x.1&&decide ((i:Int)<x.2)&&decide (x.2<(n:Int))&&behind p x.1
theorem DC (n i:Nat) (p:Option Int) (x:Int × Int) (l:List (Int × Int)):dh n i p (x::l)=(pV n i p x&&dh n i (some x.1) l):=rfl
def mf (p:Option Int) (l:List (Int × Int)):Option Int:=(l.getLast?.map fun x=>x.1).or p
theorem afD (p:Option Int) (y:Int × Int) (l:List (Int × Int)):mf p (y::l)=mf (some y.1) l:=by
 unfold mf
 cases l with
 | nil=>simp
 | cons z l =>
   rw [List.getLast?_cons_cons]
   cases h:(z::l).getLast? with
   | none=>simp at h
   | some u=>simp
theorem Vd {l:List (Int × Int)} {p:Nat} {s t:Int} (h:p<l.length) (hx:l.getD p (0,0)=(s,t)):mf none (l.take (p+1))=some s:=by
 unfold mf;rw [List.getLast?_take,if_neg omg,Nat.add_sub_cancel,geg h];have:l[p]=(s,t):=by rw [<-hx];simp [h]
 simp [this]
theorem wu {n i:Nat}:∀(l:List (Int × Int)) (p:Option Int) (x:Int × Int),dh n i p (l++[x])=(dh n i p l&&pV n i (mf p l) x)
 | [],p,x=>by
   have e:mf p []=p:=by simp [mf]
   rw [List.nil_append,DC,e];simp [dh]
 | y::l,p,x=>by
   rw [List.cons_append,DC,DC,wu l (some y.1) x,afD,Bool.and_assoc]
theorem Nk {n i:Nat}:∀(l r:List (Int × Int)) (p:Option Int),dh n i p (l++r)=true->dh n i p l=true
 | [],r,p,_=>rfl
 | y::l,r,p,h=>by
   rw [List.cons_append,DC] at h;rw [DC];simp only [Bool.and_eq_true] at h ⊢;exact ⟨h.1,Nk l r _ h.2⟩
theorem IY {n:Nat}:∀(l r:List St) (i:Nat),ib n i (l++r)=(ib n i l&&ib n (i+l.length) r)
 | [],r,i=>by simp [ib]
 | s::l,r,i=>by
   rw [List.cons_append,ib,ib,IY l r (i+1),Bool.and_assoc]
   congr 3
   simp;omega
theorem DD {l:List St} {i j:Nat} {s:St} (hi:i<l.length) (hs:l.getD i St.no=s) (h:dh l.length i none (s.arcs.take j)=false):check l=false:=by
 have e:l=l.take i++s::l.drop (i+1):=by
  have h1:l[i]=s:=by rw [<-hs];simp [hi]
  rw [<-h1,List.getElem_cons_drop];exact (List.take_append_drop i l).symm
 have hb:dh l.length i none s.arcs=false:=by
  cases hc:dh l.length i none s.arcs with
  | false=>rfl
  | true =>
    have:=Nk (s.arcs.take j) (s.arcs.drop j) none (by rw [List.take_append_drop];exact hc);rw [h] at this;cases this
 have hA:ib l.length 0 l=false:=by
  conv=>lhs;arg 3;rw [e]
  rw [IY,Nat.zero_add,show (l.take i).length=i by simp;omega,ib,hb];simp
 unfold check;rw [hA];rfl

theorem pW (a:OAd) (n cap:Nat) (xs:List Sw) (r:Bool) (w:World) (ha:Ss w a n cap xs) (hr:check (sts xs)=r) :
 Calls Tryz.prog 35 #[.slice a n cap] w fun e w'=>e=.returned (.bool r)/\Below w.heap.size w w':=by
 have hnc:=ha.2.1;have hcm:=ha.2.2.1;unfold maxLen at hcm;have HA:=hdq ha;have HR:=hdq hr;have HL:Hid ((sts xs).length=n):=by show _=_;rw [fq,ha.1]
 clear ha hr;go_enter Tryz.func35,Tryz.ntmps35;go_wp2;go_loopw [3] (fun ix wr=>∃i:Nat,i<=n/\ix=.int .i64 (i:Int)/\Hid (ib n 0 ((sts xs).take i)=true)/\Hid (Below w.heap.size w wr)) (fun ix _=>n-(intOf ix).toNat)
 case atStart=>exact ⟨0,Nat.zero_le _,rfl,rfl,Below.refl _ _⟩
 case round =>
  obtain ⟨i,hi,rfl,aC,ai⟩:=hrel;by_cases hlt:i<n
  ·obtain ⟨b1,o1,f,sa,sn,sc,arcs,rfl,_,hx1,hx2,bS,hz1⟩:=(HA.out.below ai.out lrf).one i hlt;have HZ1:Hid ((sts xs).getD i St.no=⟨f,arcs⟩):=by show _=_;rw [ic,hz1];rfl
   have jc:=hdq bS;have fG:=hdq bS.1;have hsc:=bS.2.1;have oC:=bS.2.2.1;unfold maxLen at oC;have bB:(i:Int)<(n:Int):=omg;clear bS hz1;go_wp2;generalize wr=wo at *;go_loopw [4] (fun ix wr=>∃k:Nat,k<=sn/\ix=.int .i64 (k:Int)/\Hid (dh n i none (arcs.take k)=true)/\Hid (Below wo.heap.size wo wr)) (fun ix _=>sn-(intOf ix).toNat)
   case atStart=>exact ⟨0,Nat.zero_le _,rfl,rfl,Below.refl _ _⟩
   case round =>
    obtain ⟨k,hk,rfl,uR,bE⟩:=hrel;have uS:wr.cell? ⟨b1,o1+i*2+1,none⟩=some (.slice sa sn sc):=by rw [bE.out.cell (p:=⟨b1,o1+i*2+1,none⟩) (bQ hx2)];exact hx2
    by_cases hlk:k<sn
    ·obtain ⟨b2,o2,s,t,rfl,hb2,hy1,hy2,hws,hwt,hz2⟩:=(jc.out.below bE.out lrf).one k hlk;have hsb:=bounds_i64 hws;have YV:(k:Int)<(sn:Int):=omg;have HST:Hid (arcs.take (k+1)=arcs.take k++[(s,t)]):=sZ (by rw [fG.out];exact hlk) hz2;have aN:∀o,Hid (Below wo.heap.size wo (wr.alloc o)/\Below w.heap.size w (wr.alloc o)):=fun o=>⟨bE.out.alloc bE.out.size o,ai.out.trans ((bE.out.alloc bE.out.size o).mono ai.out.size)⟩;obtain ⟨g,hg⟩:∃g,Utf.good s=g:=⟨_,rfl⟩
     have HG:∀W:World,Hid (Calls Tryz.prog 83 #[.int .i64 s] W fun e w'=>e=.returned (.bool g)/\W=w'):=fun W=>by
      rw [<-hg];exact tq s W omg omg
     have ru:=hdq hg;clear hg

     have arJ:∀o,(wr.alloc o).cell? ⟨b1,o1+i*2+1,none⟩=some (.slice (some ⟨b2,o2,none⟩) sn sc):=fun o=>by rw [((Below.refl wr.heap.size wr).alloc lrf o).cell (p:=⟨b1,o1+i*2+1,none⟩) (bQ uS)];exact uS
     clear hz2 hws hwt hsb;cases g
     ·obtain rfl:r=false:=by
       rw [<-HR.out];refine DD (j:=k+1) (by rw [HL.out];exact hlt) HZ1.out ?_;rw [HL.out];show dh n i none (arcs.take (k+1))=false;rw [HST.out,wu];simp [pV,ru.out]
      go_wp2;go_quiet ((go_at_call 83;exact Calls.quiet_of_same ((HG _).out.mono fun _ _ h=>⟨h.1,h.2.symm⟩)));go_wp2;go_ret;exact ⟨rfl,below_drewN (aN _).out.2 _⟩
     ·by_cases c2:t<=(i:Int)
      ·have PM:decide (t<=(i:Int))=true:=decide_eq_true c2
       obtain rfl:r=false:=by
        rw [<-HR.out];refine DD (j:=k+1) (by rw [HL.out];exact hlt) HZ1.out ?_;rw [HL.out];show dh n i none (arcs.take (k+1))=false;rw [HST.out,wu];have:decide ((i:Int)<t)=false:=decide_eq_false omg;simp [pV,this]
       clear c2;go_wp2;go_quiet ((go_at_call 83;exact Calls.quiet_of_same ((HG _).out.mono fun _ _ h=>⟨h.1,h.2.symm⟩)));go_wp2;go_ret;exact ⟨rfl,below_drewN (aN _).out.2 _⟩
      ·have PM:decide (t<=(i:Int))=false:=decide_eq_false c2;by_cases c3:t>=(n:Int)
       ·have c3d:decide (t>=(n:Int))=true:=decide_eq_true c3
        obtain rfl:r=false:=by
         rw [<-HR.out];refine DD (j:=k+1) (by rw [HL.out];exact hlt) HZ1.out ?_;rw [HL.out];show dh n i none (arcs.take (k+1))=false;rw [HST.out,wu];have:decide (t<(n:Int))=false:=decide_eq_false omg;simp [pV,this]
        clear c2 c3;go_wp2;go_quiet ((go_at_call 83;exact Calls.quiet_of_same ((HG _).out.mono fun _ _ h=>⟨h.1,h.2.symm⟩)));go_wp2;go_ret;exact ⟨rfl,below_drewN (aN _).out.2 _⟩
       ·have c3d:decide (t>=(n:Int))=false:=decide_eq_false c3;have HI:Hid ((i:Int)<t/\t<(n:Int)):=⟨by omega,by omega⟩;clear c2 c3
        cases k with
        | zero =>
          have tK:Hid (dh n i none (arcs.take (0+1))=true):=by
           show _=_;rw [HST.out,wu,uR.out];simp [pV,ru.out,HI.out.1,HI.out.2,mf,behind]
          have ck:decide (((0:Nat):Int)>0)=false:=by decide
          simp only [Nat.zero_mul,Nat.add_zero] at hy1 hy2;go_wp2;go_quiet ((go_at_call 83;exact Calls.quiet_of_same ((HG _).out.mono fun _ _ h=>⟨h.1,h.2.symm⟩)));go_wp2;go_roundw
          case rel=>exact ⟨0+1,by omega,by go_num,tK.out,below_drewN (aN _).out.1 _⟩
          case measure=>simp [intOf];omega
        | succ p =>
          obtain ⟨b3,o3,s3,t3,hb3,_,hu1,hu2,_,_,hu3⟩:=(jc.out.below bE.out lrf).one p omg;simp only [sij,Addr.mk.injEq,and_true] at hb3;obtain ⟨rfl,rfl⟩:=hb3;have ry:Hid (mf none (arcs.take (p+1))=some s3):=Vd (by rw [fG.out];omega) hu3;have arK:∀o,(wr.alloc o).cell? ⟨b2,o2+p*2,none⟩=some (.int .i64 s3):=fun o=>by rw [((Below.refl wr.heap.size wr).alloc lrf o).cell (p:=⟨b2,o2+p*2,none⟩) (bQ hu1)];exact hu1
          have ck:decide (((p+1:Nat):Int)>0)=true:=decide_eq_true omg;have ck':decide ((p:Int)+1>0)=true:=decide_eq_true omg;have hpw:IntKind.i64.wrap (((p+1:Nat):Int)-1)=(p:Int):=by rw [IntKind.wrap_i64];omega
          have YW:IntKind.i64.wrap ((p:Int)+1-1)=(p:Int):=by rw [IntKind.wrap_i64];omega
          have hpn:(p:Int)<(sn:Int):=omg;have hp0:(0:Int)<=(p:Int):=omg;clear hu1 hu2 hu3;by_cases c4:s<=s3
          ·have c4d:decide (s<=s3)=true:=decide_eq_true c4
           obtain rfl:r=false:=by
            rw [<-HR.out];refine DD (j:=p+1+1) (by rw [HL.out];exact hlt) HZ1.out ?_;rw [HL.out];show dh n i none (arcs.take (p+1+1))=false;rw [HST.out,wu];have:decide (s3<s)=false:=decide_eq_false omg;rw [ry.out];simp [pV,behind,this]
           clear c4;go_wp2;go_quiet ((go_at_call 83;exact Calls.quiet_of_same ((HG _).out.mono fun _ _ h=>⟨h.1,h.2.symm⟩)));go_wp2;go_ret;exact ⟨rfl,below_drewN (aN _).out.2 _⟩
          ·have c4d:decide (s<=s3)=false:=decide_eq_false c4
           have tK:Hid (dh n i none (arcs.take (p+1+1))=true):=by
            show _=_;rw [HST.out,wu,uR.out,ry.out];have:decide (s3<s)=true:=decide_eq_true omg;simp [pV,ru.out,HI.out.1,HI.out.2,behind,this]
           clear c4;go_wp2;go_quiet ((go_at_call 83;exact Calls.quiet_of_same ((HG _).out.mono fun _ _ h=>⟨h.1,h.2.symm⟩)));go_wp2;go_roundw
           case rel=>exact ⟨p+1+1,by omega,by go_num,tK.out,below_drewN (aN _).out.1 _⟩
           case measure=>simp [intOf];omega

    ·obtain rfl:sn=k:=omg;go_wp2;go_roundw
     case rel =>
      refine ⟨i+1,by omega,by go_num,?_,ai.out.trans (bE.out.mono ai.out.size)⟩;show _=_;have h1:=uR.out;rw [tol (by rw [fG.out];exact Nat.le_refl _)] at h1
      have e:(sts xs).take (i+1)=(sts xs).take i++[⟨f,arcs⟩]:=by
       rw [tsa (by rw [HL.out];exact hlt)]
       congr 2
       rw [<-HZ1.out];simp [show i<(sts xs).length by rw [HL.out];exact hlt]
      rw [e,IY,aC.out,Nat.zero_add,show ((sts xs).take i).length=i by rw [List.length_take,HL.out];omega];simp [ib,h1]
     case measure=>simp [intOf];omega
  ·obtain rfl:n=i:=omg
   have hck:ib n 0 (sts xs)=true:=by
    have h:=aC.out
    rwa [tol (by rw [HL.out];exact Nat.le_refl _)] at h
   have hrr:r=(decide (1<=n)&&decide (n<=6001)):=by
    rw [<-HR.out];unfold check;rw [HL.out,hck];rfl
   clear hck;by_cases h1:1<=n
   ·have uO:(n:Int)>=1:=omg;by_cases h2:n<=6001
    ·have JX:(n:Int)<=6001:=omg;obtain rfl:r=true:=by rw [hrr];simp [h1,h2]
     clear hrr;go_wp2;go_ret;exact ⟨rfl,ai.out⟩
    ·have JX:¬(n:Int)<=6001:=omg;obtain rfl:r=false:=by rw [hrr];simp [h2]
     clear hrr;go_wp2;go_ret;exact ⟨rfl,ai.out⟩
   ·have uO:¬(n:Int)>=1:=omg;obtain rfl:r=false:=by rw [hrr];simp [h1]
    clear hrr;go_wp2;go_ret;exact ⟨rfl,ai.out⟩

end
end Go.Proofs.YtkiamgcpcneggaaGreat
