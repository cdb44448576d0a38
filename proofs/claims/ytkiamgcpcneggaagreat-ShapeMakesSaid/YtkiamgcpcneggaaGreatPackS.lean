import Derived.Test.YtkiamgcpcneggaaGreatPackK
import Derived.Test.YtkiamgcpcneggaaGreatPackJ
set_option linter.all false
set_option maxRecDepth 100000
set_option maxHeartbeats 12800000
namespace Go.Proofs.YtkiamgcpcneggaaGreat
section
open Go.RowKit Tri

def ShortS (xs:List Sw):Prop:=∀x∈xs,x.n<=100
theorem ShortS.snoc {xs:List Sw} {j:Nat} (h:ShortS (xs.take j)) (hj:j<xs.length) (hx:(xs.getD j Sw.no).n<=100):ShortS (xs.take (j+1)):=by
 intro x hm;rw [tsa hj] at hm;rcases map1 hm with hm|hm
 ·exact h x hm
 ·rw [msg hm];simpa [hj] using hx

theorem aey {l:List St} {f s:Int} (h:f<0\/(l.length:Int)<=f):Tri.step l f s=(0,false):=by unfold Tri.step;rw [if_pos h]
theorem avr {l:List St} {i:Nat} {s:Int} (h:i<l.length):Tri.step l (i:Int) s=match (l.getD i St.no).arcs.find? fun a=>decide (a.1=s) with
 | some a=>(a.2,true)
 | none=>(0,false):=by
 unfold Tri.step;rw [if_neg (by omega)];rfl
theorem avs {l:List (Int × Int)} {j:Nat} {s t:Int} (hj:j<l.length) (hx:l.getD j (0,0)=(s,t)) (h:∀x∈l.take j,x.1≠s):(l.find? fun a=>decide (a.1=s))=some (s,t):=by
 have e:l=l.take j++(s,t)::l.drop (j+1):=by
  have h1:l[j]=(s,t):=by rw [<-hx];simp [hj]
  rw [<-h1,List.getElem_cons_drop];exact (List.take_append_drop j l).symm
 rw [e,List.find?_append,List.find?_eq_none.2 (fun x hx=>by simpa using h x hx)]
 simp
theorem avt {l:List (Int × Int)} {s:Int} (h:∀x∈l,x.1≠s):(l.find? fun a=>decide (a.1=s))=none:=List.find?_eq_none.2 (fun x hx=>by simpa using h x hx)

end
section
open Go.RowKit Tri

theorem tj {w w1:World} {q:Nat} (h:∃q,w1=w.drewN q):∃p,w1.drewN q=w.drewN p:=by
 obtain ⟨p,rfl⟩:=h;exact ⟨_,World.drewN_drewN _ _ _⟩

end
section
open Go.RowKit Tri

theorem xr:(Tryz.prog.info? 95).map (fun i=>(i.zero,i.size,i.bytes))=some (some (.agg #[.int .i64 0,.int .i64 0]),2,16):=by kernel_rfl
theorem zj:(Tryz.prog.info? 58).map (fun i=>(i.zero,i.size,i.bytes))=some (some (.agg #[.bool false,.slice none 0 0]),2,32):=by kernel_rfl
theorem zk (l:List (Int × Int)):∀u∈acells l,u.oneCell'=true:=by
 intro u hu;obtain ⟨x,_,hx⟩:=List.mem_flatMap.1 hu;simp only [List.mem_cons,List.not_mem_nil,or_false] at hx;rcases hx with rfl|rfl<;>rfl
theorem akf (xs:List Sw):∀u∈scells xs,u.oneCell'=true:=by
 intro u hu;obtain ⟨x,_,hx⟩:=List.mem_flatMap.1 hu;simp only [Sw.cells,List.mem_cons,List.not_mem_nil,or_false] at hx;rcases hx with rfl|rfl<;>rfl
theorem tr {w:World} {g:Nat} {u v:Value} (h0:w.cell? ⟨g,0,none⟩=some u) (h1:w.cell? ⟨g,1,none⟩=some v):∀j x,([u,v]:List Value)[j]?=some x->w.cell? ((⟨g,0,none⟩:Addr).add j)=some x:=by
 intro j x hj
 match j,hj with
 | 0,hj=>simp at hj;subst hj;simpa [Addr.add] using h0
 | 1,hj=>simp at hj;subst hj;simpa [Addr.add] using h1

theorem zl {w:World} {ops:Array Oper} {rest:List Oper} {o:Oper} {act:Act} {Q:Exit->Act->World->Prop} (hw:Region.wanted o (yielded ops act.tmps)=true) (s x:Operand)
 (ho:o.op=.call { callee:=.builtin .append,args:=#[s,x],argTypes:=#[56,56] }) (base:Nat) (v:Value) (n:Nat) (l:List (Int × Int)) (hs:act.eval s=v)
 (hown:w.ownsRow base 95 2 v n (acells l)) (g:Nat) (y:Int × Int) (hx:act.eval x=.slice (some ⟨g,0,none⟩) 1 1) (h0:w.cell? ⟨g,0,none⟩=some (.int .i64 y.1)) (h1:w.cell? ⟨g,1,none⟩=some (.int .i64 y.2))
 (N:Nat) (hN:n+1=N) (h63:N*16<=140737488355328) (hbase:base<=w.heap.size)
 (h:∀a' c' w',w'.ownsRow base 95 2 (.slice a' N c') N (acells (l++[y]))->Below base w w'->w.grownBy w' v.ownBlock->(a'=none->c'=0)->wpList Tryz.prog ops Q rest (act.put o.dst (.slice a' N c')) w') :
 wpList Tryz.prog ops Q (o::rest) act w:=by
 subst hN;refine wpList_step fun K hK=>?_;rw [if_pos hw];refine ej s x 56 95 ho _ 2 16 Tryz.underlying56 xr rfl (by omega) base v n (acells l) hs hown _ 1 1 (acells [y]) hx rfl (fun _=>⟨_,rfl,tr h0 h1⟩) (zk [y]) (by unfold maxLen;omega) (by omega) hbase ?_
 intro a' c' w' h1 h2 h3 h4;exact hK _ _ (h a' c' w' (by rw [zi];exact h1) h2 h3 h4)
theorem mr {w:World} {ops:Array Oper} {rest:List Oper} {o:Oper} {act:Act} {Q:Exit->Act->World->Prop} (hw:Region.wanted o (yielded ops act.tmps)=true) (s x:Operand)
 (ho:o.op=.call { callee:=.builtin .append,args:=#[s,x],argTypes:=#[22,22] }) (base:Nat) (v:Value) (n:Nat) (l:List Sw) (hs:act.eval s=v)
 (hown:w.ownsRow base 58 2 v n (scells l)) (g:Nat) (y:Sw) (hx:act.eval x=.slice (some ⟨g,0,none⟩) 1 1) (h0:w.cell? ⟨g,0,none⟩=some y.f) (h1:w.cell? ⟨g,1,none⟩=some y.s)
 (N:Nat) (hN:n+1=N) (h63:N*32<=140737488355328) (hbase:base<=w.heap.size)
 (h:∀a' c' w',w'.ownsRow base 58 2 (.slice a' N c') N (scells (l++[y]))->Below base w w'->w.grownBy w' v.ownBlock->(a'=none->c'=0)->wpList Tryz.prog ops Q rest (act.put o.dst (.slice a' N c')) w') :
 wpList Tryz.prog ops Q (o::rest) act w:=by
 subst hN;refine wpList_step fun K hK=>?_;rw [if_pos hw];refine ej s x 22 58 ho _ 2 32 Tryz.underlying22 zj rfl (by omega) base v n (scells l) hs hown _ 1 1 (scells [y]) hx rfl (fun _=>⟨_,rfl,tr h0 h1⟩) (akf [y]) (by unfold maxLen;omega) (by omega) hbase ?_
 intro a' c' w' h1 h2 h3 h4;exact hK _ _ (h a' c' w' (by rw [akd];exact h1) h2 h3 h4)

theorem jz (w:World) (u v:Value) (t:TypeId) (fr:Nat × Nat):(w.alloc (.cells #[u,v] t fr)).cell? ⟨w.heap.size,0,none⟩=some u/\(w.alloc (.cells #[u,v] t fr)).cell? ⟨w.heap.size,1,none⟩=some v:=by
 have h:=han w (.cells #[u,v] t fr);constructor
 ·simp only [World.cell?];rw [h];rfl
 ·simp only [World.cell?];rw [h];rfl
theorem pq {w:World} {ops:Array Oper} {o:Oper} {act:Act} {K:Act->World->Prop} {Q:Exit->Act->World->Prop} {E:Prop} (hw:Region.wanted o (yielded ops act.tmps)=true) (x:Operand) (s t:Int)
 (ho:o.op=.buildSlice 56 1 #[(0,x)]) (hx:act.eval x=.agg #[.int .i64 s,.int .i64 t]) (h:∀g w',w'.cell? ⟨g,0,none⟩=some (.int .i64 s)->w'.cell? ⟨g,1,none⟩=some (.int .i64 t)->Below w.heap.size w w'->K (act.put o.dst (.slice (some ⟨g,0,none⟩) 1 1)) w') :
 if Region.wanted o (yielded ops act.tmps)=true then o.wp Tryz.prog act w K Q else E:=by
 rw [if_pos hw];unfold Oper.wp;simp only [execOp,ho,List.map_toArray,List.map_cons,List.map_nil,hx];go_simp;exact h _ _ (jz w _ _ _ _).1 (jz w _ _ _ _).2 ((Below.refl _ w).alloc lrf _)

def Sw.Front (x:Sw):Prop:=x.n=0\/∃b,x.a=some ⟨b,0,none⟩
theorem Sw.Good.apart {w w':World} {x:Sw} {k:Option Nat} (h:x.Good w) (hf:x.Front) (hg:w.grownBy w' k) (hk:∀b,k=some b->∀z:Int,w.cell? ⟨b,0,none⟩≠some (.int .i64 z)):x.Good w':=by
 obtain ⟨h1,h2,h3,h4,h5⟩:=h;refine ⟨h1,h2,h3,h4,?_⟩;rcases h5 with h5|⟨b,off,ha,hc⟩
 ·exact .inl h5
 ·rcases Nat.eq_zero_or_pos x.n with h0|hp
  ·exact .inl h0
  ·refine .inr ⟨b,off,ha,fun i hi=>?_⟩;rcases hf with hf|⟨b',hb'⟩
   ·omega
   ·rw [ha] at hb';simp only [sij,Addr.mk.injEq,and_true] at hb';obtain ⟨rfl,rfl⟩:=hb';have hne:k≠some b:=fun e=>hk b e _ (by have:=(hc 0 hp).1;simpa using this)
    obtain ⟨e1,e2⟩:=hc i hi;exact ⟨hg.cell e1 (fun e=>hne e.symm),hg.cell e2 (fun e=>hne e.symm)⟩
theorem akg {w:World} {B:Nat} {T:TypeId} {v:Value} {n:Nat} {xs:List Sw} (h:w.ownsRow B T 2 v n (scells xs)):∀b,v.ownBlock=some b->xs≠[]->∀z:Int,w.cell? ⟨b,0,none⟩≠some (.int .i64 z):=by
 intro b hb hne z;rcases h.2 with ⟨rfl,_⟩|⟨g,c,cur,rfl,_⟩
 ·cases hb
 ·have:g=b:=by simpa [Value.ownBlock] using hb
  subst this
  cases xs with
  | nil=>exact absurd rfl hne
  | cons x xs =>
    have hl:=h.1;rw [jf,List.length_cons] at hl;rw [h.cellAt 0 (by omega)]
    simp [scells,Sw.cells,Sw.f]

end
section
open Go.RowKit Tri

def MadeIs (w w':World) (e:Ending) (p:List St × Int):Prop :=
 ∃a n c ys,e=.returned (.tuple #[.slice a n c,.int .i64 p.2])/\Ss w' a n c ys/\sts ys=p.1/\(a=none->c=0)/\Below w.heap.size w w'
theorem Ars.far {w w':World} {a:Option Addr} {n cap:Nat} {l:List (Int × Int)} {k:Option Nat} (h:Ars w a n cap l) (hg:w.grownBy w' k) (hne:∀b off,a=some ⟨b,off,none⟩->k≠some b):Ars w' a n cap l:=by
 obtain ⟨h1,h2,h3,h4,h5⟩:=h;refine ⟨h1,h2,h3,h4,?_⟩;rcases h5 with h5|⟨b,off,ha,hc⟩
 ·exact .inl h5
 ·exact .inr ⟨b,off,ha,fun i hi=>⟨hg.cell (hc i hi).1 (fun e=>hne b off ha e.symm),hg.cell (hc i hi).2 (fun e=>hne b off ha e.symm)⟩⟩
theorem ajf {w:World} {B:Nat} {T:TypeId} {s:Nat} {a:Option Addr} {c n:Nat} {l:List Value} (h:w.ownsRow B T s (.slice a n c) n l):n=0\/∃b,a=some ⟨b,0,none⟩/\B<=b/\b<w.heap.size:=by
 rcases h.2 with ⟨_,h0⟩|⟨g,c',cur,hv,hb,_⟩
 ·exact .inl h0
 ·simp only [Value.slice.injEq] at hv;obtain ⟨rfl,_,_⟩:=hv;exact .inr ⟨g,rfl,(h.lt g rfl).1,(h.lt g rfl).2⟩
theorem zm {ws:List (List Int)} (hs:Tri.Short ws) {p:List Int} (hp:p∈begs ws):p.length<=20:=by
 rcases (ji hs).1 hp with rfl|⟨w,hw,h⟩
 ·simp
 ·exact Nat.le_trans h.length_le (hs w hw)
end
section
open Go.RowKit Tri

def arcMay (n i:Nat) (p:Option Int) (x:Int × Int):Bool:=Utf.good x.1&&decide ((i:Int)<x.2)&&decide (x.2<(n:Int))&&behind p x.1
theorem jb (n i:Nat) (p:Option Int) (x:Int × Int) (l:List (Int × Int)):arcsOk n i p (x::l)=(arcMay n i p x&&arcsOk n i (some x.1) l):=rfl
def lastS (p:Option Int) (l:List (Int × Int)):Option Int:=(l.getLast?.map fun x=>x.1).or p
theorem akn (p:Option Int) (y:Int × Int) (l:List (Int × Int)):lastS p (y::l)=lastS (some y.1) l:=by
 unfold lastS
 cases l with
 | nil=>simp
 | cons z l =>
   rw [List.getLast?_cons_cons]
   cases h:(z::l).getLast? with
   | none=>simp at h
   | some u=>simp
theorem ako {l:List (Int × Int)} {p:Nat} {s t:Int} (h:p<l.length) (hx:l.getD p (0,0)=(s,t)):lastS none (l.take (p+1))=some s:=by
 unfold lastS;rw [List.getLast?_take,if_neg (by omega),Nat.add_sub_cancel,geg h]
 have:l[p]=(s,t):=by rw [<-hx];simp [h]
 simp [this]
theorem vy {n i:Nat}:∀(l:List (Int × Int)) (p:Option Int) (x:Int × Int),arcsOk n i p (l++[x])=(arcsOk n i p l&&arcMay n i (lastS p l) x)
 | [],p,x=>by
   have e:lastS p []=p:=by simp [lastS]
   rw [List.nil_append,jb,e];simp [arcsOk]
 | y::l,p,x=>by
   rw [List.cons_append,jb,jb,vy l (some y.1) x,akn,Bool.and_assoc]
theorem qy {n i:Nat}:∀(l r:List (Int × Int)) (p:Option Int),arcsOk n i p (l++r)=true->arcsOk n i p l=true
 | [],r,p,_=>rfl
 | y::l,r,p,h=>by
   rw [List.cons_append,jb] at h;rw [jb];simp only [Bool.and_eq_true] at h ⊢;exact ⟨h.1,qy l r _ h.2⟩
theorem qz {n:Nat}:∀(l r:List St) (i:Nat),checkA n i (l++r)=(checkA n i l&&checkA n (i+l.length) r)
 | [],r,i=>by simp [checkA]
 | s::l,r,i=>by
   rw [List.cons_append,checkA,checkA,qz l r (i+1),Bool.and_assoc]
   congr 3
   simp;omega
theorem ank {l:List St} {i j:Nat} {s:St} (hi:i<l.length) (hs:l.getD i St.no=s) (h:arcsOk l.length i none (s.arcs.take j)=false):check l=false:=by
 have e:l=l.take i++s::l.drop (i+1):=by
  have h1:l[i]=s:=by rw [<-hs];simp [hi]
  rw [<-h1,List.getElem_cons_drop];exact (List.take_append_drop i l).symm
 have hb:arcsOk l.length i none s.arcs=false:=by
  cases hc:arcsOk l.length i none s.arcs with
  | false=>rfl
  | true =>
    have:=qy (s.arcs.take j) (s.arcs.drop j) none (by rw [List.take_append_drop];exact hc)
    rw [h] at this;cases this
 have hA:checkA l.length 0 l=false:=by
  conv=>lhs;arg 3;rw [e]
  rw [qz,Nat.zero_add,show (l.take i).length=i by simp;omega,checkA,hb]
  simp
 unfold check;rw [hA];rfl

end
end Go.Proofs.YtkiamgcpcneggaaGreat
