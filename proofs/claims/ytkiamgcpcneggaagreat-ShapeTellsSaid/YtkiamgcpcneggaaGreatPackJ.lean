import Derived.Test.YtkiamgcpcneggaaGreatPackD
import Derived.Laws.AppendOwnNone
import Derived.WalkLawsBesides
import Derived.Test.YtkiamgcpcneggaaGreatChecked
import Derived.BigQuiet
import Derived.BigGuardPart
import Derived.OpenShut
import Derived.Lib.Strings
import Derived.Deep.AppendLies
import Derived.Maps.RangeWalk
import Derived.ShutString
import Derived.Lib.SlBytesConst
set_option linter.all false
set_option maxRecDepth 100000
set_option maxHeartbeats 12800000
namespace Go.Proofs.YtkiamgcpcneggaaGreat
section
open Go.RowKit

theorem qI {w:World} {base:Nat} {e:TypeId} {size:Nat} {v:Value} {k:Nat} {l:List Value} (h:w.ownsRow base e size v k l):∃a' c',v=.slice a' k c'/\(a'=none->c'=0):=by
 rcases h.2 with ⟨h1,h2⟩|⟨g,cap,cur,h1,_⟩
 ·subst h2;exact ⟨none,0,h1,fun _=>rfl⟩
 ·exact ⟨_,cap,h1,fun h=>by cases h⟩
theorem lW {w:World} {B B':Nat} {e:TypeId} {size:Nat} {v:Value} {n:Nat} {l:List Value} (h:w.ownsRow B e size v n l) (hB:B'<=B):w.ownsRow B' e size v n l:=by
 refine ⟨h.1,?_⟩;rcases h.2 with h1|⟨g,c,cur,h1,h2,h3⟩
 ·exact .inl h1
 ·exact .inr ⟨g,c,cur,h1,Nat.le_trans hB h2,h3⟩

theorem Uk {P:Program} {w:World} (base:Nat) (t ty e:TypeId) (i:TypeInfo) (size c:Nat) (ht:P.underlying t=some (.slice e)) (hi:P.info? e=some i)
 (v:Value) (n:Nat) (xs:List Value) (hown:w.ownsRow base e size v n xs) :
 (Builtin.append_ #[t,t] ty #[v,.slice none 0 c]).run P w=.ok v w:=by
 rcases hown.2 with ⟨rfl,rfl⟩|⟨g,cap,cur,rfl,_,_,hnc,_⟩
 ·simp [Builtin.append_,run_underlying ht,sizeOf,typeInfo,hi,Builtin.lenOf,Builtin.firstCells]
 ·simp [Builtin.append_,run_underlying ht,sizeOf,typeInfo,hi,Builtin.lenOf,Builtin.firstCells,hnc,storeCells]

theorem yj {P:Program} {w:World} {o:Oper} {act:Act} {K:Act->World->Prop} {Q:Exit->Act->World->Prop} (s x:Operand) (T e:TypeId)
 (ho:o.op=.call { callee:=.builtin .append,args:=#[s,x],argTypes:=#[T,T] }) (z:Value) (size bytes:Nat) (hu:P.underlying T=some (.slice e)) (hinfo:(P.info? e).map (fun i=>(i.zero,i.size,i.bytes))=some (some z,size,bytes))
 (hzc:z.cells.size=size) (hsz:0<size) (base:Nat) (v:Value) (n:Nat) (xs:List Value) (hs:act.eval s=v)
 (hown:w.ownsRow base e size v n xs) (a:OAd) (m c:Nat) (zs:List Value) (hx:act.eval x=.slice a m c) (hz:zs.length=m*size) (hc:0<m->∃y,a=some y/\∀j u,zs[j]?=some u->w.cell? (y.add j)=some u) (h1:∀u∈zs,u.oneCell'=true)
 (hmax:n+m<=maxLen) (h63:(n+m)*bytes<=140737488355328) (hbase:base<=w.heap.size)
 (h:∀a' c' w',w'.ownsRow base e size (.slice a' (n+m) c') (n+m) (xs++zs)->Below base w w'->w.grownBy w' v.ownBlock->(a'=none->c'=0)->K (act.put o.dst (.slice a' (n+m) c')) w') :
 o.wp P act w K Q:=by
 obtain ⟨i0,hi,hz0,hz1,hz2⟩:=info_parts hinfo
 cases a with
 | none =>
   obtain rfl:m=0:=by
    rcases Nat.eq_zero_or_pos m with h0|h0
    ·exact h0
    ·obtain ⟨y,e,_⟩:=hc h0;cases e
   obtain rfl:zs=[]:=List.eq_nil_of_length_eq_zero (by rw [hz,Nat.zero_mul]);obtain ⟨a',c',rfl,hnil⟩:=qI hown;have hrun:=Uk (P:=P) (w:=w) base T o.type e i0 size c hu hi _ n xs hown;unfold Oper.wp;simp [execOp,ho,resolve,invoke,builtin,hs,hx,hrun,Result.andThen];exact h a' c' w (by simpa using hown) (Below.refl _ _) (World.grownBy.refl w _) hnil
 | some y =>
   have hnews:∀j u,zs[j]?=some u->w.cell? (y.add j)=some u:=by
    intro j u hj
    have hjl:j<zs.length:=by
     rcases Nat.lt_or_ge j zs.length with hlt|hge
     ·exact hlt
     ·simp [List.getElem?_eq_none hge] at hj
    obtain ⟨y',hy,hh⟩:=hc (by rcases Nat.eq_zero_or_pos m with h0|h0;· rw [hz,h0,Nat.zero_mul] at hjl;omega
                              ·exact h0)
    cases hy;exact hh j u hj
   refine wp_append_own w s x T ho base e i0 z size bytes hu hi hz0 hz1 hz2 hzc hsz v n xs hs hown y m c zs hx hz hnews h1 hmax h63 hbase ?_;intro v' w' hown' hgrow _;obtain ⟨a',c',rfl,hnil⟩:=qI hown';exact h a' c' w' hown' ((Below.refl _ _).grown hgrow hbase (fun k hk=>(hown.lt k hk).1)) hgrow hnil

end
section
open Go.RowKit

theorem UB:(Tryz.prog.info? 74).map (fun i=>(i.zero,i.size,i.bytes))=some (some (.agg #[.slice none 0 0,.slice none 0 0,.int .u64 0]),3,56):=krf
theorem MF (xs:List Rw):∀u∈aZ xs,u.oneCell'=true:=by
 intro u hu;obtain ⟨x,_,hx⟩:=List.mem_flatMap.1 hu;simp only [Rw.cells,List.mem_cons,List.not_mem_nil,or_false] at hx;rcases hx with rfl|rfl|rfl<;>rfl
theorem Rs.news {w:World} {a:OAd} {m c:Nat} {zs:List Rw} (hz:Rs w a m c zs) (h0:0<m):∃y,a=some y/\∀j u,(aZ zs)[j]?=some u->w.cell? (y.add j)=some u:=by
 obtain ⟨b,off,rfl,_,hc⟩:=hz.at h0;refine ⟨_,rfl,fun j u hj=>?_⟩;have hl:=Av zs
 have hjl:j<zs.length*3:=by
  rcases Nat.lt_or_ge j (zs.length*3) with h|h
  ·exact h
  ·rw [List.getElem?_eq_none omg] at hj;cases hj
 have hq:j/3<zs.length:=omg;have h3:j%3<3:=Nat.mod_lt _ omg;have PH:j=j/3*3+j%3:=omg;have hat:=Aw zs (j/3) (j%3) hq h3;rw [<-PH,hj] at hat;have yU:=hc (j/3) (by rw [<-hz.1];exact hq);have e0:(⟨b,off,none⟩:Addr).add j=⟨b,off+j,none⟩:=by simp [Addr.add]
 have e1:off+j=off+j/3*3+j%3:=omg;rw [e0,e1];generalize zs.getD (j/3) Rw.no=x at hat yU;rcases (show j%3=0\/j%3=1\/j%3=2 by omega) with h|h|h<;>rw [h] at hat ⊢<;>simp [Rw.cells] at hat<;>rw [hat]
 ·exact yU.1
 ·exact yU.2.1
 ·exact yU.2.2

theorem UC {w:World} {o:Oper} {act:Act} {K:Act->World->Prop} {Q:Exit->Act->World->Prop} (s x:Operand)
 (ho:o.op=.call { callee:=.builtin .append,args:=#[s,x],argTypes:=#[24,24] }) (base:Nat) (v:Value) (n:Nat) (xs:List Rw) (hs:act.eval s=v)
 (hown:w.ownsRow base 74 3 v n (aZ xs)) (a:OAd) (m c:Nat) (zs:List Rw) (hx:act.eval x=.slice a m c) (hz:Rs w a m c zs)
 (N:Nat) (hN:n+m=N) (h63:N*56<=140737488355328) (hbase:base<=w.heap.size)
 (h:∀a' c' w',w'.ownsRow base 74 3 (.slice a' N c') N (aZ (xs++zs))->Below base w w'->w.grownBy w' v.ownBlock->(a'=none->c'=0)->K (act.put o.dst (.slice a' N c')) w') :
 o.wp Tryz.prog act w K Q:=by
 subst hN;refine yj s x 24 74 ho _ 3 56 Tryz.underlying24 UB rfl omg base v n (aZ xs) hs hown a m c (aZ zs) hx (by rw [Av,hz.1]) (fun h0=>hz.news h0) (MF zs) (by unfold maxLen;omega) omg hbase ?_;intro a' c' w' h1 h2 h3 h4;exact h a' c' w' (by rw [UA];exact h1) h2 h3 h4

theorem Ay {w:World} {ops:Array Oper} {rest:List Oper} {o:Oper} {act:Act} {Q:Exit->Act->World->Prop} (hw:Region.wanted o (yielded ops act.tmps)=true) (s x:Operand)
 (ho:o.op=.call { callee:=.builtin .append,args:=#[s,x],argTypes:=#[24,24] }) (base:Nat) (v:Value) (n:Nat) (xs:List Rw) (hs:act.eval s=v)
 (hown:w.ownsRow base 74 3 v n (aZ xs)) (a:OAd) (m c:Nat) (zs:List Rw) (hx:act.eval x=.slice a m c) (hz:Rs w a m c zs)
 (N:Nat) (hN:n+m=N) (h63:N*56<=140737488355328) (hbase:base<=w.heap.size)
 (h:∀a' c' w',w'.ownsRow base 74 3 (.slice a' N c') N (aZ (xs++zs))->Below base w w'->w.grownBy w' v.ownBlock->(a'=none->c'=0)->wpList Tryz.prog ops Q rest (act.put o.dst (.slice a' N c')) w') :
 wpList Tryz.prog ops Q (o::rest) act w:=by
 refine wpList_step fun K hK=>?_;rw [if_pos hw];exact UC s x ho base v n xs hs hown a m c zs hx hz N hN h63 hbase fun a' c' w' h1 h2 h3 h4=>hK _ _ (h a' c' w' h1 h2 h3 h4)

theorem lZ {w w0:World} {ops:Array Oper} {o:Oper} {act:Act} {K:Act->World->Prop} {Q:Exit->Act->World->Prop} {E:Prop} (hw:Region.wanted o (yielded ops act.tmps)=true) (s x:Operand)
 (ho:o.op=.call { callee:=.builtin .append,args:=#[s,x],argTypes:=#[24,24] }) (base:Nat) (v:Value) (n:Nat) (xs:List Rw) (hs:act.eval s=v)
 (hown:w.ownsRow base 74 3 v n (aZ xs)) (a:OAd) (m c:Nat) (zs:List Rw) (hx:act.eval x=.slice a m c) (hz:Rs w a m c zs)
 (N:Nat) (hN:n+m=N) (h63:N*56<=140737488355328) (hb0:base<=w0.heap.size) (hbel:Below base w0 w)
 (h:∀a' c' w',w'.ownsRow base 74 3 (.slice a' N c') N (aZ (xs++zs))->Below base w0 w'->w.grownBy w' v.ownBlock->(a'=none->c'=0)->K (act.put o.dst (.slice a' N c')) w') :
 if Region.wanted o (yielded ops act.tmps)=true then o.wp Tryz.prog act w K Q else E:=by
 rw [if_pos hw];exact UC s x ho base v n xs hs hown a m c zs hx hz N hN h63 (Nat.le_trans hb0 hbel.size) fun a' c' w' h1 h2 h3 h4=>h a' c' w' h1 (hbel.trans h2) h3 h4

theorem Rs.single {w:World} {g:Nat} {x:Rw} (hg:x.Good w) (h:bX w g 0 x):Rs w (some ⟨g,0,none⟩) 1 1 [x] :=
 ⟨rfl,Nat.le_refl _,by unfold maxLen;omega,by simpa using hg,.inr ⟨g,0,rfl,fun i hi=>match i,hi with
  | 0,_=>h
  | i+1,hi=>absurd hi omg⟩⟩
theorem bX.new (w:World) (x:Rw) (t:TypeId):bX (w.alloc (.cells #[x.l,x.rt,x.c] t)) w.heap.size 0 x:=by
 refine ⟨?_,?_,?_⟩<;>(rw [World.cell?_alloc_mark];rfl)
theorem bX.grown {w w':World} {b o:Nat} {x:Rw} {row:Option Nat} (h:bX w b o x) (hg:w.grownBy w' row) (hne:some b≠row):bX w' b o x :=
 ⟨hg.cell h.1 hne,hg.cell h.2.1 hne,hg.cell h.2.2 hne⟩
theorem bX.alloc {w:World} {b o:Nat} {x:Rw} (h:bX w b o x) (ob:Obj):bX (w.alloc ob) b o x :=
 h.below ((Below.refl w.heap.size w).alloc lrf ob) lrf
theorem bX.drw {w:World} {b o:Nat} {x:Rw} (h:bX w b o x):bX w.drew b o x:=h
theorem bX.second (W:World) (x:Rw) (o:Obj) (t:TypeId):bX ((W.alloc o).alloc (.cells #[x.l,x.rt,x.c] t)) (W.heap.size+1) 0 x:=by
 have:=bX.new (W.alloc o) x t;rwa [World.size_alloc] at this

theorem kY (w:World):(w.alloc (.cells #[] 74)).ownsRow w.heap.size 74 3 (.slice (some ⟨w.heap.size,0,none⟩) 0 0) 0 (aZ []):=by
 have h:=World.ownsRow_lit (base:=w.heap.size) (e:=74) (size:=3) w #[] 0 lrf (Nat.zero_le _) smp;simpa [aZ] using h
theorem Dm (W:World) (o:Obj):((W.alloc o).alloc (.cells #[] 74)).ownsRow W.heap.size 74 3 (.slice (some ⟨W.heap.size+1,0,none⟩) 0 0) 0 (aZ []):=by
 have h:=World.ownsRow_lit (base:=W.heap.size) (e:=74) (size:=3) (W.alloc o) #[] 0 smp (Nat.zero_le _) smp;simpa [aZ] using h
theorem UD (w:World) (B:Nat):w.ownsRow B 74 3 (.slice none 0 0) 0 (aZ []):=⟨rfl,.inl ⟨rfl,rfl⟩⟩

end
section
open Go.RowKit

theorem Sl.newB {w:World} {t:TypeId} {fr:Nat × Nat} {B n m:Nat} (zs:LIn) (hw:∀z∈zs,(Lit.int .u8 z).wf=true) (hl:zs.length<=maxLen) (hB:B=w.heap.size) (hn:zs.length=n) (hm:zs.length=m) :
 Sl .u8 (w.alloc (.cells (zs.map (Value.int .u8)).toArray t fr)) (some ⟨B,0,none⟩) n m zs:=by
 subst hB hn hm;refine ⟨rfl,Nat.le_refl _,hl,hw,.inr ⟨w.heap.size,0,rfl,fun i hi=>?_⟩⟩;rw [World.cell?_alloc_mark];simp [hi]

theorem afQ:(Tryz.prog.info? 5).map (fun i=>(i.zero,i.size,i.bytes))=some (some (.int .u8 0),1,1):=krf
theorem Vk {w:World} {base:Nat} {e:TypeId} {v:Value} {k:Nat} {l:List Value} (h:w.ownsRow base e 1 v k l):∃a' c',v=.slice a' k c'/\(a'=none->c'=0):=by
 rcases h.2 with ⟨h1,h2⟩|⟨g,cap,cur,h1,_⟩
 ·subst h2;exact ⟨none,0,h1,fun _=>rfl⟩
 ·exact ⟨_,cap,h1,fun h=>by cases h⟩

theorem afR {P:Program} {w:World} (base:Nat) (t ty e:TypeId) (i:TypeInfo) (size c:Nat) (ht:P.underlying t=some (.slice e)) (hi:P.info? e=some i)
 (v:Value) (n:Nat) (xs:List Value) (hown:w.ownsRow base e size v n xs) :
 (Builtin.append_ #[t,t] ty #[v,.slice none 0 c]).run P w=.ok v w:=by
 rcases hown.2 with ⟨rfl,rfl⟩|⟨g,cap,cur,rfl,_,_,hnc,_⟩
 ·simp [Builtin.append_,run_underlying ht,sizeOf,typeInfo,hi,Builtin.lenOf,Builtin.firstCells]
 ·simp [Builtin.append_,run_underlying ht,sizeOf,typeInfo,hi,Builtin.lenOf,Builtin.firstCells,hnc,storeCells]

theorem afS {w:World} {ops:Array Oper} {rest:List Oper} {o:Oper} {act:Act} {Q:Exit->Act->World->Prop} (hw:Region.wanted o (yielded ops act.tmps)=true) (s x:Operand) (T e:TypeId)
 (ho:o.op=.call { callee:=.builtin .append,args:=#[s,x],argTypes:=#[T,T] }) (z:Value) (bytes:Nat) (hu:Tryz.prog.underlying T=some (.slice e)) (hinfo:(Tryz.prog.info? e).map (fun i=>(i.zero,i.size,i.bytes))=some (some z,1,bytes)) (hzc:z.cells.size=1) (base:Nat) (v:Value) (n:Nat) (xs:List Value) (hs:act.eval s=v)
 (hown:w.ownsRow base e 1 v n xs) (a:OAd) (m c:Nat) (zs:List Value) (hx:act.eval x=.slice a m c) (hz:zs.length=m) (hc:0<m->∃y,a=some y/\∀j u,zs[j]?=some u->w.cell? (y.add j)=some u) (h1:∀u∈zs,u.oneCell'=true)
 (hmax:n+m<=maxLen) (h63:(n+m)*bytes<=140737488355328) (hbase:base<=w.heap.size)
 (h:∀a' c' w',w'.ownsRow base e 1 (.slice a' (n+m) c') (n+m) (xs++zs)->Below base w w'->(a'=none->c'=0)->wpList Tryz.prog ops Q rest (act.put o.dst (.slice a' (n+m) c')) w') :
 wpList Tryz.prog ops Q (o::rest) act w:=by
 obtain ⟨i0,hi,hz0,hz1,hz2⟩:=info_parts hinfo;refine wpList_step fun K hK=>?_;rw [if_pos hw]
 cases a with
 | none =>
   obtain rfl:m=0:=by
    rcases Nat.eq_zero_or_pos m with h0|h0
    ·exact h0
    ·obtain ⟨y,e,_⟩:=hc h0;cases e
   obtain rfl:zs=[]:=List.eq_nil_of_length_eq_zero hz;obtain ⟨a',c',rfl,hnil⟩:=Vk hown;have hrun:=afR (P:=Tryz.prog) (w:=w) base T o.type e i0 1 c hu hi _ n xs hown;unfold Oper.wp;simp [execOp,ho,resolve,invoke,builtin,hs,hx,hrun,Result.andThen];exact hK _ _ (h a' c' w (by simpa using hown) (Below.refl _ _) hnil)
 | some y =>
   have hnews:∀j u,zs[j]?=some u->w.cell? (y.add j)=some u:=by
    intro j u hj
    have hjl:j<zs.length:=by
     rcases Nat.lt_or_ge j zs.length with hlt|hge
     ·exact hlt
     ·simp [List.getElem?_eq_none hge] at hj
    obtain ⟨y',hy,hh⟩:=hc omg;cases hy;exact hh j u hj
   refine wp_append_own w s x T ho base e i0 z 1 bytes hu hi hz0 hz1 hz2 hzc (by decide) v n xs hs hown y m c zs hx (by simp [hz]) hnews h1 hmax h63 hbase ?_;intro v' w' hown' hgrow _;obtain ⟨a',c',rfl,hnil⟩:=Vk hown';exact hK _ _ (h a' c' w' hown' ((Below.refl _ _).grown hgrow hbase (fun k hk=>(hown.lt k hk).1)) hnil)

theorem AO {w:World} {ops:Array Oper} {rest:List Oper} {o:Oper} {act:Act} {Q:Exit->Act->World->Prop} (hw:Region.wanted o (yielded ops act.tmps)=true) (s x:Operand)
 (ho:o.op=.call { callee:=.builtin .append,args:=#[s,x],argTypes:=#[43,43] }) (base:Nat) (v:Value) (n:Nat) (xs:LIn) (hs:act.eval s=v)
 (hown:w.ownsRow base 5 1 v n (u8s xs)) (a:OAd) (m c:Nat) (zs:LIn) (hx:act.eval x=.slice a m c) (hz:Sl .u8 w a m c zs)
 (N:Nat) (hN:n+m=N) (h63:N<=1000000000000) (hbase:base<=w.heap.size)
 (h:∀a' c' w',w'.ownsRow base 5 1 (.slice a' N c') N (u8s (xs++zs))->Below base w w'->(a'=none->c'=0)->wpList Tryz.prog ops Q rest (act.put o.dst (.slice a' N c')) w') :
 wpList Tryz.prog ops Q (o::rest) act w:=by
 subst hN;have hm:=hz.2.1;refine afS hw s x 43 5 ho (.int .u8 0) 1 Tryz.underlying43 afQ rfl base v n (u8s xs) hs hown a m c (u8s zs) hx (by simp [u8s,hz.1]) ?_ (ints_oneCell .u8 zs) (by unfold maxLen;omega) omg hbase ?_
 ·intro h0;obtain ⟨b,off,rfl,_,hc⟩:=hz.at h0;refine ⟨_,rfl,fun j u hj=>?_⟩
  have hjl:j<zs.length:=by
   rcases Nat.lt_or_ge j zs.length with hlt|hge
   ·exact hlt
   ·simp [u8s,List.getElem?_eq_none hge] at hj
  have:=hc j (by have:=hz.1;omega);rw [show (⟨b,off,none⟩:Addr).add j=⟨b,off+j,none⟩ from by simp [Addr.add],this];simp [u8s,hjl] at hj;rw [<-hj];simp [hjl]
 ·intro a' c' w' ho' hb' hn';exact h a' c' w' (by rw [show u8s (xs++zs)=u8s xs++u8s zs from by simp [u8s]];exact ho') hb' hn'

end
section
open Go.RowKit

theorem ajq {P:Program} {w:World} (base:Nat) (t ty e:TypeId) (i:TypeInfo) (z:Value) (size bytes:Nat) (ht:P.underlying t=some (.slice e)) (hi:P.info? e=some i) (hz:i.zero=some z)
 (hsize:i.size=size) (hby:i.bytes=bytes) (hzs:z.cells.size=size) (hsz:0<size)
 (v:Value) (n:Nat) (xs:List Value) (hown:w.ownsRow base e size v n xs)
 (a:Addr) (m c:Nat) (news:List Value) (hl:news.length=m*size) (hnews:∀j u,news[j]?=some u->w.cell? (a.add j)=some u) (h1:∀u∈news,u.oneCell'=true)
 (h63:n+m<=maxLen) (hbytes:(n+m)*bytes<=140737488355328) (hbase:base<=w.heap.size) (v':Value) (w':World)
 (hr:(Builtin.append_ #[t,t] ty #[v,.slice (some a) m c]).run P w=.ok v' w'):v'.ownBlock=v.ownBlock\/v'.ownBlock=some w.heap.size:=by
 obtain ⟨v2,w2,hr2,_,_,h4⟩:=run_append_own (P:=P) w base t ty e i z size bytes ht hi hz hsize hby hzs hsz v n xs hown a m c news hl hnews h1 h63 hbytes hbase
 subst hsize hby;have hsmall:n+m<=9223372036854775807:=by simp only [maxLen] at h63;omega
 rcases hown.2 with ⟨rfl,rfl⟩|⟨g,cap,cur,rfl,hbg,hg,hnc,hcm,hcs,htake⟩
 ·by_cases hm:m=0
  ·rw [hr2] at hr;cases hr;exact .inl (by rw [h4.2 ⟨rfl,hm⟩])
  ·have hq:=run_append_nil (P:=P) w t ty e i z ht hi hz a m c news hl hnews omg omg (by have hb:=hbytes;simp only [Nat.zero_add] at hb;omega);rw [hq] at hr;cases hr;exact .inr rfl
 ·by_cases hroom:n+m<=cap
  ·have hfit:n*i.size+news.length<=cur.size:=by rw [hl,hcs,<-Nat.add_mul];exact Nat.mul_le_mul_right _ hroom
   have hq:=run_append_room (P:=P) w t ty e i ht hi g n cap cur hg a m c news hl hnews h1 hroom hfit;rw [hq] at hr;cases hr;exact .inl rfl
  ·have holds:∀j u,xs[j]?=some u->w.cell? ((⟨g,0,none⟩:Addr).add j)=some u:=hown.cells (g:=g) rfl;have hq:=run_append_grow (P:=P) w t ty e i z ht hi hz ⟨g,0,none⟩ n cap xs hown.1 holds a m c news hl hnews omg omg (growslice_fits omg hbytes);rw [hq] at hr;cases hr;exact .inr rfl

end
end Go.Proofs.YtkiamgcpcneggaaGreat
