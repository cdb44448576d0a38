import Derived.Test.YtkiamgcpcneggaaGreatPackD
import Derived.Laws.AppendOwnNone
import Derived.WalkLawsBesides
import Derived.Test.YtkiamgcpcneggaaGreatChecked
import Derived.BigQuiet
import Derived.BigGuardPart
import Derived.OpenShut
import Derived.Lib.Strings
import Derived.Deep.AppendLies
import Derived.Maps.RangeWalk
import Derived.ShutString
import Derived.Lib.SlBytesConst
set_option linter.all false
set_option maxRecDepth 100000
set_option maxHeartbeats 12800000
namespace Go.Proofs.YtkiamgcpcneggaaGreat
section
open Go.RowKit

theorem jh {w:World} {base:Nat} {e:TypeId} {size:Nat} {v:Value} {k:Nat} {l:List Value} (h:w.ownsRow base e size v k l):∃a' c',v=.slice a' k c'/\(a'=none->c'=0):=by
 rcases h.2 with ⟨h1,h2⟩|⟨g,cap,cur,h1,_⟩
 ·subst h2;exact ⟨none,0,h1,fun _=>rfl⟩
 ·exact ⟨_,cap,h1,fun h=>by cases h⟩
theorem fp {w:World} {B B':Nat} {e:TypeId} {size:Nat} {v:Value} {n:Nat} {l:List Value} (h:w.ownsRow B e size v n l) (hB:B'<=B):w.ownsRow B' e size v n l:=by
 refine ⟨h.1,?_⟩;rcases h.2 with h1|⟨g,c,cur,h1,h2,h3⟩
 ·exact .inl h1
 ·exact .inr ⟨g,c,cur,h1,Nat.le_trans hB h2,h3⟩

theorem lg {P:Program} {w:World} (base:Nat) (t ty e:TypeId) (i:TypeInfo) (size c:Nat) (ht:P.underlying t=some (.slice e)) (hi:P.info? e=some i)
 (v:Value) (n:Nat) (xs:List Value) (hown:w.ownsRow base e size v n xs) :
 (Builtin.append_ #[t,t] ty #[v,.slice none 0 c]).run P w=.ok v w:=by
 rcases hown.2 with ⟨rfl,rfl⟩|⟨g,cap,cur,rfl,_,_,hnc,_⟩
 ·simp [Builtin.append_,run_underlying ht,sizeOf,typeInfo,hi,Builtin.lenOf,Builtin.firstCells]
 ·simp [Builtin.append_,run_underlying ht,sizeOf,typeInfo,hi,Builtin.lenOf,Builtin.firstCells,hnc,storeCells]

theorem ej {P:Program} {w:World} {o:Oper} {act:Act} {K:Act->World->Prop} {Q:Exit->Act->World->Prop} (s x:Operand) (T e:TypeId)
 (ho:o.op=.call { callee:=.builtin .append,args:=#[s,x],argTypes:=#[T,T] }) (z:Value) (size bytes:Nat) (hu:P.underlying T=some (.slice e)) (hinfo:(P.info? e).map (fun i=>(i.zero,i.size,i.bytes))=some (some z,size,bytes))
 (hzc:z.cells.size=size) (hsz:0<size) (base:Nat) (v:Value) (n:Nat) (xs:List Value) (hs:act.eval s=v)
 (hown:w.ownsRow base e size v n xs) (a:Option Addr) (m c:Nat) (zs:List Value) (hx:act.eval x=.slice a m c) (hz:zs.length=m*size) (hc:0<m->∃y,a=some y/\∀j u,zs[j]?=some u->w.cell? (y.add j)=some u) (h1:∀u∈zs,u.oneCell'=true)
 (hmax:n+m<=maxLen) (h63:(n+m)*bytes<=140737488355328) (hbase:base<=w.heap.size)
 (h:∀a' c' w',w'.ownsRow base e size (.slice a' (n+m) c') (n+m) (xs++zs)->Below base w w'->w.grownBy w' v.ownBlock->(a'=none->c'=0)->K (act.put o.dst (.slice a' (n+m) c')) w') :
 o.wp P act w K Q:=by
 obtain ⟨i0,hi,hz0,hz1,hz2⟩:=info_parts hinfo
 cases a with
 | none =>
   obtain rfl:m=0:=by
    rcases Nat.eq_zero_or_pos m with h0|h0
    ·exact h0
    ·obtain ⟨y,e,_⟩:=hc h0;cases e
   obtain rfl:zs=[]:=List.eq_nil_of_length_eq_zero (by rw [hz,Nat.zero_mul])
   obtain ⟨a',c',rfl,hnil⟩:=jh hown;have hrun:=lg (P:=P) (w:=w) base T o.type e i0 size c hu hi _ n xs hown;unfold Oper.wp;simp [execOp,ho,resolve,invoke,builtin,hs,hx,hrun,Result.andThen];exact h a' c' w (by simpa using hown) (Below.refl _ _) (World.grownBy.refl w _) hnil
 | some y =>
   have hnews:∀j u,zs[j]?=some u->w.cell? (y.add j)=some u:=by
    intro j u hj
    have hjl:j<zs.length:=by
     rcases Nat.lt_or_ge j zs.length with hlt|hge
     ·exact hlt
     ·simp [List.getElem?_eq_none hge] at hj
    obtain ⟨y',hy,hh⟩:=hc (by rcases Nat.eq_zero_or_pos m with h0|h0;· rw [hz,h0,Nat.zero_mul] at hjl;omega
                              ·exact h0)
    cases hy;exact hh j u hj
   refine wp_append_own w s x T ho base e i0 z size bytes hu hi hz0 hz1 hz2 hzc hsz v n xs hs hown y m c zs hx hz hnews h1 hmax h63 hbase ?_;intro v' w' hown' hgrow _;obtain ⟨a',c',rfl,hnil⟩:=jh hown';exact h a' c' w' hown' ((Below.refl _ _).grown hgrow hbase (fun k hk=>(hown.lt k hk).1)) hgrow hnil

end
section
open Go.RowKit

theorem ace:(Tryz.prog.info? 74).map (fun i=>(i.zero,i.size,i.bytes))=some (some (.agg #[.slice none 0 0,.slice none 0 0,.int .u64 0]),3,56):=by kernel_rfl
theorem qo (xs:List Rw):∀u∈rcells xs,u.oneCell'=true:=by
 intro u hu;obtain ⟨x,_,hx⟩:=List.mem_flatMap.1 hu;simp only [Rw.cells,List.mem_cons,List.not_mem_nil,or_false] at hx;rcases hx with rfl|rfl|rfl<;>rfl
theorem Rs.news {w:World} {a:Option Addr} {m c:Nat} {zs:List Rw} (hz:Rs w a m c zs) (h0:0<m):∃y,a=some y/\∀j u,(rcells zs)[j]?=some u->w.cell? (y.add j)=some u:=by
 obtain ⟨b,off,rfl,_,hc⟩:=hz.at h0;refine ⟨_,rfl,fun j u hj=>?_⟩;have hl:=dz zs
 have hjl:j<zs.length*3:=by
  rcases Nat.lt_or_ge j (zs.length*3) with h|h
  ·exact h
  ·rw [List.getElem?_eq_none (by omega)] at hj;cases hj
 have hq:j/3<zs.length:=by omega
 have h3:j%3<3:=Nat.mod_lt _ (by omega)
 have hje:j=j/3*3+j%3:=by omega
 have hat:=gz zs (j/3) (j%3) hq h3;rw [<-hje,hj] at hat;have hca:=hc (j/3) (by rw [<-hz.1];exact hq)
 have e0:(⟨b,off,none⟩:Addr).add j=⟨b,off+j,none⟩:=by simp [Addr.add]
 have e1:off+j=off+j/3*3+j%3:=by omega
 rw [e0,e1];generalize zs.getD (j/3) Rw.no=x at hat hca;rcases (show j%3=0\/j%3=1\/j%3=2 by omega) with h|h|h<;>rw [h] at hat ⊢<;>simp [Rw.cells] at hat<;>rw [hat]
 ·exact hca.1
 ·exact hca.2.1
 ·exact hca.2.2

theorem nm {w:World} {o:Oper} {act:Act} {K:Act->World->Prop} {Q:Exit->Act->World->Prop} (s x:Operand)
 (ho:o.op=.call { callee:=.builtin .append,args:=#[s,x],argTypes:=#[24,24] }) (base:Nat) (v:Value) (n:Nat) (xs:List Rw) (hs:act.eval s=v)
 (hown:w.ownsRow base 74 3 v n (rcells xs)) (a:Option Addr) (m c:Nat) (zs:List Rw) (hx:act.eval x=.slice a m c) (hz:Rs w a m c zs)
 (N:Nat) (hN:n+m=N) (h63:N*56<=140737488355328) (hbase:base<=w.heap.size)
 (h:∀a' c' w',w'.ownsRow base 74 3 (.slice a' N c') N (rcells (xs++zs))->Below base w w'->w.grownBy w' v.ownBlock->(a'=none->c'=0)->K (act.put o.dst (.slice a' N c')) w') :
 o.wp Tryz.prog act w K Q:=by
 subst hN;refine ej s x 24 74 ho _ 3 56 Tryz.underlying24 ace rfl (by omega) base v n (rcells xs) hs hown a m c (rcells zs) hx (by rw [dz,hz.1]) (fun h0=>hz.news h0) (qo zs) (by unfold maxLen;omega) (by omega) hbase ?_
 intro a' c' w' h1 h2 h3 h4;exact h a' c' w' (by rw [zg];exact h1) h2 h3 h4

theorem aeu {w:World} {ops:Array Oper} {rest:List Oper} {o:Oper} {act:Act} {Q:Exit->Act->World->Prop} (hw:Region.wanted o (yielded ops act.tmps)=true) (s x:Operand)
 (ho:o.op=.call { callee:=.builtin .append,args:=#[s,x],argTypes:=#[24,24] }) (base:Nat) (v:Value) (n:Nat) (xs:List Rw) (hs:act.eval s=v)
 (hown:w.ownsRow base 74 3 v n (rcells xs)) (a:Option Addr) (m c:Nat) (zs:List Rw) (hx:act.eval x=.slice a m c) (hz:Rs w a m c zs)
 (N:Nat) (hN:n+m=N) (h63:N*56<=140737488355328) (hbase:base<=w.heap.size)
 (h:∀a' c' w',w'.ownsRow base 74 3 (.slice a' N c') N (rcells (xs++zs))->Below base w w'->w.grownBy w' v.ownBlock->(a'=none->c'=0)->wpList Tryz.prog ops Q rest (act.put o.dst (.slice a' N c')) w') :
 wpList Tryz.prog ops Q (o::rest) act w:=by
 refine wpList_step fun K hK=>?_;rw [if_pos hw];exact nm s x ho base v n xs hs hown a m c zs hx hz N hN h63 hbase fun a' c' w' h1 h2 h3 h4=>hK _ _ (h a' c' w' h1 h2 h3 h4)

theorem et {w w0:World} {ops:Array Oper} {o:Oper} {act:Act} {K:Act->World->Prop} {Q:Exit->Act->World->Prop} {E:Prop} (hw:Region.wanted o (yielded ops act.tmps)=true) (s x:Operand)
 (ho:o.op=.call { callee:=.builtin .append,args:=#[s,x],argTypes:=#[24,24] }) (base:Nat) (v:Value) (n:Nat) (xs:List Rw) (hs:act.eval s=v)
 (hown:w.ownsRow base 74 3 v n (rcells xs)) (a:Option Addr) (m c:Nat) (zs:List Rw) (hx:act.eval x=.slice a m c) (hz:Rs w a m c zs)
 (N:Nat) (hN:n+m=N) (h63:N*56<=140737488355328) (hb0:base<=w0.heap.size) (hbel:Below base w0 w)
 (h:∀a' c' w',w'.ownsRow base 74 3 (.slice a' N c') N (rcells (xs++zs))->Below base w0 w'->w.grownBy w' v.ownBlock->(a'=none->c'=0)->K (act.put o.dst (.slice a' N c')) w') :
 if Region.wanted o (yielded ops act.tmps)=true then o.wp Tryz.prog act w K Q else E:=by
 rw [if_pos hw];exact nm s x ho base v n xs hs hown a m c zs hx hz N hN h63 (Nat.le_trans hb0 hbel.size) fun a' c' w' h1 h2 h3 h4=>h a' c' w' h1 (hbel.trans h2) h3 h4

theorem Rs.single {w:World} {g:Nat} {x:Rw} (hg:x.Good w) (h:RwAt w g 0 x):Rs w (some ⟨g,0,none⟩) 1 1 [x] :=
 ⟨rfl,Nat.le_refl _,by unfold maxLen;omega,by simpa using hg,.inr ⟨g,0,rfl,fun i hi=>match i,hi with
  | 0,_=>h
  | i+1,hi=>absurd hi (by omega)⟩⟩
theorem RwAt.new (w:World) (x:Rw) (t:TypeId):RwAt (w.alloc (.cells #[x.l,x.rt,x.c] t)) w.heap.size 0 x:=by
 refine ⟨?_,?_,?_⟩<;>(rw [World.cell?_alloc_mark];rfl)
theorem RwAt.grown {w w':World} {b o:Nat} {x:Rw} {row:Option Nat} (h:RwAt w b o x) (hg:w.grownBy w' row) (hne:some b≠row):RwAt w' b o x :=
 ⟨hg.cell h.1 hne,hg.cell h.2.1 hne,hg.cell h.2.2 hne⟩
theorem RwAt.alloc {w:World} {b o:Nat} {x:Rw} (h:RwAt w b o x) (ob:Obj):RwAt (w.alloc ob) b o x :=
 h.below ((Below.refl w.heap.size w).alloc lrf ob) lrf
theorem ahv (w:World):(w.alloc (.cells #[] 74)).ownsRow w.heap.size 74 3 (.slice (some ⟨w.heap.size,0,none⟩) 0 0) 0 (rcells []):=by
 have h:=World.ownsRow_lit (base:=w.heap.size) (e:=74) (size:=3) w #[] 0 lrf (Nat.zero_le _) (by simp)
 simpa [rcells] using h
theorem pp (w:World) (B:Nat):w.ownsRow B 74 3 (.slice none 0 0) 0 (rcells []):=⟨rfl,.inl ⟨rfl,rfl⟩⟩

theorem Rs.newc {w:World} {t:TypeId} {B n m:Nat} {fr:Nat × Nat} (xs:List Rw) (hg:∀x∈xs,x.Good w) (hl:xs.length<=maxLen) (hB:B=w.heap.size) (hn:xs.length=n) (hm:xs.length=m) :
 Rs (w.alloc (.cells (rcells xs).toArray t fr)) (some ⟨B,0,none⟩) n m xs:=by
 subst hB hn hm;refine ⟨rfl,Nat.le_refl _,hl,fun x hx=>(hg x hx).alloc _,.inr ⟨w.heap.size,0,rfl,fun i hi=>?_⟩⟩
 have e:∀j,j<3->(w.alloc (.cells (rcells xs).toArray t fr)).cell? ⟨w.heap.size,0+i*3+j,none⟩=(xs.getD i Rw.no).cells[j]?:=fun j hj=>by
  rw [World.cell?_alloc_mark,Nat.zero_add];rw [<-gz xs i j hi hj];simp
 exact ⟨e 0 (by omega),e 1 (by omega),e 2 (by omega)⟩

end
section
open Go.RowKit

theorem Sl.str {w:World} {a:Option Addr} {n cap:Nat} {zs:List Int} (h:Sl .u8 w a n cap zs) :
 (convert 43 9 (.slice a n cap)).run Tryz.prog w=.ok (.string (strOfNums zs)) w:=by
 obtain ⟨h1,h2,h3,h4,h5⟩:=h;rcases h5 with h5|⟨b,off,rfl,hc⟩
 ·subst h5;obtain rfl:=List.eq_nil_of_length_eq_zero h1
  cases a with
  | none=>exact run_convert_bytes_nil w 43 5 Tryz.underlying43 Tryz.underlying5 0 cap 9 Tryz.underlying9
  | some x=>exact run_convert_bytes_back w 43 9 5 x cap [] Tryz.underlying43 Tryz.underlying5 Tryz.underlying9 (by intro j hj;simp at hj)
 ·exact run_convert_bytes_arg w 43 5 Tryz.underlying43 Tryz.underlying5 b off n cap zs h1 hc 9 Tryz.underlying9

theorem asd {a b:List Int} (ha:∀z∈a,(Lit.int .u8 z).wf=true) (hb:∀z∈b,(Lit.int .u8 z).wf=true) (h:strOfNums a=strOfNums b):a=b:=by
 have h':a.map (fun n=>UInt8.ofNat n.toNat)=b.map (fun n=>UInt8.ofNat n.toNat):=by
  have:=congrArg (fun s:ByteArray=>s.data.toList) h;simpa [strOfNums] using this
 clear h
 induction a generalizing b with
 | nil=>cases b with
   | nil=>rfl
   | cons y b=>simp at h'
 | cons x a ih=>cases b with
   | nil=>simp at h'
   | cons y b =>
     simp only [List.map_cons,List.cons.injEq] at h';have hx:=bounds_u8 (ha x (by simp))
     have hy:=bounds_u8 (hb y (by simp))
     have e:x=y:=by
      have:=congrArg UInt8.toNat h'.1;simp at this;omega
     rw [e,ih (fun z hz=>ha z (by simp [hz])) (fun z hz=>hb z (by simp [hz])) h'.2]

theorem axt {a b:List Int} (ha:∀z∈a,(Lit.int .u8 z).wf=true) (hb:∀z∈b,(Lit.int .u8 z).wf=true):((strOfNums a).toList==(strOfNums b).toList)=decide (a=b):=by
 by_cases h:a=b
 ·subst h;simp
 ·have h2:decide (a=b)=false:=by simpa using h
  rw [h2,beq_eq_false_iff_ne];intro e;apply h;refine asd ha hb ?_;rw [Lib.toList_data,Lib.toList_data] at e;rw [<-Lib.mk_data (strOfNums a),<-Lib.mk_data (strOfNums b),e]

theorem Sl.newB {w:World} {t:TypeId} {fr:Nat × Nat} {B n m:Nat} (zs:List Int) (hw:∀z∈zs,(Lit.int .u8 z).wf=true) (hl:zs.length<=maxLen) (hB:B=w.heap.size) (hn:zs.length=n) (hm:zs.length=m) :
 Sl .u8 (w.alloc (.cells (zs.map (Value.int .u8)).toArray t fr)) (some ⟨B,0,none⟩) n m zs:=by
 subst hB hn hm;refine ⟨rfl,Nat.le_refl _,hl,hw,.inr ⟨w.heap.size,0,rfl,fun i hi=>?_⟩⟩;rw [World.cell?_alloc_mark];simp [hi]

theorem vf:(Tryz.prog.info? 5).map (fun i=>(i.zero,i.size,i.bytes))=some (some (.int .u8 0),1,1):=by kernel_rfl
theorem acq {w:World} {base:Nat} {e:TypeId} {v:Value} {k:Nat} {l:List Value} (h:w.ownsRow base e 1 v k l):∃a' c',v=.slice a' k c'/\(a'=none->c'=0):=by
 rcases h.2 with ⟨h1,h2⟩|⟨g,cap,cur,h1,_⟩
 ·subst h2;exact ⟨none,0,h1,fun _=>rfl⟩
 ·exact ⟨_,cap,h1,fun h=>by cases h⟩

theorem sz {P:Program} {w:World} (base:Nat) (t ty e:TypeId) (i:TypeInfo) (size c:Nat) (ht:P.underlying t=some (.slice e)) (hi:P.info? e=some i)
 (v:Value) (n:Nat) (xs:List Value) (hown:w.ownsRow base e size v n xs) :
 (Builtin.append_ #[t,t] ty #[v,.slice none 0 c]).run P w=.ok v w:=by
 rcases hown.2 with ⟨rfl,rfl⟩|⟨g,cap,cur,rfl,_,_,hnc,_⟩
 ·simp [Builtin.append_,run_underlying ht,sizeOf,typeInfo,hi,Builtin.lenOf,Builtin.firstCells]
 ·simp [Builtin.append_,run_underlying ht,sizeOf,typeInfo,hi,Builtin.lenOf,Builtin.firstCells,hnc,storeCells]

theorem zw {w:World} {ops:Array Oper} {rest:List Oper} {o:Oper} {act:Act} {Q:Exit->Act->World->Prop} (hw:Region.wanted o (yielded ops act.tmps)=true) (s x:Operand) (T e:TypeId)
 (ho:o.op=.call { callee:=.builtin .append,args:=#[s,x],argTypes:=#[T,T] }) (z:Value) (bytes:Nat) (hu:Tryz.prog.underlying T=some (.slice e)) (hinfo:(Tryz.prog.info? e).map (fun i=>(i.zero,i.size,i.bytes))=some (some z,1,bytes)) (hzc:z.cells.size=1) (base:Nat) (v:Value) (n:Nat) (xs:List Value) (hs:act.eval s=v)
 (hown:w.ownsRow base e 1 v n xs) (a:Option Addr) (m c:Nat) (zs:List Value) (hx:act.eval x=.slice a m c) (hz:zs.length=m) (hc:0<m->∃y,a=some y/\∀j u,zs[j]?=some u->w.cell? (y.add j)=some u) (h1:∀u∈zs,u.oneCell'=true)
 (hmax:n+m<=maxLen) (h63:(n+m)*bytes<=140737488355328) (hbase:base<=w.heap.size)
 (h:∀a' c' w',w'.ownsRow base e 1 (.slice a' (n+m) c') (n+m) (xs++zs)->Below base w w'->(a'=none->c'=0)->wpList Tryz.prog ops Q rest (act.put o.dst (.slice a' (n+m) c')) w') :
 wpList Tryz.prog ops Q (o::rest) act w:=by
 obtain ⟨i0,hi,hz0,hz1,hz2⟩:=info_parts hinfo;refine wpList_step fun K hK=>?_;rw [if_pos hw]
 cases a with
 | none =>
   obtain rfl:m=0:=by
    rcases Nat.eq_zero_or_pos m with h0|h0
    ·exact h0
    ·obtain ⟨y,e,_⟩:=hc h0;cases e
   obtain rfl:zs=[]:=List.eq_nil_of_length_eq_zero hz;obtain ⟨a',c',rfl,hnil⟩:=acq hown;have hrun:=sz (P:=Tryz.prog) (w:=w) base T o.type e i0 1 c hu hi _ n xs hown;unfold Oper.wp;simp [execOp,ho,resolve,invoke,builtin,hs,hx,hrun,Result.andThen];exact hK _ _ (h a' c' w (by simpa using hown) (Below.refl _ _) hnil)
 | some y =>
   have hnews:∀j u,zs[j]?=some u->w.cell? (y.add j)=some u:=by
    intro j u hj
    have hjl:j<zs.length:=by
     rcases Nat.lt_or_ge j zs.length with hlt|hge
     ·exact hlt
     ·simp [List.getElem?_eq_none hge] at hj
    obtain ⟨y',hy,hh⟩:=hc (by omega)
    cases hy;exact hh j u hj
   refine wp_append_own w s x T ho base e i0 z 1 bytes hu hi hz0 hz1 hz2 hzc (by decide) v n xs hs hown y m c zs hx (by simp [hz]) hnews h1 hmax h63 hbase ?_
   intro v' w' hown' hgrow _;obtain ⟨a',c',rfl,hnil⟩:=acq hown';exact hK _ _ (h a' c' w' hown' ((Below.refl _ _).grown hgrow hbase (fun k hk=>(hown.lt k hk).1)) hnil)

theorem ie {w:World} {ops:Array Oper} {rest:List Oper} {o:Oper} {act:Act} {Q:Exit->Act->World->Prop} (hw:Region.wanted o (yielded ops act.tmps)=true) (s x:Operand)
 (ho:o.op=.call { callee:=.builtin .append,args:=#[s,x],argTypes:=#[43,43] }) (base:Nat) (v:Value) (n:Nat) (xs:List Int) (hs:act.eval s=v)
 (hown:w.ownsRow base 5 1 v n (u8s xs)) (a:Option Addr) (m c:Nat) (zs:List Int) (hx:act.eval x=.slice a m c) (hz:Sl .u8 w a m c zs)
 (N:Nat) (hN:n+m=N) (h63:N<=1000000000000) (hbase:base<=w.heap.size)
 (h:∀a' c' w',w'.ownsRow base 5 1 (.slice a' N c') N (u8s (xs++zs))->Below base w w'->(a'=none->c'=0)->wpList Tryz.prog ops Q rest (act.put o.dst (.slice a' N c')) w') :
 wpList Tryz.prog ops Q (o::rest) act w:=by
 subst hN;have hm:=hz.2.1;refine zw hw s x 43 5 ho (.int .u8 0) 1 Tryz.underlying43 vf rfl base v n (u8s xs) hs hown a m c (u8s zs) hx (by simp [u8s,hz.1]) ?_ (ints_oneCell .u8 zs) (by unfold maxLen;omega) (by omega) hbase ?_
 ·intro h0;obtain ⟨b,off,rfl,_,hc⟩:=hz.at h0;refine ⟨_,rfl,fun j u hj=>?_⟩
  have hjl:j<zs.length:=by
   rcases Nat.lt_or_ge j zs.length with hlt|hge
   ·exact hlt
   ·simp [u8s,List.getElem?_eq_none hge] at hj
  have:=hc j (by have:=hz.1;omega)
  rw [show (⟨b,off,none⟩:Addr).add j=⟨b,off+j,none⟩ from by simp [Addr.add],this]
  simp [u8s,hjl] at hj;rw [<-hj];simp [hjl]
 ·intro a' c' w' ho' hb' hn';exact h a' c' w' (by rw [show u8s (xs++zs)=u8s xs++u8s zs from by simp [u8s]];exact ho') hb' hn'

theorem Sl.one {w:World} {g:Nat} {z:Int} (hz:(Lit.int .u8 z).wf=true) (h:w.cell? ⟨g,0,none⟩=some (.int .u8 z)):Sl .u8 w (some ⟨g,0,none⟩) 1 1 [z] :=
 ⟨rfl,Nat.le_refl _,by unfold maxLen;omega,by simpa using hz,.inr ⟨g,0,rfl,fun i hi=>match i,hi with
  | 0,_=>h
  | i+1,hi=>absurd hi (by omega)⟩⟩
end
section
open Go.RowKit

theorem yq {P:Program} {w:World} (base:Nat) (t ty e:TypeId) (i:TypeInfo) (z:Value) (size bytes:Nat) (ht:P.underlying t=some (.slice e)) (hi:P.info? e=some i) (hz:i.zero=some z)
 (hsize:i.size=size) (hby:i.bytes=bytes) (hzs:z.cells.size=size) (hsz:0<size)
 (v:Value) (n:Nat) (xs:List Value) (hown:w.ownsRow base e size v n xs)
 (a:Addr) (m c:Nat) (news:List Value) (hl:news.length=m*size) (hnews:∀j u,news[j]?=some u->w.cell? (a.add j)=some u) (h1:∀u∈news,u.oneCell'=true)
 (h63:n+m<=maxLen) (hbytes:(n+m)*bytes<=140737488355328) (hbase:base<=w.heap.size) (v':Value) (w':World)
 (hr:(Builtin.append_ #[t,t] ty #[v,.slice (some a) m c]).run P w=.ok v' w'):v'.ownBlock=v.ownBlock\/v'.ownBlock=some w.heap.size:=by
 obtain ⟨v2,w2,hr2,_,_,h4⟩:=run_append_own (P:=P) w base t ty e i z size bytes ht hi hz hsize hby hzs hsz v n xs hown a m c news hl hnews h1 h63 hbytes hbase
 subst hsize hby;have hsmall:n+m<=9223372036854775807:=by simp only [maxLen] at h63;omega
 rcases hown.2 with ⟨rfl,rfl⟩|⟨g,cap,cur,rfl,hbg,hg,hnc,hcm,hcs,htake⟩
 ·by_cases hm:m=0
  ·rw [hr2] at hr;cases hr;exact .inl (by rw [h4.2 ⟨rfl,hm⟩])
  ·have hq:=run_append_nil (P:=P) w t ty e i z ht hi hz a m c news hl hnews (by omega) (by omega) (by have hb:=hbytes;simp only [Nat.zero_add] at hb;omega)
   rw [hq] at hr;cases hr;exact .inr rfl
 ·by_cases hroom:n+m<=cap
  ·have hfit:n*i.size+news.length<=cur.size:=by rw [hl,hcs,<-Nat.add_mul];exact Nat.mul_le_mul_right _ hroom
   have hq:=run_append_room (P:=P) w t ty e i ht hi g n cap cur hg a m c news hl hnews h1 hroom hfit;rw [hq] at hr;cases hr;exact .inl rfl
  ·have holds:∀j u,xs[j]?=some u->w.cell? ((⟨g,0,none⟩:Addr).add j)=some u:=hown.cells (g:=g) rfl;have hq:=run_append_grow (P:=P) w t ty e i z ht hi hz ⟨g,0,none⟩ n cap xs hown.1 holds a m c news hl hnews (by omega) (by omega) (growslice_fits (by omega) hbytes)
   rw [hq] at hr;cases hr;exact .inr rfl

end
section
open Go.RowKit

def am (l:List Int):Array Value:=(u8s l).toArray
theorem ga (l:List Int):(am l).size=l.length:=by simp [am,u8s]
theorem fo (l:List Int):(am l).all (·.oneCell')=true:=by
 rw [Array.all_eq_true_iff_forall_mem];intro v hv;simp only [am,u8s,List.mem_toArray,List.mem_map] at hv;obtain ⟨z,_,rfl⟩:=hv;rfl
theorem rr (l:List Int) (j:Nat) (z:Int):(am l).setIfInBounds j (.int .u8 z)=am (l.set j z):=by
 simp [am,u8s,List.map_set]

theorem adm {w:World} {B B':Nat} {e:TypeId} {size n:Nat} {v:Value} {xs:List Value} (h:w.ownsRow B e size v n xs) (hB:B'<=B):w.ownsRow B' e size v n xs:=by
 obtain ⟨h1,h2⟩:=h;refine ⟨h1,?_⟩;rcases h2 with h2|⟨g,cap,cur,hv,hg,hh⟩
 ·exact .inl h2
 ·exact .inr ⟨g,cap,cur,hv,by omega,hh⟩

def MadeB (w w':World) (e:Ending) (l:List Int):Prop :=
 ∃a' n c',e=.returned (.slice a' n c')/\n=l.length/\w'.ownsRow w.heap.size 5 1 (.slice a' n c') n (u8s l)/\(a'=none->c'=0)/\Below w.heap.size w w'
theorem MadeB.sl {w w':World} {e:Ending} {l:List Int} (h:MadeB w w' e l) (hl:∀z∈l,(Lit.int .u8 z).wf=true) :
 ∃a' n c',e=.returned (.slice a' n c')/\n=l.length/\Sl .u8 w' a' n c' l/\(a'=none->c'=0)/\Below w.heap.size w w':=by
 obtain ⟨a',n,c',he,hn,ho,hnil,hb⟩:=h;exact ⟨a',n,c',he,hn,Sl.of_owns (k:=.u8) ho hl hn.symm,hnil,hb⟩

end
section
open Go.RowKit

theorem auo:(Tryz.prog.info? 3).map (fun i=>(i.zero,i.size,i.bytes))=some (some (.int .i64 0),1,8):=by kernel_rfl

theorem amk {w:World} {ops:Array Oper} {rest:List Oper} {o:Oper} {act:Act} {Q:Exit->Act->World->Prop} (hw:Region.wanted o (yielded ops act.tmps)=true) (s x:Operand)
 (ho:o.op=.call { callee:=.builtin .append,args:=#[s,x],argTypes:=#[51,51] }) (base:Nat) (v:Value) (n:Nat) (xs:List Int) (hs:act.eval s=v)
 (hown:w.ownsRow base 3 1 v n (ah xs)) (a:Option Addr) (m c:Nat) (zs:List Int) (hx:act.eval x=.slice a m c) (hz:Sl .i64 w a m c zs)
 (N:Nat) (hN:n+m=N) (h63:N<=1000000000000) (hbase:base<=w.heap.size)
 (h:∀a' c' w',w'.ownsRow base 3 1 (.slice a' N c') N (ah (xs++zs))->Below base w w'->(a'=none->c'=0)->wpList Tryz.prog ops Q rest (act.put o.dst (.slice a' N c')) w') :
 wpList Tryz.prog ops Q (o::rest) act w:=by
 subst hN;have hm:=hz.2.1;refine zw hw s x 51 3 ho (.int .i64 0) 8 Tryz.underlying51 auo rfl base v n (ah xs) hs hown a m c (ah zs) hx (by simp [ah,hz.1]) ?_ (ints_oneCell .i64 zs) (by unfold maxLen;omega) (by omega) hbase ?_
 ·intro h0;obtain ⟨b,off,rfl,_,hc⟩:=hz.at h0;refine ⟨_,rfl,fun j u hj=>?_⟩
  have hjl:j<zs.length:=by
   rcases Nat.lt_or_ge j zs.length with hlt|hge
   ·exact hlt
   ·simp [ah,List.getElem?_eq_none hge] at hj
  have:=hc j (by have:=hz.1;omega)
  rw [show (⟨b,off,none⟩:Addr).add j=⟨b,off+j,none⟩ from by simp [Addr.add],this]
  simp [ah,hjl] at hj;rw [<-hj];simp [hjl]
 ·intro a' c' w' ho' hb' hn';exact h a' c' w' (by rw [show ah (xs++zs)=ah xs++ah zs from by simp [ah]];exact ho') hb' hn'

theorem Sl.newI {w:World} {t:TypeId} {fr:Nat × Nat} {B n m:Nat} (zs:List Int) (hw:∀z∈zs,(Lit.int .i64 z).wf=true) (hl:zs.length<=maxLen) (hB:B=w.heap.size) (hn:zs.length=n) (hm:zs.length=m) :
 Sl .i64 (w.alloc (.cells (zs.map (Value.int .i64)).toArray t fr)) (some ⟨B,0,none⟩) n m zs:=by
 subst hB hn hm;refine ⟨rfl,Nat.le_refl _,hl,hw,.inr ⟨w.heap.size,0,rfl,fun i hi=>?_⟩⟩;rw [World.cell?_alloc_mark];simp [hi]
end
end Go.Proofs.YtkiamgcpcneggaaGreat
