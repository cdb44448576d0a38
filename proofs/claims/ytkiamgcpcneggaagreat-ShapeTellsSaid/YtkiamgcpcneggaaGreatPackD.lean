import Derived.Deep.QuietTactic
import Derived.Test.YtkiamgcpcneggaaGreatPackB
import Derived.Laws.CopyOwn
import Derived.Maps.AppendAt
set_option linter.all false
set_option maxRecDepth 100000
set_option maxHeartbeats 12800000
namespace Go.Proofs.YtkiamgcpcneggaaGreat
section
open Go.RowKit

def u8s (l:LIn):List Value:=l.map (.int .u8)
theorem Uj (xs:LIn) (b:Int):u8s xs++[.int .u8 b]=u8s (xs++[b]):=by simp [u8s]
def ay (l:LIn):List Value:=l.map (.int .i64)
def Sl (k:IntKind) (w:World) (a:OAd) (n cap:Nat) (zs:LIn):Prop :=
 zs.length=n/\n<=cap/\cap<=maxLen/\(∀z∈zs,(Lit.int k z).wf=true) /\
  (n=0\/∃b off,a=some ⟨b,off,none⟩/\∀i,i<n->w.cell? ⟨b,off+i,none⟩=some (.int k (zs.getD i 0)))

theorem bQ {w:World} {b o:Nat} {v:Value} (h:w.cell? ⟨b,o,none⟩=some v):b<w.heap.size:=by
 rcases Nat.lt_or_ge b w.heap.size with hlt|hge
 ·exact hlt
 ·rw [World.cell?] at h;simp [Array.getElem?_eq_none hge] at h

theorem Sl.below {k:IntKind} {w w':World} {a:OAd} {n cap B:Nat} {zs:LIn} (h:Sl k w a n cap zs) (hb:Below B w w') (hB:w.heap.size<=B):Sl k w' a n cap zs:=by
 obtain ⟨h1,h2,h3,h4,h5⟩:=h;refine ⟨h1,h2,h3,h4,?_⟩;rcases h5 with h5|⟨b,off,ha,hc⟩
 ·exact .inl h5
 ·refine .inr ⟨b,off,ha,fun i hi=>?_⟩;have hci:=hc i hi;have hlt:=bQ hci;rw [hb.cell (p:=⟨b,off+i,none⟩) (by show b<B;omega)];exact hci

theorem Sl.of_owns {k:IntKind} {w:World} {B:Nat} {T:TypeId} {a:OAd} {n cap:Nat} {zs:LIn}
 (h:w.ownsRow B T 1 (.slice a n cap) n (zs.map (.int k))) (hw:∀z∈zs,(Lit.int k z).wf=true) (hl:zs.length=n):Sl k w a n cap zs:=by
 have h':=h;obtain ⟨_,h2⟩:=h;rcases h2 with ⟨hv,h0⟩|⟨g,c,cur,hv,hg,hh,hnc,hcm,hcs,ht⟩
 ·simp only [Value.slice.injEq] at hv;obtain ⟨rfl,rfl,rfl⟩:=hv;exact ⟨hl,Nat.le_refl _,by unfold maxLen;omega,hw,.inl rfl⟩
 ·simp only [Value.slice.injEq] at hv;obtain ⟨rfl,_,rfl⟩:=hv;refine ⟨hl,hnc,hcm,hw,.inr ⟨g,0,rfl,fun i hi=>?_⟩⟩;rw [Nat.zero_add,h'.cellAt i omg];simp [hl,hi]

theorem Sl.of_row {k:IntKind} {w:World} {a:OAd} {len cap:Nat} {zs:LIn}
 (h:(a=none/\len=0/\cap=0/\zs=[])\/∃x,a=some x/\len<=cap/\cap<=maxLen/\zs.length=cap/\(∀i,i<zs.length->w.cell? (x.add i)=some (.int k (zs.getD i 0)))/\∀n∈zs,(Lit.int k n).wf=true) :
 Sl k w a len cap (zs.take len):=by
 rcases h with ⟨rfl,rfl,rfl,rfl⟩|⟨x,rfl,hl,hm,hz,hcell,hwz⟩
 ·exact ⟨rfl,Nat.le_refl _,by unfold maxLen;omega,by simp,.inl rfl⟩
 ·refine ⟨by simp;omega,hl,hm,fun z hz'=>hwz z (List.mem_of_mem_take hz'),?_⟩;rcases Nat.eq_zero_or_pos len with h0|hp
  ·exact .inl h0
  ·obtain ⟨b,off,spot⟩:=x;have hc:=hcell 0 omg;have hspot:spot=none:=by simpa [Addr.add] using World.cell?_spot hc
   subst hspot;refine .inr ⟨b,off,rfl,fun i hi=>?_⟩;have:=hcell i omg;rw [show (⟨b,off,none⟩:Addr).add i=⟨b,off+i,none⟩ from by simp [Addr.add]] at this;rw [this];simp [hi]

theorem Sl.piece {k:IntKind} {w:World} {b off n cap:Nat} {zs:LIn} (h:Sl k w (some ⟨b,off,none⟩) n cap zs) (i j:Nat) (hij:i+j<=n) :
 Sl k w (some ⟨b,off+i,none⟩) j (cap-i) ((zs.drop i).take j):=by
 obtain ⟨h1,h2,h3,h4,h5⟩:=h;refine ⟨by simp;omega,by omega,by unfold maxLen at *;omega,fun z hz=>h4 z (List.mem_of_mem_drop (List.mem_of_mem_take hz)),?_⟩;rcases h5 with h5|⟨b',off',ha,hc⟩
 ·exact .inl omg
 ·simp only [sij,Addr.mk.injEq] at ha;obtain ⟨rfl,rfl,_⟩:=ha;refine .inr ⟨b,off+i,rfl,fun m hm=>?_⟩;rw [Nat.add_assoc,hc (i+m) omg];simp [hm]

theorem Sl.at {k:IntKind} {w:World} {a:OAd} {n cap:Nat} {zs:LIn} (h:Sl k w a n cap zs) (hn:0<n) :
 ∃b off,a=some ⟨b,off,none⟩/\b<w.heap.size/\∀i,i<n->w.cell? ⟨b,off+i,none⟩=some (.int k (zs.getD i 0)):=by
 obtain ⟨h1,h2,h3,h4,h5⟩:=h;rcases h5 with h5|⟨b,off,ha,hc⟩
 ·omega
 ·exact ⟨b,off,ha,bQ (hc 0 hn),hc⟩

theorem adK {w:World} {B:Nat} {v:Value} {t:TypeId} (hB:B=w.heap.size):∀j u,[v][j]?=some u->(w.alloc (.cells #[v] t)).cell? ((⟨B,0,none⟩:Addr).add j)=some u:=by
 subst hB;intro j u hj
 match j,hj with
 | 0,hj=>simp at hj;subst hj;simp [Addr.add]
theorem Sl.alloc {k:IntKind} {w:World} {a:OAd} {n cap:Nat} {zs:LIn} (h:Sl k w a n cap zs) (o:Obj):Sl k (w.alloc o) a n cap zs :=
 h.below ((Below.refl w.heap.size w).alloc lrf o) lrf
theorem Sl.drew {k:IntKind} {w:World} {a:OAd} {n cap:Nat} {zs:LIn} (h:Sl k w a n cap zs):Sl k w.drew a n cap zs:=h
theorem Sl.drewN {k:IntKind} {w:World} {a:OAd} {n cap:Nat} {zs:LIn} (h:Sl k w a n cap zs) (m:Nat):Sl k (w.drewN m) a n cap zs:=h
theorem Sl.first {k:IntKind} {w:World} {b off n cap:Nat} {zs:LIn} (h:Sl k w (some ⟨b,off,none⟩) n cap zs) (j:Nat) (hj:j<=n):Sl k w (some ⟨b,off,none⟩) j cap (zs.take j):=by
 have:=h.piece 0 j omg;simpa using this
theorem ownsRow_below {w w':World} {base:Nat} {e:TypeId} {size:Nat} {v:Value} {n:Nat} {xs:List Value} {B:Nat} (h:w.ownsRow base e size v n xs) (hb:Below B w w') (hB:w.heap.size<=B):w'.ownsRow base e size v n xs:=by
 obtain ⟨h1,h2⟩:=h;refine ⟨h1,?_⟩;rcases h2 with h2|⟨g,cap,cur,hv,hg,hh,r⟩
 ·exact .inl h2
 ·have hlt:g<w.heap.size:=by
   rcases Nat.lt_or_ge g w.heap.size with hlt|hge
   ·exact hlt
   ·rw [Array.getElem?_eq_none hge] at hh;cases hh
  exact .inr ⟨g,cap,cur,hv,hg,by rw [hb.block g omg];exact hh,r⟩
theorem take_same {xs ys:LIn} {j:Nat} (h:xs.take j=ys.take j) (hx:j<xs.length) (hy:j<ys.length) (e:xs.getD j 0=ys.getD j 0):xs.take (j+1)=ys.take (j+1):=by
 rw [tsa hx,tsa hy,h];simp [hx,hy] at e;rw [e]
theorem Sl.nil {k:IntKind} {w:World}:Sl k w none 0 0 []:=⟨rfl,Nat.le_refl _,by unfold maxLen;omega,by simp,.inl rfl⟩
theorem Sl.drawn {k:IntKind} {w w':World} {a:OAd} {n cap:Nat} {zs:LIn} (h:Sl k w a n cap zs) (hq:∃q,w'=w.drewN q):Sl k w' a n cap zs:=by
 obtain ⟨q,rfl⟩:=hq;exact h
theorem aG {B:Nat} {w w1 w2:World} (h:Below B w w1) (hq:∃q,w2=w1.drewN q):Below B w w2:=by
 obtain ⟨q,rfl⟩:=hq;exact ⟨h.os,h.tape,h.output,h.size,h.block⟩

end
section
open Go.RowKit

structure Rw where
 la:OAd
 ln:Nat
 lc:Nat
 L:LIn
 ra:OAd
 rn:Nat
 rc:Nat
 R:LIn
 C:Int
def Rw.l (x:Rw):Value:=.slice x.la x.ln x.lc
def Rw.rt (x:Rw):Value:=.slice x.ra x.rn x.rc
def Rw.c (x:Rw):Value:=.int .u64 x.C
def Rw.cells (x:Rw):List Value:=[x.l,x.rt,x.c]
def Rw.v (x:Rw):Value:=.agg #[x.l,x.rt,x.c]
def Rw.r (x:Rw):aj:=⟨x.L,x.R,x.C⟩
def Rw.no:Rw:=⟨none,0,0,[],none,0,0,[],0⟩
def Rw.Good (w:World) (x:Rw):Prop:=Sl .i64 w x.la x.ln x.lc x.L/\Sl .i64 w x.ra x.rn x.rc x.R/\0<=x.C/\x.C<18446744073709551616
theorem Rw.no_good (w:World):Rw.no.Good w:=⟨Sl.nil,Sl.nil,by decide,by decide⟩
theorem Rw.Good.below {w w':World} {x:Rw} {B:Nat} (h:x.Good w) (hb:Below B w w') (hB:w.heap.size<=B):x.Good w':=⟨h.1.below hb hB,h.2.1.below hb hB,h.2.2⟩
theorem Rw.Good.alloc {w:World} {x:Rw} (h:x.Good w) (o:Obj):x.Good (w.alloc o):=⟨h.1.alloc o,h.2.1.alloc o,h.2.2⟩
theorem Rw.Good.drawn {w w':World} {x:Rw} (h:x.Good w) (hq:∃q,w'=w.drewN q):x.Good w':=by obtain ⟨q,rfl⟩:=hq;exact h

def aA (xs:List Rw):List aj:=xs.map Rw.r
def aZ (xs:List Rw):List Value:=xs.flatMap Rw.cells
theorem gP (xs:List Rw):(aA xs).length=xs.length:=by simp [aA]
theorem aem (xs ys:List Rw):aA (xs++ys)=aA xs++aA ys:=by simp [aA]
theorem UA (xs ys:List Rw):aZ (xs++ys)=aZ xs++aZ ys:=by simp [aZ]
theorem qN (x:Rw) (xs:List Rw):aZ (x::xs)=x.cells++aZ xs:=by simp [aZ]
theorem Av:∀xs:List Rw,(aZ xs).length=xs.length*3
 | []=>rfl
 | x::xs=>by rw [qN,List.length_append,Av xs];simp [Rw.cells];omega
theorem lY (xs:List Rw) (i:Nat):(aA xs).getD i aj.no=(xs.getD i Rw.no).r:=by
 simp only [aA,gdq,List.getElem?_map];cases xs[i]?<;>rfl
theorem Aw:∀(xs:List Rw) (i j:Nat),i<xs.length->j<3->(aZ xs)[i*3+j]?=(xs.getD i Rw.no).cells[j]?
 | [],_,_,h,_=>by simp at h
 | x::xs,0,j,_,hj=>by
   rw [qN,Nat.zero_mul,Nat.zero_add,List.getElem?_append_left (by simpa [Rw.cells] using hj)];rfl
 | x::xs,i+1,j,h,hj=>by
   rw [qN,List.getElem?_append_right (by simp [Rw.cells];omega),show (i+1)*3+j-x.cells.length=i*3+j from by simp [Rw.cells];omega,Aw xs i j (by simpa using h) hj];simp

def bX (w:World) (b o:Nat) (x:Rw):Prop :=
 w.cell? ⟨b,o,none⟩=some x.l/\w.cell? ⟨b,o+1,none⟩=some x.rt/\w.cell? ⟨b,o+2,none⟩=some x.c

def Rs (w:World) (a:OAd) (n cap:Nat) (xs:List Rw):Prop :=
 xs.length=n/\n<=cap/\cap<=maxLen/\(∀x∈xs,x.Good w) /\
  (n=0\/∃b off,a=some ⟨b,off,none⟩/\∀i,i<n->bX w b (off+i*3) (xs.getD i Rw.no))

theorem bX.below {w w':World} {b o B:Nat} {x:Rw} (h:bX w b o x) (hb:Below B w w') (hB:w.heap.size<=B):bX w' b o x:=by
 have hlt:=bQ h.1;refine ⟨?_,?_,?_⟩
 ·rw [hb.cell (p:=⟨b,o,none⟩) (by show b<B;omega)];exact h.1
 ·rw [hb.cell (p:=⟨b,o+1,none⟩) (by show b<B;omega)];exact h.2.1
 ·rw [hb.cell (p:=⟨b,o+2,none⟩) (by show b<B;omega)];exact h.2.2
theorem Rs.below {w w':World} {a:OAd} {n cap B:Nat} {xs:List Rw} (h:Rs w a n cap xs) (hb:Below B w w') (hB:w.heap.size<=B):Rs w' a n cap xs:=by
 obtain ⟨h1,h2,h3,h4,h5⟩:=h;refine ⟨h1,h2,h3,fun x hx=>(h4 x hx).below hb hB,?_⟩;rcases h5 with h5|⟨b,off,ha,hc⟩
 ·exact .inl h5
 ·exact .inr ⟨b,off,ha,fun i hi=>(hc i hi).below hb hB⟩
theorem Rs.alloc {w:World} {a:OAd} {n cap:Nat} {xs:List Rw} (h:Rs w a n cap xs) (o:Obj):Rs (w.alloc o) a n cap xs :=
 h.below ((Below.refl w.heap.size w).alloc lrf o) lrf
theorem Rs.drawn {w w':World} {a:OAd} {n cap:Nat} {xs:List Rw} (h:Rs w a n cap xs) (hq:∃q,w'=w.drewN q):Rs w' a n cap xs:=by
 obtain ⟨q,rfl⟩:=hq;exact h
theorem Rs.drew {w:World} {a:OAd} {n cap:Nat} {xs:List Rw} (h:Rs w a n cap xs):Rs w.drew a n cap xs:=h
theorem Rs.nil {w:World}:Rs w none 0 0 []:=⟨rfl,Nat.le_refl _,by unfold maxLen;omega,by simp,.inl rfl⟩
theorem Rs.empty {w:World} {a:OAd} {c:Nat} (h:c<=maxLen):Rs w a 0 c []:=⟨rfl,Nat.zero_le _,h,by simp,.inl rfl⟩
theorem Rs.good {w:World} {a:OAd} {n cap:Nat} {xs:List Rw} (h:Rs w a n cap xs) (i:Nat):(xs.getD i Rw.no).Good w:=by
 rw [gdq];rcases Nat.lt_or_ge i xs.length with hi|hi
 ·rw [geg hi];exact h.2.2.2.1 _ (List.getElem_mem hi)
 ·rw [List.getElem?_eq_none hi];exact Rw.no_good w
theorem Rs.at {w:World} {a:OAd} {n cap:Nat} {xs:List Rw} (h:Rs w a n cap xs) (hn:0<n) :
 ∃b off,a=some ⟨b,off,none⟩/\b<w.heap.size/\∀i,i<n->bX w b (off+i*3) (xs.getD i Rw.no):=by
 obtain ⟨h1,h2,h3,h4,h5⟩:=h;rcases h5 with h5|⟨b,off,ha,hc⟩
 ·omega
 ·exact ⟨b,off,ha,bQ (hc 0 hn).1,hc⟩
theorem Rs.one {w:World} {a:OAd} {n cap:Nat} {xs:List Rw} (h:Rs w a n cap xs) (i:Nat) (hi:i<n) :
 ∃b off la ln lc L ra rn rc R C,a=some ⟨b,off,none⟩/\b<w.heap.size/\w.cell? ⟨b,off+i*3,none⟩=some (.slice la ln lc)/\w.cell? ⟨b,off+i*3+1,none⟩=some (.slice ra rn rc)/\w.cell? ⟨b,off+i*3+2,none⟩=some (.int .u64 C) /\
  Sl .i64 w la ln lc L/\Sl .i64 w ra rn rc R/\0<=C/\C<18446744073709551616/\xs.getD i Rw.no=⟨la,ln,lc,L,ra,rn,rc,R,C⟩:=by
 obtain ⟨b,off,ha,hb,hc⟩:=h.at omg;have hg:=h.good i;have hx:=hc i hi;generalize xs.getD i Rw.no=x at hg hx;obtain ⟨la,ln,lc,L,ra,rn,rc,R,C⟩:=x;exact ⟨b,off,la,ln,lc,L,ra,rn,rc,R,C,ha,hb,hx.1,hx.2.1,hx.2.2,hg.1,hg.2.1,hg.2.2.1,hg.2.2.2,rfl⟩
theorem Rs.piece {w:World} {b off n cap:Nat} {xs:List Rw} (h:Rs w (some ⟨b,off,none⟩) n cap xs) (i j:Nat) (hij:i+j<=n) :
 Rs w (some ⟨b,off+i*3,none⟩) j (cap-i) ((xs.drop i).take j):=by
 obtain ⟨h1,h2,h3,h4,h5⟩:=h;refine ⟨by simp;omega,by omega,by unfold maxLen at *;omega,fun x hx=>h4 x (List.mem_of_mem_drop (List.mem_of_mem_take hx)),?_⟩;rcases h5 with h5|⟨b',off',ha,hc⟩
 ·exact .inl omg
 ·simp only [sij,Addr.mk.injEq] at ha;obtain ⟨rfl,rfl,_⟩:=ha;refine .inr ⟨b,off+i*3,rfl,fun m hm=>?_⟩;have:=hc (i+m) omg;rw [show off+(i+m)*3=off+i*3+m*3 from by omega] at this;have e:((xs.drop i).take j).getD m Rw.no=xs.getD (i+m) Rw.no:=by simp [hm]
  rw [e];exact this
theorem Rs.first {w:World} {a:OAd} {n cap:Nat} {xs:List Rw} (h:Rs w a n cap xs) (j:Nat) (hj:j<=n):Rs w a j cap (xs.take j):=by
 obtain ⟨h1,h2,h3,h4,h5⟩:=h;refine ⟨by simp;omega,by omega,h3,fun x hx=>h4 x (List.mem_of_mem_take hx),?_⟩;rcases h5 with h5|⟨b,off,ha,hc⟩
 ·exact .inl omg
 ·refine .inr ⟨b,off,ha,fun m hm=>?_⟩;have e:(xs.take j).getD m Rw.no=xs.getD m Rw.no:=by simp [hm]
  rw [e];exact hc m omg
theorem Rs.of_owns {w:World} {B:Nat} {T:TypeId} {a:OAd} {n cap:Nat} {xs:List Rw}
 (h:w.ownsRow B T 3 (.slice a n cap) n (aZ xs)) (hg:∀x∈xs,x.Good w) (hl:xs.length=n):Rs w a n cap xs:=by
 have h':=h;obtain ⟨_,h2⟩:=h;rcases h2 with ⟨hv,h0⟩|⟨g,c,cur,hv,hgB,hh,hnc,hcm,hcs,ht⟩
 ·simp only [Value.slice.injEq] at hv;obtain ⟨rfl,rfl,rfl⟩:=hv;exact ⟨hl,Nat.le_refl _,by unfold maxLen;omega,hg,.inl rfl⟩
 ·simp only [Value.slice.injEq] at hv;obtain ⟨rfl,_,rfl⟩:=hv;refine ⟨hl,hnc,hcm,hg,.inr ⟨g,0,rfl,fun i hi=>?_⟩⟩
  have e:∀j,j<3->w.cell? ⟨g,0+i*3+j,none⟩=(xs.getD i Rw.no).cells[j]?:=fun j hj=>by
   rw [Nat.zero_add,h'.cellAt (i*3+j) omg,Aw xs i j omg hj]
  exact ⟨e 0 omg,e 1 omg,e 2 omg⟩

theorem Sl.lay {k:IntKind} {w:World} {t:TypeId} {fr:Nat × Nat} {B n m:Nat} (zs:LIn) (hw:∀z∈zs,(Lit.int k z).wf=true) (hl:zs.length<=maxLen) (hB:B=w.heap.size) (hn:zs.length=n) (hm:zs.length=m) :
 Sl k (w.alloc (.cells (zs.map (Value.int k)).toArray t fr)) (some ⟨B,0,none⟩) n m zs:=by
 subst hB hn hm;refine ⟨rfl,Nat.le_refl _,hl,hw,.inr ⟨w.heap.size,0,rfl,fun i hi=>?_⟩⟩;rw [World.cell?_alloc_mark];simp [hi]

end
section
open Go.RowKit

structure Cw where
 m:Int
 l:Int
 o:Int
 t:Int
 a:OAd
 n:Nat
 cap:Nat
 xs:List Rw
def Cw.cells (c:Cw):Array Value:=#[.int .u64 c.m,.int .u64 c.l,.int .u64 c.o,.int .u64 c.t,.slice c.a c.n c.cap]
def Cw.v (c:Cw):Value:=.agg c.cells
def Cw.base (c:Cw):LIn:=[c.m,c.l,c.o,c.t]
def Cw.c (c:Cw):File.Cst:=⟨c.base,aA c.xs⟩
def Cw.Good (w:World) (c:Cw):Prop:=Rs w c.a c.n c.cap c.xs/\∀x∈c.base,0<=x/\x<18446744073709551616
theorem Cw.Good.below {w w':World} {c:Cw} {B:Nat} (h:c.Good w) (hb:Below B w w') (hB:w.heap.size<=B):c.Good w':=⟨h.1.below hb hB,h.2⟩
theorem Cw.Good.alloc {w:World} {c:Cw} (h:c.Good w) (o:Obj):c.Good (w.alloc o):=⟨h.1.alloc o,h.2⟩
theorem Cw.base_wf {w:World} {c:Cw} (h:c.Good w):∀z∈c.base,(Lit.int .u64 z).wf=true:=fun z hz=>by
 have:=h.2 z hz;exact WalkArith.wf_u64 ⟨this.1,by omega⟩

end
section
open Go.RowKit

theorem aex {α:Type} (L cs:List α) (h:L.length=cs.length):splice L 0 cs=cs:=by
 simp [splice,List.drop_eq_nil_of_le (show L.length<=cs.length by omega)]
theorem Sl.of_heap {k:IntKind} {w:World} {g n:Nat} {t:TypeId} {fr:Nat × Nat} {zs:LIn} (h:w.heap[g]?=some (.cells (zs.map (.int k)).toArray t fr)) (hw:∀z∈zs,(Lit.int k z).wf=true) (hl:zs.length=n) (hm:n<=maxLen) :
 Sl k w (some ⟨g,0,none⟩) n n zs:=by
 refine ⟨hl,Nat.le_refl _,hm,hw,.inr ⟨g,0,rfl,fun i hi=>?_⟩⟩;rw [World.cell?,h];simp [hl,hi]

end
section
open Go.RowKit

theorem mW {P:Program} {fn:Func} {p u:Tmp} {ty:TypeId} (h:fn.results=#[.cell p ty,.tmp u]) (tmps:Array Value) (w:World) (g:Nat) (t:TypeId) (cs:Array Value) (fr:Nat × Nat) (d:TypeDesc)
 (hp:tmps.getD p undef=.pointer (some ⟨g,0,none⟩)) (hg:w.heap[g]?=some (.cells cs t fr))
 (hu:P.underlying ty=some d) (hd:(match d with|.struct _|.array _ _=>true|_=>false)=true) (hi:(P.info? ty).map (·.size)=some cs.size) :
 (results fn tmps).run P w=.ok (.tuple #[.agg cs,tmps.getD u undef]) w:=by
 have hp':tmps[p]?.getD undef=.pointer (some ⟨g,0,none⟩):=by simpa using hp
 simp [results,h,hp',asAddr,run_loadVar_row w g t ty cs fr d hg hu hd hi]
theorem eQ {P:Program} {ops:Array Oper} {rest:List Oper} {o:Oper} {a:Act} {w:World} {Q:Exit->Act->World->Prop} (hwt:Region.wanted o (yielded ops a.tmps)=true) (ty:TypeId) (x:Operand) (ho:o.op=.load ty x)
 (g:Nat) (hx:a.eval x=.pointer (some ⟨g,0,none⟩)) (t:TypeId) (cs:Array Value) (fr:Nat × Nat) (d:TypeDesc) (hg:w.heap[g]?=some (.cells cs t fr))
 (hu:P.underlying ty=some d) (hd:(match d with|.struct _|.array _ _=>true|_=>false)=true) (hi:(P.info? ty).map (·.size)=some cs.size)
 (h:wpList P ops Q rest (a.put o.dst (.agg cs)) w):wpList P ops Q (o::rest) a w:=by
 refine wpList_step fun K hK=>?_;rw [if_pos hwt];exact wp_load_row ty x ho g hx t cs fr d hg hu hd hi (hK _ _ h)
theorem gQ {P:Program} {ops:Array Oper} {rest:List Oper} {o:Oper} {a:Act} {w:World} {Q:Exit->Act->World->Prop} (hgd:o.guard=none) (ty:TypeId) (x y:Operand) (ho:o.op=.store ty x y)
 (g:Nat) (cells:Array Value) (hx:a.eval x=.pointer (some ⟨g,0,none⟩)) (hy:a.eval y=.agg cells)
 (t:TypeId) (old:Array Value) (hg:w.heap[g]?=some (.cells old t (0,0))) (hi:(P.info? ty).map (·.size)=some cells.size)
 (hold:old.size=cells.size) (h1:cells.all (·.oneCell')=true)
 (h:∀w',w'.heap[g]?=some (.cells cells t (0,0))->w.grownBy w' (some g)->w'.heap.size=w.heap.size->wpList P ops Q rest (a.put o.dst undef) w'):wpList P ops Q (o::rest) a w :=
 wpList_store_row hgd ty x y ho g cells hx hy t old hg hi hold h1 (h _ (setRow_heap _ _ _ _ _ _ hg) ⟨rfl,rfl,rfl,by simp,fun k _ hk=>setRow_other _ _ _ _ (fun e=>hk (by rw [e]))⟩ (size_setRow _ _ _))
theorem ma {w0 w1 w2:World} {o:Obj} (hb:Below w0.heap.size w0 w1) (hg:(w1.alloc o).grownBy w2 (some w1.heap.size)):Below w0.heap.size w0 w2 :=
 (hb.alloc hb.size o).grown hg (by have:=hb.size;simp;omega) (fun k hk=>by cases hk;exact hb.size)
theorem MO (w:World) (A B:Obj):w.heap.size<((w.alloc A).alloc B).heap.size:=by unfold World.alloc;simp;omega
theorem aeI (w:World) (A B:Obj):w.heap.size+1<((w.alloc A).alloc B).heap.size:=by unfold World.alloc;simp
theorem Dr {w w2 w4:World} {A B:Obj} (h2:Below ((w.alloc A).alloc B).heap.size ((w.alloc A).alloc B) w2) (h4:Below w2.heap.size w2 w4):Below w.heap.size w w4 :=
 (((Below.refl w.heap.size w).alloc lrf A).alloc smp B).trans ((h2.mono (by have:=MO w A B;omega)).trans (h4.mono (by have:=MO w A B;have:=h2.size;omega)))

end
section
theorem z4 {P:Prop} (h:P:=by
 simp only [Value.slice.injEq] at hv;obtain ⟨rfl,rfl,rfl⟩:=hv
 exact ⟨hl,Nat.le_refl _,by unfold maxLen;omega,hg,.inl rfl⟩):P:=h
open Go.RowKit Tri

def aL (l:List (Int × Int)):List Value:=l.flatMap fun x=>[.int .i64 x.1,.int .i64 x.2]
theorem MS (xs ys:List (Int × Int)):aL (xs++ys)=aL xs++aL ys:=by simp [aL]
theorem yw (x:Int × Int) (xs:List (Int × Int)):aL (x::xs)=[.int .i64 x.1,.int .i64 x.2]++aL xs:=by simp [aL]
theorem uC:∀xs:List (Int × Int),(aL xs).length=xs.length*2
 | []=>rfl
 | x::xs=>by rw [yw,List.length_append,uC xs];simp;omega
theorem Du:∀(xs:List (Int × Int)) (i j:Nat),i<xs.length->j<2->(aL xs)[i*2+j]?=([.int .i64 (xs.getD i (0,0)).1,.int .i64 (xs.getD i (0,0)).2]:List Value)[j]?
 | [],_,_,h,_=>by simp at h
 | x::xs,0,j,_,hj=>by
   rw [yw,Nat.zero_mul,Nat.zero_add,List.getElem?_append_left (by simpa using hj)];rfl
 | x::xs,i+1,j,h,hj=>by
   rw [yw,List.getElem?_append_right (by simp;omega),show (i+1)*2+j-([.int .i64 x.1,.int .i64 x.2]:List Value).length=i*2+j from by simp;omega,Du xs i j (by simpa using h) hj];simp

def Ars (w:World) (a:OAd) (n cap:Nat) (l:List (Int × Int)):Prop :=
 l.length=n/\n<=cap/\cap<=maxLen/\(∀x∈l,(Lit.int .i64 x.1).wf=true/\(Lit.int .i64 x.2).wf=true) /\
  (n=0\/∃b off,a=some ⟨b,off,none⟩/\∀i,i<n->w.cell? ⟨b,off+i*2,none⟩=some (.int .i64 (l.getD i (0,0)).1)/\w.cell? ⟨b,off+i*2+1,none⟩=some (.int .i64 (l.getD i (0,0)).2))
theorem Ars.below {w w':World} {a:OAd} {n cap B:Nat} {l:List (Int × Int)} (h:Ars w a n cap l) (hb:Below B w w') (hB:w.heap.size<=B):Ars w' a n cap l:=by
 obtain ⟨h1,h2,h3,h4,h5⟩:=h;refine ⟨h1,h2,h3,h4,?_⟩;rcases h5 with h5|⟨b,off,ha,hc⟩
 ·exact .inl h5
 ·refine .inr ⟨b,off,ha,fun i hi=>?_⟩;obtain ⟨e1,e2⟩:=hc i hi;have hlt:=bQ e1;rw [hb.cell (p:=⟨b,off+i*2,none⟩) (by show b<B;omega),hb.cell (p:=⟨b,off+i*2+1,none⟩) (by show b<B;omega)];exact ⟨e1,e2⟩
theorem Ars.alloc {w:World} {a:OAd} {n cap:Nat} {l:List (Int × Int)} (h:Ars w a n cap l) (o:Obj):Ars (w.alloc o) a n cap l :=
 h.below ((Below.refl w.heap.size w).alloc lrf o) lrf
theorem Ars.nil {w:World}:Ars w none 0 0 []:=⟨rfl,Nat.le_refl _,by unfold maxLen;omega,by simp,.inl rfl⟩
theorem Ars.at {w:World} {a:OAd} {n cap:Nat} {l:List (Int × Int)} (h:Ars w a n cap l) (hn:0<n) :
 ∃b off,a=some ⟨b,off,none⟩/\b<w.heap.size/\∀i,i<n->w.cell? ⟨b,off+i*2,none⟩=some (.int .i64 (l.getD i (0,0)).1)/\w.cell? ⟨b,off+i*2+1,none⟩=some (.int .i64 (l.getD i (0,0)).2):=by
 obtain ⟨h1,h2,h3,h4,h5⟩:=h;rcases h5 with h5|⟨b,off,ha,hc⟩
 ·omega
 ·exact ⟨b,off,ha,bQ (hc 0 hn).1,hc⟩
theorem Ars.one {w:World} {a:OAd} {n cap:Nat} {l:List (Int × Int)} (h:Ars w a n cap l) (i:Nat) (hi:i<n) :
 ∃b off s t,a=some ⟨b,off,none⟩/\b<w.heap.size/\w.cell? ⟨b,off+i*2,none⟩=some (.int .i64 s)/\w.cell? ⟨b,off+i*2+1,none⟩=some (.int .i64 t)/\(Lit.int .i64 s).wf=true/\(Lit.int .i64 t).wf=true/\l.getD i (0,0)=(s,t):=by
 obtain ⟨b,off,ha,hb,hc⟩:=h.at omg;obtain ⟨e1,e2⟩:=hc i hi
 have hm:l.getD i (0,0)∈l:=by
  rw [gdq,geg (by rw [h.1];exact hi),Option.getD_some];exact List.getElem_mem _
 have hw:=h.2.2.2.1 _ hm;exact ⟨b,off,_,_,ha,hb,e1,e2,hw.1,hw.2,rfl⟩
theorem Ars.of_owns {w:World} {B:Nat} {T:TypeId} {a:OAd} {n cap:Nat} {l:List (Int × Int)}
 (h:w.ownsRow B T 2 (.slice a n cap) n (aL l)) (hg:∀x∈l,(Lit.int .i64 x.1).wf=true/\(Lit.int .i64 x.2).wf=true) (hl:l.length=n):Ars w a n cap l:=by
 have h':=h;obtain ⟨_,h2⟩:=h;rcases h2 with ⟨hv,h0⟩|⟨g,c,cur,hv,hgB,hh,hnc,hcm,hcs,ht⟩
 ·exact z4
 ·simp only [Value.slice.injEq] at hv;obtain ⟨rfl,_,rfl⟩:=hv;refine ⟨hl,hnc,hcm,hg,.inr ⟨g,0,rfl,fun i hi=>?_⟩⟩
  have e:∀j,j<2->w.cell? ⟨g,0+i*2+j,none⟩=([.int .i64 (l.getD i (0,0)).1,.int .i64 (l.getD i (0,0)).2]:List Value)[j]?:=fun j hj=>by
   rw [Nat.zero_add,h'.cellAt (i*2+j) omg,Du l i j omg hj]
  exact ⟨e 0 omg,e 1 omg⟩

structure Sw where
 fin:Bool
 a:OAd
 n:Nat
 cap:Nat
 arcs:List (Int × Int)
def Sw.f (x:Sw):Value:=.bool x.fin
def Sw.s (x:Sw):Value:=.slice x.a x.n x.cap
def Sw.cells (x:Sw):List Value:=[x.f,x.s]
def Sw.v (x:Sw):Value:=.agg #[x.f,x.s]
def Sw.st (x:Sw):St:=⟨x.fin,x.arcs⟩
def Sw.no:Sw:=⟨false,none,0,0,[]⟩
def Sw.Good (w:World) (x:Sw):Prop:=Ars w x.a x.n x.cap x.arcs
theorem Sw.no_good (w:World):Sw.no.Good w:=Ars.nil
theorem Sw.Good.below {w w':World} {x:Sw} {B:Nat} (h:x.Good w) (hb:Below B w w') (hB:w.heap.size<=B):x.Good w':=Ars.below h hb hB
theorem Sw.Good.alloc {w:World} {x:Sw} (h:x.Good w) (o:Obj):x.Good (w.alloc o):=Ars.alloc h o

def sts (xs:List Sw):List St:=xs.map Sw.st
def bT (xs:List Sw):List Value:=xs.flatMap Sw.cells
theorem fq (xs:List Sw):(sts xs).length=xs.length:=by simp [sts]
theorem MU (xs ys:List Sw):sts (xs++ys)=sts xs++sts ys:=by simp [sts]
theorem aeK (xs ys:List Sw):bT (xs++ys)=bT xs++bT ys:=by simp [bT]
theorem Dv (x:Sw) (xs:List Sw):bT (x::xs)=x.cells++bT xs:=by simp [bT]
theorem yx:∀xs:List Sw,(bT xs).length=xs.length*2
 | []=>rfl
 | x::xs=>by rw [Dv,List.length_append,yx xs];simp [Sw.cells];omega
theorem ic (xs:List Sw) (i:Nat):(sts xs).getD i St.no=(xs.getD i Sw.no).st:=by
 simp only [sts,gdq,List.getElem?_map];cases xs[i]?<;>rfl
theorem Dw:∀(xs:List Sw) (i j:Nat),i<xs.length->j<2->(bT xs)[i*2+j]?=(xs.getD i Sw.no).cells[j]?
 | [],_,_,h,_=>by simp at h
 | x::xs,0,j,_,hj=>by
   rw [Dv,Nat.zero_mul,Nat.zero_add,List.getElem?_append_left (by simpa [Sw.cells] using hj)];rfl
 | x::xs,i+1,j,h,hj=>by
   rw [Dv,List.getElem?_append_right (by simp [Sw.cells];omega),show (i+1)*2+j-x.cells.length=i*2+j from by simp [Sw.cells];omega,Dw xs i j (by simpa using h) hj];simp
def Dx (w:World) (b o:Nat) (x:Sw):Prop:=w.cell? ⟨b,o,none⟩=some x.f/\w.cell? ⟨b,o+1,none⟩=some x.s
def Ss (w:World) (a:OAd) (n cap:Nat) (xs:List Sw):Prop :=
 xs.length=n/\n<=cap/\cap<=maxLen/\(∀x∈xs,x.Good w) /\
  (n=0\/∃b off,a=some ⟨b,off,none⟩/\∀i,i<n->Dx w b (off+i*2) (xs.getD i Sw.no))
theorem Dx.below {w w':World} {b o B:Nat} {x:Sw} (h:Dx w b o x) (hb:Below B w w') (hB:w.heap.size<=B):Dx w' b o x:=by
 have hlt:=bQ h.1;refine ⟨?_,?_⟩
 ·rw [hb.cell (p:=⟨b,o,none⟩) (by show b<B;omega)];exact h.1
 ·rw [hb.cell (p:=⟨b,o+1,none⟩) (by show b<B;omega)];exact h.2
theorem Ss.below {w w':World} {a:OAd} {n cap B:Nat} {xs:List Sw} (h:Ss w a n cap xs) (hb:Below B w w') (hB:w.heap.size<=B):Ss w' a n cap xs:=by
 obtain ⟨h1,h2,h3,h4,h5⟩:=h;refine ⟨h1,h2,h3,fun x hx=>(h4 x hx).below hb hB,?_⟩;rcases h5 with h5|⟨b,off,ha,hc⟩
 ·exact .inl h5
 ·exact .inr ⟨b,off,ha,fun i hi=>(hc i hi).below hb hB⟩
theorem Ss.alloc {w:World} {a:OAd} {n cap:Nat} {xs:List Sw} (h:Ss w a n cap xs) (o:Obj):Ss (w.alloc o) a n cap xs :=
 h.below ((Below.refl w.heap.size w).alloc lrf o) lrf
theorem Ss.drawn {w w':World} {a:OAd} {n cap:Nat} {xs:List Sw} (h:Ss w a n cap xs) (hq:∃q,w'=w.drewN q):Ss w' a n cap xs:=by
 obtain ⟨q,rfl⟩:=hq;exact h
theorem Ss.drew {w:World} {a:OAd} {n cap:Nat} {xs:List Sw} (h:Ss w a n cap xs):Ss w.drew a n cap xs:=h
theorem Ss.nil {w:World}:Ss w none 0 0 []:=⟨rfl,Nat.le_refl _,by unfold maxLen;omega,by simp,.inl rfl⟩
theorem Ss.good {w:World} {a:OAd} {n cap:Nat} {xs:List Sw} (h:Ss w a n cap xs) (i:Nat):(xs.getD i Sw.no).Good w:=by
 rw [gdq];rcases Nat.lt_or_ge i xs.length with hi|hi
 ·rw [geg hi];exact h.2.2.2.1 _ (List.getElem_mem hi)
 ·rw [List.getElem?_eq_none hi];exact Sw.no_good w
theorem Ss.at {w:World} {a:OAd} {n cap:Nat} {xs:List Sw} (h:Ss w a n cap xs) (hn:0<n) :
 ∃b off,a=some ⟨b,off,none⟩/\b<w.heap.size/\∀i,i<n->Dx w b (off+i*2) (xs.getD i Sw.no):=by
 obtain ⟨h1,h2,h3,h4,h5⟩:=h;rcases h5 with h5|⟨b,off,ha,hc⟩
 ·omega
 ·exact ⟨b,off,ha,bQ (hc 0 hn).1,hc⟩
theorem Ss.one {w:World} {a:OAd} {n cap:Nat} {xs:List Sw} (h:Ss w a n cap xs) (i:Nat) (hi:i<n) :
 ∃b off f sa sn sc arcs,a=some ⟨b,off,none⟩/\b<w.heap.size/\w.cell? ⟨b,off+i*2,none⟩=some (.bool f)/\w.cell? ⟨b,off+i*2+1,none⟩=some (.slice sa sn sc)/\Ars w sa sn sc arcs/\xs.getD i Sw.no=⟨f,sa,sn,sc,arcs⟩:=by
 obtain ⟨b,off,ha,hb,hc⟩:=h.at omg;have hg:=h.good i;have hx:=hc i hi;generalize xs.getD i Sw.no=x at hg hx;obtain ⟨f,sa,sn,sc,arcs⟩:=x;exact ⟨b,off,f,sa,sn,sc,arcs,ha,hb,hx.1,hx.2,hg,rfl⟩
theorem Ss.of_owns {w:World} {B:Nat} {T:TypeId} {a:OAd} {n cap:Nat} {xs:List Sw}
 (h:w.ownsRow B T 2 (.slice a n cap) n (bT xs)) (hg:∀x∈xs,x.Good w) (hl:xs.length=n):Ss w a n cap xs:=by
 have h':=h;obtain ⟨_,h2⟩:=h;rcases h2 with ⟨hv,h0⟩|⟨g,c,cur,hv,hgB,hh,hnc,hcm,hcs,ht⟩
 ·exact z4
 ·simp only [Value.slice.injEq] at hv;obtain ⟨rfl,_,rfl⟩:=hv;refine ⟨hl,hnc,hcm,hg,.inr ⟨g,0,rfl,fun i hi=>?_⟩⟩
  have e:∀j,j<2->w.cell? ⟨g,0+i*2+j,none⟩=(xs.getD i Sw.no).cells[j]?:=fun j hj=>by
   rw [Nat.zero_add,h'.cellAt (i*2+j) omg,Dw xs i j omg hj]
  exact ⟨e 0 omg,e 1 omg⟩
theorem sZ {l:List (Int × Int)} {j:Nat} {x:Int × Int} (h:j<l.length) (hx:l.getD j (0,0)=x):l.take (j+1)=l.take j++[x]:=by
 rw [tsa h,<-hx];simp [h]

end
section
open Go.RowKit

structure Iw where
 a:OAd
 n:Nat
 cap:Nat
 xs:List Sw
 c:Cw
def Iw.v (x:Iw):Value:=.agg #[.slice x.a x.n x.cap,.int .u64 x.c.m,.int .u64 x.c.l,.int .u64 x.c.o,.int .u64 x.c.t,.slice x.c.a x.c.n x.c.cap]
def Iw.im (x:Iw):Img.Im:=⟨sts x.xs,x.c.c⟩
def Iw.Good (w:World) (x:Iw):Prop:=Ss w x.a x.n x.cap x.xs/\x.c.Good w
theorem Iw.Good.below {w w':World} {x:Iw} {B:Nat} (h:x.Good w) (hb:Below B w w') (hB:w.heap.size<=B):x.Good w':=⟨h.1.below hb hB,h.2.below hb hB⟩
theorem Iw.Good.alloc {w:World} {x:Iw} (h:x.Good w) (o:Obj):x.Good (w.alloc o):=⟨h.1.alloc o,h.2.alloc o⟩
end
section
open Go.RowKit

def Slf (k:Option Nat) (a:OAd) (n:Nat):Prop:=n=0\/∃b off,a=some ⟨b,off,none⟩/\k≠some b
def Rw.Far (k:Option Nat) (x:Rw):Prop:=Slf k x.la x.ln/\Slf k x.ra x.rn
theorem Sl.grown {q:IntKind} {w w':World} {a:OAd} {n cap:Nat} {zs:LIn} {k:Option Nat} (h:Sl q w a n cap zs) (hg:w.grownBy w' k) (hf:Slf k a n):Sl q w' a n cap zs:=by
 obtain ⟨h1,h2,h3,h4,h5⟩:=h;refine ⟨h1,h2,h3,h4,?_⟩;rcases h5 with h5|⟨b,off,ha,hc⟩
 ·exact .inl h5
 ·rcases hf with hf|⟨b',off',ha',hk⟩
  ·exact .inl hf
  ·rw [ha] at ha';simp only [sij,Addr.mk.injEq,and_true] at ha';obtain ⟨rfl,rfl⟩:=ha';exact .inr ⟨b,off,ha,fun i hi=>hg.cell (hc i hi) (fun e=>hk e.symm)⟩
theorem Rw.Good.grown {w w':World} {x:Rw} {k:Option Nat} (h:x.Good w) (hg:w.grownBy w' k) (hf:x.Far k):x.Good w':=⟨h.1.grown hg hf.1,h.2.1.grown hg hf.2,h.2.2⟩

end
section
open Go Go.RowKit

end
section
open Go.RowKit

structure Bd where
 a:OAd
 n:Nat
 cap:Nat
 zs:LIn
def Bd.v (x:Bd):Value:=.slice x.a x.n x.cap
def Bd.Good (w:World) (x:Bd):Prop:=Sl .u8 w x.a x.n x.cap x.zs
def Bd.no:Bd:=⟨none,0,0,[]⟩
instance:Inhabited Bd:=⟨Bd.no⟩
theorem Bd.Good.below {w w':World} {x:Bd} {B:Nat} (h:x.Good w) (hb:Below B w w') (hB:w.heap.size<=B):x.Good w':=Sl.below h hb hB

def VT (xs:List Bd):LLI:=xs.map Bd.zs
def art (xs:List Bd):List Value:=xs.map Bd.v
def Bs (w:World) (a:OAd) (n cap:Nat) (xs:List Bd):Prop :=
 xs.length=n/\n<=cap/\cap<=maxLen/\(∀x∈xs,x.Good w) /\
  (n=0\/∃b off,a=some ⟨b,off,none⟩/\∀i,i<n->w.cell? ⟨b,off+i,none⟩=some (xs.getD i Bd.no).v)

def aru (A:Nat->OAd) (L C:Nat->Nat) (Z:Nat->LIn) (r:Nat):Bd:=⟨A r,L r,C r,(Z r).take (L r)⟩
end
end Go.Proofs.YtkiamgcpcneggaaGreat
