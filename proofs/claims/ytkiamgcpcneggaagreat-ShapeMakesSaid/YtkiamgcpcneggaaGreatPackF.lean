import Derived.RangeFuncNested
import Derived.RangeFuncBound
import Derived.Shelf.RegionOpen
import Derived.LoopNIn
import Derived.LoopIn
import Derived.Test.YtkiamgcpcneggaaGreatPackG
import Derived.Deep.OwnRows
import Derived.Maps.OwnIn
set_option linter.all false
set_option maxRecDepth 100000
set_option maxHeartbeats 12800000
namespace Go.Proofs.YtkiamgcpcneggaaGreat
section
open Go.RowKit

structure Keep (S:Nat->Prop) (W W':World):Prop where
 os:W'.os=W.os
 tape:W'.tape=W.tape
 output:W'.output=W.output
 size:W.heap.size<=W'.heap.size
 block:∀k,k<W.heap.size->S k->W'.heap[k]?=W.heap[k]?

theorem Keep.refl (S:Nat->Prop) (W:World):Keep S W W:=⟨rfl,rfl,rfl,Nat.le_refl _,fun _ _ _=>rfl⟩
theorem Keep.mono {S T:Nat->Prop} {W W':World} (h:Keep S W W') (hs:∀k,k<W.heap.size->T k->S k):Keep T W W' :=
 ⟨h.os,h.tape,h.output,h.size,fun k hk ht=>h.block k hk (hs k hk ht)⟩
theorem Keep.trans {S:Nat->Prop} {A B C:World} (h:Keep S A B) (h':Keep S B C):Keep S A C :=
 ⟨h'.os.trans h.os,h'.tape.trans h.tape,h'.output.trans h.output,Nat.le_trans h.size h'.size,fun k hk hs =>
  (h'.block k (Nat.lt_of_lt_of_le hk h.size) hs).trans (h.block k hk hs)⟩
theorem Keep.trans' {S T U:Nat->Prop} {A B C:World} (h:Keep S A B) (h':Keep T B C) (hs:∀k,k<A.heap.size->U k->S k/\T k):Keep U A C :=
 ⟨h'.os.trans h.os,h'.tape.trans h.tape,h'.output.trans h.output,Nat.le_trans h.size h'.size,fun k hk hu=>(h'.block k (Nat.lt_of_lt_of_le hk h.size) (hs k hk hu).2).trans (h.block k hk (hs k hk hu).1)⟩
theorem Keep.of_below {B:Nat} {W W':World} (h:Below B W W'):Keep (fun k=>k<B) W W':=⟨h.os,h.tape,h.output,h.size,fun k _ hk=>h.block k hk⟩
theorem Keep.below {S:Nat->Prop} {B:Nat} {W W':World} (h:Keep S W W') (hB:B<=W.heap.size) (hs:∀k,k<B->S k):Below B W W' :=
 ⟨h.os,h.tape,h.output,h.size,fun k hk=>h.block k (by omega) (hs k hk)⟩
theorem Keep.alloc (S:Nat->Prop) (W:World) (o:Obj):Keep S W (W.alloc o):=⟨rfl,rfl,rfl,by simp,fun k hk _=>Below.heap_alloc _ _ _ hk⟩
theorem Keep.drew (S:Nat->Prop) (W:World):Keep S W W.drew:=⟨rfl,rfl,rfl,Nat.le_refl _,fun _ _ _=>rfl⟩
theorem Keep.setCell {S:Nat->Prop} (W:World) (a:Addr) (v:Value) (h:¬S a.block):Keep S W (W.setCell a v) :=
 ⟨rfl,rfl,rfl,by simp [World.setCell],fun k _ hs=>Below.heap_setCell _ _ _ _ (fun e=>h (e▸hs))⟩
theorem Keep.putObj {S:Nat->Prop} (W:World) (l:Nat) (o:Obj) (h:¬S l):Keep S W (W.putObj l o) :=
 ⟨rfl,rfl,rfl,by simp,fun k _ hs=>World.putObj_heap_other (fun e=>h (e▸hs))⟩
theorem Keep.of_grownBy {S:Nat->Prop} {W W':World} {row:Option Nat} (h:W.grownBy W' row) (hr:∀r,row=some r->¬S r):Keep S W W' :=
 ⟨h.os,h.tape,h.output,h.size,fun k hk hs=>h.block k hk (fun e=>hr k e.symm hs)⟩
theorem Keep.heap {S:Nat->Prop} {W W':World} (h:Keep S W W') {k:Nat} {o:Obj} (hk:W.heap[k]?=some o) (hs:S k):W'.heap[k]?=some o :=
 (h.block k (hltq hk) hs).trans hk
theorem Keep.cell {S:Nat->Prop} {W W':World} (h:Keep S W W') {b o:Nat} {v:Value} (hp:W.cell? ⟨b,o,none⟩=some v) (hs:S b):W'.cell? ⟨b,o,none⟩=some v :=
 (World.cell?_of_block (w:=W) (h.block b (ay hp) hs)).trans hp
theorem Keep.frozen {S:Nat->Prop} {W W':World} (h:Keep S W W') {p:Addr} (hp:p.block<W.heap.size) (hs:S p.block):W'.frozen? p=W.frozen? p:=World.frozen?_of_block (w:=W) (h.block p.block hp hs)
theorem Keep.boxed {S:Nat->Prop} {W W':World} (h:Keep S W W') {B:Nat} {t:TypeId} {v:Value} (hb:Boxed W B t v) (hs:S B):Boxed W' B t v:=h.heap hb hs

def Stable {β:Type} (B:Nat) (J:β->(Nat->Prop)->World->Prop):Prop :=
 ∀s O W W',J s O W->Keep (fun k=>k<B\/O k) W W'->J s O W'

def Answers {α:Type} (J Jx:List α->(Nat->Prop)->World->Prop) (xs:List α) (O:Nat->Prop) (W:World) (e:Ending) (W':World):Prop :=
 ∃O',Keep (fun k=>¬O k) W W'/\(∀k,O' k->O k\/W.heap.size<=k) /\
  ((e=.returned (.bool true)/\J xs O' W')\/(e=.returned (.bool false)/\Jx xs O' W'))

def Iter {α:Type} (F:Fence) (n:Nat) (P:Program) (g:Nat) (lb:Array Value) (encs:α->Array Value) (Rd:Nat->Prop) (S Sp:List α->Prop) (N:Nat) (w:World):Prop :=
 ∀(l:Nat) (J Jx:List α->(Nat->Prop)->World->Prop) (O:Nat->Prop) (W:World),Keep Rd w W->(∀k,O k->¬Rd k/\k<W.heap.size)->Stable W.heap.size J->Stable W.heap.size Jx ->
  (∀pre x O W1,J pre O W1->pre.length<N->YieldAt F (n-1) P l (encs x) W1 (Answers J Jx (pre++[x]) O W1)) ->
  J [] O W ->
  CallsIn F n P g (#[.func (.yield l) #[] #[]]++lb) W fun e W'=>(∃v,e=.returned v)/\∃O',(∃xs,S xs/\J xs O' W')\/(∃pre,Sp pre/\Jx pre O' W')

theorem Iter.anyDepth {α:Type} {F:Fence} (hd:F.depth=none) {n:Nat} (m:Nat) {P:Program} {g:Nat} {lb:Array Value} {encs:α->Array Value} {Rd:Nat->Prop} {S Sp:List α->Prop} {N:Nat} {w:World}
 (h:Iter F n P g lb encs Rd S Sp N w):Iter F m P g lb encs Rd S Sp N w:=by
 have hroom:∀k,F.room k:=fun k d e=>by rw [hd] at e;cases e
 intro l J Jx O W hW hO hJ hJx hY h0
 obtain ⟨h1,h2⟩:=h l J Jx O W hW hO hJ hJx (fun pre x O W1 hj hl=>by
  obtain ⟨fn,tmps,assign,body,hy,hR⟩:=hY pre x O W1 hj hl
  exact ⟨fn,tmps,assign,body,hy,hR.1,fun c cs _=>hR.2 c cs (hroom _)⟩) h0
 exact ⟨h1,fun cs _=>h2 cs (hroom _)⟩
theorem Yield.anyDepth {F:Fence} (hd:F.depth=none) {m:Nat} (m':Nat) {P:Program} {l:Nat} {args:Array Value} {W:World} {R:Ending->World->Prop} (h:YieldAt F m P l args W R):YieldAt F m' P l args W R:=by
 obtain ⟨fn,tmps,assign,body,hy,hR⟩:=h;exact ⟨fn,tmps,assign,body,hy,hR.1,fun c cs _=>hR.2 c cs (fun d e=>by rw [hd] at e;cases e)⟩

def roundEnds {α:Type} (I:List α->(Nat->Prop)->World->Prop) (Ix:Code->List α->(Nat->Prop)->World->Prop) (xs:List α) (O:Nat->Prop) (W:World):Exit->Act->World->Prop
 | .normal,_,W'=>∃O',Keep (fun k=>¬O k) W W'/\(∀k,O' k->O k\/W.heap.size<=k)/\I xs O' W'
 | .ret,_,W'=>∃O',Keep (fun k=>¬O k) W W'/\(∀k,O' k->O k\/W.heap.size<=k)/\Ix .ret xs O' W'
 | .exit id,_,W'=>∃O',Keep (fun k=>¬O k) W W'/\(∀k,O' k->O k\/W.heap.size<=k)/\Ix (.exit id) xs O' W'
 | .goto t,_,W'=>∃O',Keep (fun k=>¬O k) W W'/\(∀k,O' k->O k\/W.heap.size<=k)/\Ix (.goto t) xs O' W'
 | .panic _,_,_=>False
 | .outgrown,_,_=>False

end
section
open Go.RowKit Go.Shelf
attribute [local go_sem] Oper.semAt_some

end
section

end
section
open Go.RowKit Go.Shelf
attribute [local go_sem] Oper.semAt_some

end
section
open Go.RowKit Go.Shelf
attribute [local go_sem] Oper.semAt_some

def Bd.In (W:World) (x:Bd):Prop :=
 ∃b,x.a=some ⟨b,0,none⟩/\x.cap=x.n/\x.zs.length=x.n/\x.n<=maxLen/\(∀z∈x.zs,(Lit.int .u8 z).wf=true)/\W.heap[b]?=some (.cells (x.zs.map (Value.int .u8)).toArray 5 (0,0))
theorem Bd.In.good {W:World} {x:Bd} (h:x.In W):x.Good W:=by
 obtain ⟨b,h1,h2,h3,h4,h5,h6⟩:=h;unfold Bd.Good;rw [h1,h2];exact Sl.of_heap h6 h5 h3 h4
theorem Bd.In.kept {W W':World} {x:Bd} {row:Option Nat} (h:x.In W) (hg:W.grownBy W' row) (hr:∀r,row=some r->∀cs fr,W.heap[r]?≠some (.cells cs 5 fr)):x.In W':=by
 obtain ⟨b,h1,h2,h3,h4,h5,h6⟩:=h;exact ⟨b,h1,h2,h3,h4,h5,(hg.block b (hltq h6) (fun e=>hr b e.symm _ _ h6)).trans h6⟩
theorem Boxed.below {W W':World} {B:Nat} {t:TypeId} {v:Value} (h:Boxed W B t v) (hb:Below W.heap.size W W'):Boxed W' B t v:=(hb.block B (Boxed.lt h)).trans h
theorem Below.grownBy {W W':World} (h:Below W.heap.size W W'):W.grownBy W' none:=⟨h.os,h.tape,h.output,h.size,fun k hk _=>h.block k hk⟩
theorem Bd.In.keep {S:Nat->Prop} {W W':World} {x:Bd} (h:x.In W) (hk:Keep S W W') (hs:∀b,x.a=some ⟨b,0,none⟩->S b):x.In W':=by
 obtain ⟨b,h1,h2,h3,h4,h5,h6⟩:=h;exact ⟨b,h1,h2,h3,h4,h5,hk.heap h6 (hs b h1)⟩
def RowsOwn (w w':World) (e:Ending) (l:List (List Int)):Prop :=
 ∃a' m c' ys,e=.returned (.slice a' m c')/\Bs w' a' m c' ys/\bnums ys=l/\(a'=none->c'=0)/\Below w.heap.size w w'/\∀y∈ys,∃b,y.a=some ⟨b,0,none⟩
theorem RowsOwn.is {w w':World} {e:Ending} {l:List (List Int)} (h:RowsOwn w w' e l):RowsIs w w' e l:=by
 obtain ⟨a',m,c',ys,h1,h2,h3,h4,h5,_⟩:=h;exact ⟨a',m,c',ys,h1,h2,h3,h4,h5⟩
end
section
open Go.RowKit Go.Shelf
attribute [local go_sem] Oper.semAt_some

end
end Go.Proofs.YtkiamgcpcneggaaGreat
