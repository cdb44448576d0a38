import Derived.RangeFuncNested
import Derived.RangeFuncBound
import Derived.Shelf.RegionOpen
import Derived.LoopNIn
import Derived.LoopIn
import Derived.Test.YtkiamgcpcneggaaGreatPackG
import Derived.Deep.OwnRows
import Derived.Maps.OwnIn
set_option linter.all false
set_option maxRecDepth 100000
set_option maxHeartbeats 12800000
namespace Go.Proofs.YtkiamgcpcneggaaGreat
section
open Go.RowKit

structure ae (S:Nat->Prop) (W W':World):Prop where
 os:W'.os=W.os
 tape:W'.tape=W.tape
 output:W'.output=W.output
 size:W.heap.size<=W'.heap.size
 block:∀k,k<W.heap.size->S k->W'.heap[k]?=W.heap[k]?

theorem ae.refl (S:Nat->Prop) (W:World):ae S W W:=⟨rfl,rfl,rfl,Nat.le_refl _,fun _ _ _=>rfl⟩
theorem ae.mono {S T:Nat->Prop} {W W':World} (h:ae S W W') (hs:∀k,k<W.heap.size->T k->S k):ae T W W' :=
 ⟨h.os,h.tape,h.output,h.size,fun k hk ht=>h.block k hk (hs k hk ht)⟩
theorem ae.trans {S:Nat->Prop} {A B C:World} (h:ae S A B) (h':ae S B C):ae S A C :=
 ⟨h'.os.trans h.os,h'.tape.trans h.tape,h'.output.trans h.output,Nat.le_trans h.size h'.size,fun k hk hs =>
  (h'.block k (Nat.lt_of_lt_of_le hk h.size) hs).trans (h.block k hk hs)⟩
theorem ae.trans' {S T U:Nat->Prop} {A B C:World} (h:ae S A B) (h':ae T B C) (hs:∀k,k<A.heap.size->U k->S k/\T k):ae U A C :=
 ⟨h'.os.trans h.os,h'.tape.trans h.tape,h'.output.trans h.output,Nat.le_trans h.size h'.size,fun k hk hu=>(h'.block k (Nat.lt_of_lt_of_le hk h.size) (hs k hk hu).2).trans (h.block k hk (hs k hk hu).1)⟩
theorem ae.of_below {B:Nat} {W W':World} (h:Below B W W'):ae (fun k=>k<B) W W':=⟨h.os,h.tape,h.output,h.size,fun k _ hk=>h.block k hk⟩
theorem ae.below {S:Nat->Prop} {B:Nat} {W W':World} (h:ae S W W') (hB:B<=W.heap.size) (hs:∀k,k<B->S k):Below B W W' :=
 ⟨h.os,h.tape,h.output,h.size,fun k hk=>h.block k omg (hs k hk)⟩
theorem ae.alloc (S:Nat->Prop) (W:World) (o:Obj):ae S W (W.alloc o):=⟨rfl,rfl,rfl,by simp,fun k hk _=>Below.heap_alloc _ _ _ hk⟩
theorem ae.drew (S:Nat->Prop) (W:World):ae S W W.drew:=⟨rfl,rfl,rfl,Nat.le_refl _,fun _ _ _=>rfl⟩
theorem ae.setCell {S:Nat->Prop} (W:World) (a:Addr) (v:Value) (h:¬S a.block):ae S W (W.setCell a v) :=
 ⟨rfl,rfl,rfl,by simp [World.setCell],fun k _ hs=>Below.heap_setCell _ _ _ _ (fun e=>h (e▸hs))⟩
theorem ae.putObj {S:Nat->Prop} (W:World) (l:Nat) (o:Obj) (h:¬S l):ae S W (W.putObj l o) :=
 ⟨rfl,rfl,rfl,by simp,fun k _ hs=>World.putObj_heap_other (fun e=>h (e▸hs))⟩
theorem ae.of_grownBy {S:Nat->Prop} {W W':World} {row:Option Nat} (h:W.grownBy W' row) (hr:∀r,row=some r->¬S r):ae S W W' :=
 ⟨h.os,h.tape,h.output,h.size,fun k hk hs=>h.block k hk (fun e=>hr k e.symm hs)⟩
theorem ae.heap {S:Nat->Prop} {W W':World} (h:ae S W W') {k:Nat} {o:Obj} (hk:W.heap[k]?=some o) (hs:S k):W'.heap[k]?=some o :=
 (h.block k (hltq hk) hs).trans hk
theorem ae.cell {S:Nat->Prop} {W W':World} (h:ae S W W') {b o:Nat} {v:Value} (hp:W.cell? ⟨b,o,none⟩=some v) (hs:S b):W'.cell? ⟨b,o,none⟩=some v :=
 (World.cell?_of_block (w:=W) (h.block b (bQ hp) hs)).trans hp
theorem ae.boxed {S:Nat->Prop} {W W':World} (h:ae S W W') {B:Nat} {t:TypeId} {v:Value} (hb:Boxed W B t v) (hs:S B):Boxed W' B t v:=h.heap hb hs

def Stable {β:Type} (B:Nat) (J:β->(Nat->Prop)->World->Prop):Prop :=
 ∀s O W W',J s O W->ae (fun k=>k<B\/O k) W W'->J s O W'

def NL {α:Type} (J Jx:List α->(Nat->Prop)->World->Prop) (xs:List α) (O:Nat->Prop) (W:World) (e:Ending) (W':World):Prop :=
 ∃O',ae (fun k=>¬O k) W W'/\(∀k,O' k->O k\/W.heap.size<=k) /\
  ((e=.returned (.bool true)/\J xs O' W')\/(e=.returned (.bool false)/\Jx xs O' W'))

def Iter {α:Type} (F:Fence) (n:Nat) (P:Program) (g:Nat) (lb:Array Value) (encs:α->Array Value) (Rd:Nat->Prop) (S Sp:List α->Prop) (N:Nat) (w:World):Prop :=
 ∀(l:Nat) (J Jx:List α->(Nat->Prop)->World->Prop) (O:Nat->Prop) (W:World),ae Rd w W->(∀k,O k->¬Rd k/\k<W.heap.size)->Stable W.heap.size J->Stable W.heap.size Jx ->
  (∀pre x O W1,J pre O W1->pre.length<N->YieldAt F (n-1) P l (encs x) W1 (NL J Jx (pre++[x]) O W1)) ->
  J [] O W ->
  CallsIn F n P g (#[.func (.yield l) #[] #[]]++lb) W fun e W'=>(∃v,e=.returned v)/\∃O',(∃xs,S xs/\J xs O' W')\/(∃pre,Sp pre/\Jx pre O' W')

theorem anu.anyDepth {F:Fence} (hd:F.depth=none) {m:Nat} (m':Nat) {P:Program} {l:Nat} {args:Array Value} {W:World} {R:Ending->World->Prop} (h:YieldAt F m P l args W R):YieldAt F m' P l args W R:=by
 obtain ⟨fn,tmps,assign,body,hy,hR⟩:=h;exact ⟨fn,tmps,assign,body,hy,hR.1,fun c cs _=>hR.2 c cs (fun d e=>by rw [hd] at e;cases e)⟩

def aid {α:Type} (I:List α->(Nat->Prop)->World->Prop) (Ix:Code->List α->(Nat->Prop)->World->Prop) (xs:List α) (O:Nat->Prop) (W:World):Exit->Act->World->Prop
 | .normal,_,W'=>∃O',ae (fun k=>¬O k) W W'/\(∀k,O' k->O k\/W.heap.size<=k)/\I xs O' W'
 | .ret,_,W'=>∃O',ae (fun k=>¬O k) W W'/\(∀k,O' k->O k\/W.heap.size<=k)/\Ix .ret xs O' W'
 | .exit id,_,W'=>∃O',ae (fun k=>¬O k) W W'/\(∀k,O' k->O k\/W.heap.size<=k)/\Ix (.exit id) xs O' W'
 | .goto t,_,W'=>∃O',ae (fun k=>¬O k) W W'/\(∀k,O' k->O k\/W.heap.size<=k)/\Ix (.goto t) xs O' W'
 | .panic _,_,_=>False
 | .outgrown,_,_=>False

end
section
open Go.RowKit Go.Shelf
attribute [local go_sem] Oper.semAt_some

end
section

end
section
open Go.RowKit Go.Shelf
attribute [local go_sem] Oper.semAt_some

end
section
open Go.RowKit Go.Shelf
attribute [local go_sem] Oper.semAt_some

def Bd.In (W:World) (x:Bd):Prop :=
 ∃b,x.a=some ⟨b,0,none⟩/\x.cap=x.n/\x.zs.length=x.n/\x.n<=maxLen/\(∀z∈x.zs,(Lit.int .u8 z).wf=true)/\W.heap[b]?=some (.cells (x.zs.map (Value.int .u8)).toArray 5 (0,0))
def arw (w w':World) (e:Ending) (l:LLI):Prop :=
 ∃a' m c' ys,e=.returned (.slice a' m c')/\Bs w' a' m c' ys/\VT ys=l/\(a'=none->c'=0)/\Below w.heap.size w w'/\∀y∈ys,∃b,y.a=some ⟨b,0,none⟩
end
section
open Go.RowKit Go.Shelf
attribute [local go_sem] Oper.semAt_some

end
end Go.Proofs.YtkiamgcpcneggaaGreat
