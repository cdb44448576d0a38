import Derived.Test.YtkiamgcpcneggaaGreatPackAD
import Derived.Test.YtkiamgcpcneggaaGreatPackAH
set_option linter.all false
set_option maxRecDepth 100000
set_option maxHeartbeats 12800000
namespace Go.Proofs.YtkiamgcpcneggaaGreat
section
open Go.RowKit Tri Daw

structure cB (B mb ob mp:Nat) (w w':World):Prop where
 os:w'.os=w.os
 tape:w'.tape=w.tape
 output:w'.output=w.output
 size:w.heap.size<=w'.heap.size
 block:∀k,k<B->k≠mb->k≠ob->k≠mp->w'.heap[k]?=w.heap[k]?
theorem cB.trans {B mb ob mp:Nat} {a b c:World} (h:cB B mb ob mp a b) (k:cB B mb ob mp b c):cB B mb ob mp a c:=⟨k.os.trans h.os,k.tape.trans h.tape,k.output.trans h.output,Nat.le_trans h.size k.size,fun j h1 h2 h3 h4=>(k.block j h1 h2 h3 h4).trans (h.block j h1 h2 h3 h4)⟩
theorem cB.grown {B mb ob mp:Nat} {w w':World} {row:Option Nat} (hg:w.grownBy w' row) (hB:B<=w.heap.size) (hr:∀r,row=some r->r=mb\/r=ob\/r=mp\/B<=r):cB B mb ob mp w w':=⟨hg.os,hg.tape,hg.output,hg.size,fun k h1 h2 h3 h4=>hg.block k omg (fun e=>by
 rcases hr k e.symm with h|h|h|h<;>omega)⟩
theorem cB.below {B mb ob mp C:Nat} {w w':World} (h:cB B mb ob mp w w') (hC:C<=B/\C<=mb/\C<=ob/\C<=mp):Below C w w':=⟨h.os,h.tape,h.output,h.size,fun k hk=>h.block k omg omg omg omg⟩
theorem uL {w w':World} (h:Below w.heap.size w w'):w.grownBy w' none:=OW h lrf _

def Far (B mb ob mp b:Nat):Prop:=b<B/\b≠mb/\b≠ob/\b≠mp
structure Cx (w:World) (B mb ob mp:Nat) (x:Cz):Prop where
 first:Sl .i64 w x.fa x.fn x.fc x.first
 far:∀b off,x.fa=some ⟨b,off,none⟩->Far B mb ob mp b
 long:x.long<=1000
 arcs:w.ownsRow B 95 2 x.st.s x.st.n (aL x.st.arcs)
 wfs:∀y∈x.st.arcs,(Lit.int .i64 y.1).wf=true/\(Lit.int .i64 y.2).wf=true
theorem Cx.good {w:World} {B mb ob mp:Nat} {x:Cz} (h:Cx w B mb ob mp x):x.st.Good w:=Ars.of_owns h.arcs h.wfs (by
 have:=h.arcs.1
 rw [uC] at this;omega)
theorem Yb:(95:TypeId)≠158:=by decide
structure Mr (w:World) (B g mb ob mp N:Nat) (os:List Wd) (ns:LIn) (L:List St) (cs:List Cz) (v:Value):Prop where
 lt:mb<B/\ob<B/\mp<B/\B<=w.heap.size
 ne:mb≠ob/\mb≠mp/\ob≠mp
 gfar:Far B mb ob mp g
 box:w.heap[mb]?=some (.cells #[.slice (some ⟨g,0,none⟩) N N,.slice (some ⟨ob,0,none⟩) N N,.map (some mp),v] 104 (0,0))
 begs:∀k,k<N->w.cell? ⟨g,k,none⟩=some (os.getD k Wd.no).v
 words:∀x∈os,x.Good w
 far:∀x∈os,∀b off,x.a=some ⟨b,off,none⟩->Far B mb ob mp b
 of:w.ownsRow 0 3 1 (.slice (some ⟨ob,0,none⟩) N N) N (ay ns)
 ofw:∀z∈ns,(Lit.int .i64 z).wf=true
 map:NameMap w mp L
 row:w.ownsRow B 158 5 v cs.length (eG cs)
 each:∀x∈cs,Cx w B mb ob mp x
def Mine (mb ob mp:Nat) (v:Value) (row:Option Nat):Prop:=∀r,row=some r->r=mb\/r=ob\/r=mp\/v.ownBlock=some r
theorem Mr.own {w:World} {B g mb ob mp N:Nat} {os:List Wd} {ns:LIn} {L:List St} {cs:List Cz} {v:Value} (h:Mr w B g mb ob mp N os ns L cs v) {row:Option Nat} (hm:Mine mb ob mp v row) {b:Nat} (hb:Far B mb ob mp b):some b≠row:=by
 intro e;have hl:=h.row.lt;obtain ⟨h1,h2,h3,h4⟩:=hb;rcases hm b e.symm with h5|h5|h5|h5
 ·omega
 ·omega
 ·omega
 ·have:=(hl b h5).1;omega
theorem Cx.kept {w w':World} {B g mb ob mp N:Nat} {os:List Wd} {ns:LIn} {L:List St} {cs:List Cz} {v:Value} {x:Cz} (hx:Cx w B mb ob mp x) (h:Mr w B g mb ob mp N os ns L cs v) {row:Option Nat} (hg:w.grownBy w' row) (hm:Mine mb ob mp v row):Cx w' B mb ob mp x:=by
 refine ⟨hx.first.kept hg (fun b off e=>h.own hm (hx.far b off e)),hx.far,hx.long,hx.arcs.kept hg ?_,hx.wfs⟩;rcases qd hx.arcs h.row Yb with h1|h1
 ·exact .inl h1
 ·cases ho:x.st.s.ownBlock with
  | none=>exact .inl rfl
  | some b =>
    right;intro e;have hb:=(hx.arcs.lt b ho).1;obtain ⟨l1,l2,l3,l4⟩:=h.lt;rcases hm b e.symm with h5|h5|h5|h5
    ·omega
    ·omega
    ·omega
    ·rw [ho,h5] at h1;exact h1 rfl
theorem Mr.step {w w':World} {B g mb ob mp N:Nat} {os:List Wd} {ns ns':LIn} {L L':List St} {cs cs':List Cz} {v v':Value} (h:Mr w B g mb ob mp N os ns L cs v) {row:Option Nat} (hg:w.grownBy w' row) (hm:Mine mb ob mp v row)
 (kL:w'.heap[mb]?=some (.cells #[.slice (some ⟨g,0,none⟩) N N,.slice (some ⟨ob,0,none⟩) N N,.map (some mp),v'] 104 (0,0))) (hof:w'.ownsRow 0 3 1 (.slice (some ⟨ob,0,none⟩) N N) N (ay ns')) (api:∀z∈ns',(Lit.int .i64 z).wf=true) (hmap:NameMap w' mp L')
 (hrow:w'.ownsRow B 158 5 v' cs'.length (eG cs')) (apj:∀x∈cs',x∈cs\/Cx w' B mb ob mp x):Mr w' B g mb ob mp N os ns' L' cs' v':=by
 obtain ⟨l1,l2,l3,l4⟩:=h.lt;have hs:=hg.size;refine ⟨⟨l1,l2,l3,by omega⟩,h.ne,h.gfar,kL,fun k hk=>hg.cell (h.begs k hk) (h.own hm h.gfar),fun x hx=>Sl.kept (h.words x hx) hg (fun b off e=>h.own hm (h.far x hx b off e)),h.far,hof,api,hmap,hrow,fun x hx=>?_⟩;rcases apj x hx with h1|h1
 ·exact (h.each x h1).kept h hg hm
 ·exact h1
theorem Mr.boxKept {w w':World} {B g mb ob mp N:Nat} {os:List Wd} {ns:LIn} {L:List St} {cs:List Cz} {v:Value} (h:Mr w B g mb ob mp N os ns L cs v) {row:Option Nat} (hg:w.grownBy w' row) (hne:some mb≠row):w'.heap[mb]?=some (.cells #[.slice (some ⟨g,0,none⟩) N N,.slice (some ⟨ob,0,none⟩) N N,.map (some mp),v] 104 (0,0)) :=
 (hg.block mb (by have:=h.lt;omega) hne).trans h.box
theorem Mr.below {w w':World} {B g mb ob mp N:Nat} {os:List Wd} {ns:LIn} {L:List St} {cs:List Cz} {v:Value} (h:Mr w B g mb ob mp N os ns L cs v) (hb:Below w.heap.size w w'):Mr w' B g mb ob mp N os ns L cs v:=by
 have hg:=uL hb;exact h.step hg (fun r e=>by cases e) (h.boxKept hg smp) (ownsRow_below h.of hb lrf) h.ofw (h.map.kept hg smp) (ownsRow_below h.row hb lrf) (fun x hx=>.inl hx)
theorem Mr.name {w w':World} {B g mb ob mp N:Nat} {os:List Wd} {ns:LIn} {L L':List St} {cs:List Cz} {v:Value} (h:Mr w B g mb ob mp N os ns L cs v) (hg:w.grownBy w' (some mp)) (hmap:NameMap w' mp L'):Mr w' B g mb ob mp N os ns L' cs v:=by
 obtain ⟨n1,n2,n3⟩:=h.ne;obtain ⟨l1,l2,l3,l4⟩:=h.lt;refine h.step hg (fun r e=>by simp only [sij] at e;omega) (h.boxKept hg (by simp only [ne_eq,sij];omega)) (h.of.kept hg (.inr (by simp only [Value.ownBlock,ne_eq,sij];omega))) h.ofw hmap (h.row.kept hg ?_) (fun x hx=>.inl hx)
 cases ho:v.ownBlock with
 | none=>exact .inl rfl
 | some b=>right;have:=(h.row.lt b ho).1;simp only [ne_eq,sij];omega
theorem Mr.put {w:World} {B g mb ob mp N at':Nat} {os:List Wd} {ns:LIn} {L:List St} {cs:List Cz} {v:Value} (h:Mr w B g mb ob mp N os ns L cs v) (z:Int) (hz:(Lit.int .i64 z).wf=true):Mr (w.setCell ⟨ob,at',none⟩ (.int .i64 z)) B g mb ob mp N os (ns.set at' z) L cs v:=by
 obtain ⟨n1,n2,n3⟩:=h.ne;obtain ⟨l1,l2,l3,l4⟩:=h.lt;have hg:=dC w ⟨ob,at',none⟩ (.int .i64 z);have e:ay (ns.set at' z)=(ay ns).set at' (.int .i64 z):=by simp [ay,List.map_set]
 refine h.step hg (fun r e=>by simp only [sij] at e;omega) (h.boxKept hg (by simp only [ne_eq,sij];omega)) (by rw [e];exact (h.of.stored at' (.int .i64 z)).1) (fun y hy=>?_) (h.map.kept hg (by simp only [ne_eq,sij];omega)) (h.row.kept hg ?_) (fun x hx=>.inl hx)
 ·rcases List.mem_or_eq_of_mem_set hy with hy|rfl
  ·exact h.ofw y hy
  ·exact hz
 ·cases ho:v.ownBlock with
  | none=>exact .inl rfl
  | some b=>right;have:=(h.row.lt b ho).1;simp only [ne_eq,sij];omega
theorem Mr.app {w w':World} {B g mb ob mp N:Nat} {os:List Wd} {ns:LIn} {L:List St} {cs:List Cz} {v v':Value} {x:Cz} (h:Mr w B g mb ob mp N os ns L cs v) (hg:w.grownBy w' v.ownBlock) (hrow:w'.ownsRow B 158 5 v' (cs.length+1) (eG (cs++[x]))) (hx:Cx w B mb ob mp x) :
 Mr (w'.setCell ⟨mb,3,none⟩ v') B g mb ob mp N os ns L (cs++[x]) v':=by
 obtain ⟨n1,n2,n3⟩:=h.ne;obtain ⟨l1,l2,l3,l4⟩:=h.lt;have hne:∀b,b<B->some b≠v.ownBlock:=fun b hb e=>by have:=(h.row.lt b e.symm).1;omega
 have hm:Mine mb ob mp v v.ownBlock:=fun r e=>.inr (.inr (.inr e));have hg2:=dC w' ⟨mb,3,none⟩ v';have hm2:Mine mb ob mp v' (some mb):=fun r e=>by simp only [sij] at e;omega
 have kL:=h.boxKept hg (hne mb l1)
 have hvm:v'.ownBlock=none\/v'.ownBlock≠some mb:=by
  cases ho:v'.ownBlock with
  | none=>exact .inl rfl
  | some b=>right;have:=(hrow.lt b ho).1;simp only [ne_eq,sij];omega
 have hx1:Cx w' B mb ob mp x:=hx.kept h hg hm;have hs:=hg.size;have hown:∀{b:Nat},Far B mb ob mp b->some b≠(some mb:Option Nat):=fun hb e=>by simp only [sij] at e;have:=hb.2.1;omega
 have Gd:∀{b:Nat},Far B mb ob mp b->some b≠v.ownBlock:=fun hb=>hne _ hb.1
 have hcx:∀y,Cx w' B mb ob mp y->Cx (w'.setCell ⟨mb,3,none⟩ v') B mb ob mp y:=fun y hy=>by
  refine ⟨hy.first.kept hg2 (fun b off e=>hown (hy.far b off e)),hy.far,hy.long,hy.arcs.kept hg2 ?_,hy.wfs⟩
  cases ho:y.st.s.ownBlock with
  | none=>exact .inl rfl
  | some b=>right;have:=(hy.arcs.lt b ho).1;simp only [ne_eq,sij];omega
 refine ⟨⟨l1,l2,l3,by have:=hg2.size;omega⟩,h.ne,h.gfar,?_,fun k hk=>hg2.cell (hg.cell (h.begs k hk) (Gd h.gfar)) (hown h.gfar),fun y hy=>Sl.kept (Sl.kept (h.words y hy) hg (fun b off e=>Gd (h.far y hy b off e))) hg2 (fun b off e=>hown (h.far y hy b off e)),h.far,
  (h.of.kept hg (.inr (hne ob l2))).kept hg2 (.inr (by simp only [Value.ownBlock,ne_eq,sij];omega)),h.ofw,(h.map.kept hg (hne mp l3)).kept hg2 (by simp only [ne_eq,sij];omega),?_,fun y hy=>?_⟩
 ·rw [heap_setCell_same _ _ _ _ _ _ kL];rfl
 ·rw [List.length_append,List.length_singleton];exact hrow.kept hg2 hvm
 ·rcases map1 hy with hy|hy
  ·exact hcx y ((h.each y hy).kept h hg hm)
  ·rw [msg hy];exact hcx x hx1
theorem nu {cs:List Cz} {k:Nat} (hk:k<cs.length):cs.getD k Cz.no∈cs:=by
 rw [gdq,geg hk,Option.getD_some];exact List.getElem_mem _
theorem Mr.cell {w:World} {B g mb ob mp N:Nat} {os:List Wd} {ns:LIn} {L:List St} {cs cs':List Cz} {cb cc k i:Nat} {u:Value} {x:Cz} (h:Mr w B g mb ob mp N os ns L cs (.slice (some ⟨cb,0,none⟩) cs.length cc)) (he:cs'=cs.set k x)
 (hc:eG cs'=(eG cs).set i u) (hx:Cx (w.setCell ⟨cb,i,none⟩ u) B mb ob mp x):Mr (w.setCell ⟨cb,i,none⟩ u) B g mb ob mp N os ns L cs' (.slice (some ⟨cb,0,none⟩) cs.length cc):=by
 obtain ⟨n1,n2,n3⟩:=h.ne;obtain ⟨l1,l2,l3,l4⟩:=h.lt;have hcb:=(h.row.lt cb rfl).1;have hg:=dC w ⟨cb,i,none⟩ u;have hl:cs'.length=cs.length:=by rw [he,List.length_set]
 refine h.step hg (fun r e=>by simp only [sij] at e;exact .inr (.inr (.inr (by rw [<-e];rfl)))) (h.boxKept hg (by simp only [ne_eq,sij];omega)) (h.of.kept hg (.inr (by simp only [Value.ownBlock,ne_eq,sij];omega))) h.ofw (h.map.kept hg (by simp only [ne_eq,sij];omega)) ?_ (fun y hy=>?_)
 ·rw [hl,hc];exact (h.row.stored i u).1
 ·rw [he] at hy;rcases List.mem_or_eq_of_mem_set hy with hy|rfl
  ·exact .inl hy
  ·exact .inr hx
theorem Mr.long {w:World} {B g mb ob mp N:Nat} {os:List Wd} {ns:LIn} {L:List St} {cs:List Cz} {cb cc k:Nat} {x:Cz} (h:Mr w B g mb ob mp N os ns L cs (.slice (some ⟨cb,0,none⟩) cs.length cc)) (hk:k<cs.length) (hx:cs.getD k Cz.no=x) (m:Nat) (hm:m<=1000) :
 Mr (w.setCell ⟨cb,k*5+1,none⟩ (.int .i64 (m:Int))) B g mb ob mp N os ns L (cs.set k { x with long:=m }) (.slice (some ⟨cb,0,none⟩) cs.length cc):=by
 refine h.cell (k:=k) rfl (ajA hk hx m) ?_;have hc:=(h.each x (by rw [<-hx];exact nu hk)).kept h (dC w ⟨cb,k*5+1,none⟩ (.int .i64 (m:Int))) (fun r e=>by simp only [sij] at e;exact .inr (.inr (.inr (by rw [<-e];rfl))));exact ⟨hc.first,hc.far,hm,hc.arcs,hc.wfs⟩
theorem Mr.first {w:World} {B g mb ob mp N:Nat} {os:List Wd} {ns:LIn} {L:List St} {cs:List Cz} {cb cc k:Nat} {x:Cz} (h:Mr w B g mb ob mp N os ns L cs (.slice (some ⟨cb,0,none⟩) cs.length cc)) (hk:k<cs.length) (hx:cs.getD k Cz.no=x) (a:OAd) (n c:Nat) (z:LIn)
 (hs:Sl .i64 w a n c z) (hf:∀b off,a=some ⟨b,off,none⟩->Far B mb ob mp b) :
 Mr (w.setCell ⟨cb,k*5+2,none⟩ (.slice a n c)) B g mb ob mp N os ns L (cs.set k { x with fa:=a,fn:=n,fc:=c,first:=z }) (.slice (some ⟨cb,0,none⟩) cs.length cc):=by
 refine h.cell (k:=k) rfl (ajB hk hx a n c z) ?_;have hm:Mine mb ob mp (.slice (some ⟨cb,0,none⟩) cs.length cc) (some cb):=fun r e=>by simp only [sij] at e;exact .inr (.inr (.inr (by rw [<-e];rfl)))
 have hg:=dC w ⟨cb,k*5+2,none⟩ (.slice a n c);have hc:=(h.each x (by rw [<-hx];exact nu hk)).kept h hg hm;exact ⟨hs.kept hg (fun b off e=>h.own hm (hf b off e)),hf,hc.long,hc.arcs,hc.wfs⟩
theorem Mr.drew {w:World} {B g mb ob mp N:Nat} {os:List Wd} {ns:LIn} {L:List St} {cs:List Cz} {v:Value} (h:Mr w B g mb ob mp N os ns L cs v) (q:Nat):Mr (w.drewN q) B g mb ob mp N os ns L cs v:=h.below (aG (Below.refl _ w) ⟨q,rfl⟩)
end
section
open Go.RowKit Go.Maps Tri Daw

theorem Yc {f:Bool} {l:List (Int × Int)} (h:kG ⟨f,l⟩):∀y∈l,(Lit.int .i64 y.1).wf=true/\(Lit.int .i64 y.2).wf=true:=by
 intro y hy;obtain ⟨h1,h2,h3⟩:=h y hy;have:=(Utf.lX _).1 h1;refine ⟨?_,?_⟩<;>(apply WalkArith.wf_i64<;>omega)
theorem Yd {w wd w5:World} {B g mb ob mp N gl n cap m:Nat} {os:List Wd} {ns:LIn} {L:List St} {cs:List Cz} {v:Value} {fin:Bool} {a:OAd} {l:List Value} (hM:Mr w B g mb ob mp N os ns L cs v) (hyb:Below w.heap.size w wd) (hb5:Below wd.heap.size wd w5)
 (hx5:w5.heap[w.heap.size]?=some (.cells #[.bool fin,.slice a n cap] 58 (0,0))) (hown:w5.ownsRow wd.heap.size 95 2 (.slice (some ⟨gl,0,none⟩) m m) m l) (hgl:wd.heap.size<=gl) (hbx:w.heap.size<wd.heap.size) :
 Mr ((w5.setCell ⟨w.heap.size,0,none⟩ (.bool fin)).setCell ⟨w.heap.size,1,none⟩ (.slice (some ⟨gl,0,none⟩) m m)) B g mb ob mp N os ns L cs v /\
 ((w5.setCell ⟨w.heap.size,0,none⟩ (.bool fin)).setCell ⟨w.heap.size,1,none⟩ (.slice (some ⟨gl,0,none⟩) m m)).heap[w.heap.size]?=some (.cells #[.bool fin,.slice (some ⟨gl,0,none⟩) m m] 58 (0,0)) /\
 ((w5.setCell ⟨w.heap.size,0,none⟩ (.bool fin)).setCell ⟨w.heap.size,1,none⟩ (.slice (some ⟨gl,0,none⟩) m m)).ownsRow w.heap.size 95 2 (.slice (some ⟨gl,0,none⟩) m m) m l/\w.heap.size<gl /\
 cB B mb ob mp w ((w5.setCell ⟨w.heap.size,0,none⟩ (.bool fin)).setCell ⟨w.heap.size,1,none⟩ (.slice (some ⟨gl,0,none⟩) m m)):=by
 have hb:Below w.heap.size w ((w5.setCell ⟨w.heap.size,0,none⟩ (.bool fin)).setCell ⟨w.heap.size,1,none⟩ (.slice (some ⟨gl,0,none⟩) m m)):=((hyb.trans (hb5.mono hyb.size)).setCell (p:=⟨w.heap.size,0,none⟩) lrf _).setCell (p:=⟨w.heap.size,1,none⟩) lrf _;refine ⟨hM.below hb,?_,?_,by omega,cB.grown (uL hb) hM.lt.2.2.2 (fun r e=>by cases e)⟩
 ·rw [heap_setCell_same _ _ _ _ _ _ (heap_setCell_same _ _ _ _ _ _ hx5)];rfl
 ·refine ((Joins.ownsRow_le hown omg).kept (dC _ _ _) (.inr ?_)).kept (dC _ _ _) (.inr ?_)<;>(simp only [Value.ownBlock,ne_eq,sij];omega)

theorem aky:(Tryz.prog.info? 158).map (fun i=>(i.zero,i.size,i.bytes))=some (some (.agg #[.int .i64 0,.int .i64 0,.slice none 0 0,.bool false,.slice none 0 0]),5,72):=krf
theorem akz (cs:List Cz):∀u∈eG cs,u.oneCell'=true:=by
 intro u hu;simp only [eG,List.mem_flatMap] at hu;obtain ⟨x,_,hu⟩:=hu;simp only [Cz.cells,List.mem_cons,List.not_mem_nil,or_false] at hu;rcases hu with rfl|rfl|rfl|rfl|rfl<;>rfl
theorem akA {w:World} {g:Nat} {x:Cz} {t:TypeId} {cs:Array Value} (h:w.heap[g]?=some (.cells cs t (0,0))) (hc:cs.toList=x.cells):∀j u,(eG [x])[j]?=some u->w.cell? ((⟨g,0,none⟩:Addr).add j)=some u:=by
 intro j u hj;have e:eG [x]=cs.toList:=by rw [hc];simp [eG]
 rw [e] at hj;have hadd:(⟨g,0,none⟩:Addr).add j=⟨g,j,none⟩:=by simp [Addr.add];exact fun h=>h.symm
 rw [hadd,af h,<-Array.getElem?_toList];exact hj
theorem Ye {w:World} {ops:Array Oper} {o:Oper} {act:Act} {K:Act->World->Prop} {Q:Exit->Act->World->Prop} {E:Prop} (hw:Region.wanted o (yielded ops act.tmps)=true) (x:Operand) (kk:Nat) (bo:OAd) (bl bk:Nat) (fin:Bool) (sa:OAd) (sn sc:Nat)
 (ho:o.op=.buildSlice 102 1 #[(0,x)]) (hx:act.eval x=.agg #[.int .i64 (kk:Int),.int .i64 0,.slice bo bl bk,.bool fin,.slice sa sn sc]) (h:∀g w',w'.heap[g]?=some (.cells #[.int .i64 (kk:Int),.int .i64 0,.slice bo bl bk,.bool fin,.slice sa sn sc] 158 (0,0))->Below w.heap.size w w'->K (act.put o.dst (.slice (some ⟨g,0,none⟩) 1 1)) w') :
 if Region.wanted o (yielded ops act.tmps)=true then o.wp Tryz.prog act w K Q else E:=by
 rw [if_pos hw];unfold Oper.wp;simp only [execOp,ho,List.map_toArray,List.map_cons,List.map_nil,hx];go_simp;exact h _ _ (han w _) ((Below.refl _ w).alloc lrf _)
theorem Yf {w:World} {ops:Array Oper} {o:Oper} {act:Act} {K:Act->World->Prop} {Q:Exit->Act->World->Prop} {E:Prop} (hw:Region.wanted o (yielded ops act.tmps)=true) (s x:Operand)
 (ho:o.op=.call { callee:=.builtin .append,args:=#[s,x],argTypes:=#[102,102] }) (base:Nat) (v:Value) (n:Nat) (cs:List Cz) (hs:act.eval s=v)
 (hown:w.ownsRow base 158 5 v n (eG cs)) (g:Nat) (y:Cz) (hx:act.eval x=.slice (some ⟨g,0,none⟩) 1 1) (hc:w.heap[g]?=some (.cells #[.int .i64 (y.num:Int),.int .i64 (y.long:Int),.slice y.fa y.fn y.fc,.bool y.st.fin,.slice y.st.a y.st.n y.st.cap] 158 (0,0)))
 (N:Nat) (hN:n+1=N) (h63:N*72<=140737488355328) (hbase:base<=w.heap.size)
 (h:∀a' c' w',w'.ownsRow base 158 5 (.slice a' N c') N (eG (cs++[y]))->w.grownBy w' v.ownBlock->K (act.put o.dst (.slice a' N c')) w') :
 if Region.wanted o (yielded ops act.tmps)=true then o.wp Tryz.prog act w K Q else E:=by
 subst hN;rw [if_pos hw];refine yj s x 102 158 ho _ 5 72 Tryz.underlying102 aky rfl omg base v n (eG cs) hs hown (some ⟨g,0,none⟩) 1 1 (eG [y]) hx (by rw [OJ];rfl) (fun _=>⟨_,rfl,akA hc rfl⟩) (akz [y]) (by unfold maxLen;omega) omg hbase ?_;intro a' c' w' h1 _ h3 _;exact h a' c' w' (by rw [ajz];exact h1) h3
theorem Pb {w:World} {B cb n cc k:Nat} {cs:List Cz} {x:Cz} (h:w.ownsRow B 158 5 (.slice (some ⟨cb,0,none⟩) n cc) n (eG cs)) (hk:k<cs.length) (hx:cs.getD k Cz.no=x) {j:Nat} (hj:j<5):w.cell? ⟨cb,k*5+j,none⟩=x.cells[j]?:=by
 have hl:=h.1;rw [OJ] at hl;rw [h.cellAt (k*5+j) omg,OL cs k j hk hj,hx]
theorem Yg {w wB wA:World} {B g mb ob mp N:Nat} {os:List Wd} {ns:LIn} {L:List St} {cs:List Cz} {v v':Value} {x:Cz} (h:Mr w B g mb ob mp N os ns L cs v) (hb:Below w.heap.size w wB) (hg:wB.grownBy wA v.ownBlock) (hrow:wA.ownsRow B 158 5 v' (cs.length+1) (eG (cs++[x]))) (hx:Cx w B mb ob mp x) :
 Mr (wA.setCell ⟨mb,3,none⟩ v') B g mb ob mp N os ns L (cs++[x]) v'/\cB B mb ob mp w (wA.setCell ⟨mb,3,none⟩ v'):=by
 have hB:=h.below hb;refine ⟨hB.app hg hrow (hx.kept h (uL hb) (fun r e=>by cases e)),(cB.grown (uL hb) h.lt.2.2.2 (fun r e=>by cases e)).trans ((cB.grown hg hB.lt.2.2.2 (fun r e=>.inr (.inr (.inr (hB.row.lt r e).1)))).trans (cB.grown (dC _ _ _) ?_ (fun r e=>by simp only [sij] at e;omega)))⟩;have:=hB.lt;have:=hg.size;omega
def Cz.take (x:Cz) (b:Wd):Cz:=if lessL b.zs x.first=true then { x with long:=max x.long b.n,fa:=b.a,fn:=b.n,fc:=b.cap,first:=b.zs } else { x with long:=max x.long b.n }
theorem Cz.take_num (x:Cz) (b:Wd):(x.take b).num=x.num:=by unfold Cz.take;split<;>rfl
theorem Cz.take_long (x:Cz) (b:Wd):(x.take b).long=max x.long b.n:=by unfold Cz.take;split<;>rfl
theorem Cz.take_first (x:Cz) (b:Wd):(x.take b).first=if lessL b.zs x.first=true then b.zs else x.first:=by unfold Cz.take;split<;>rfl
theorem Cz.take_st (x:Cz) (b:Wd):(x.take b).st=x.st:=by unfold Cz.take;split<;>rfl
theorem Cz.take_fa (x:Cz) (b:Wd):(x.take b).fa=b.a\/(x.take b).fa=x.fa:=by unfold Cz.take;split<;>simp
theorem Pd {w w':World} {B g mb ob mp N cb cc k q:Nat} {os:List Wd} {ns:LIn} {L:List St} {cs:List Cz} {cZ xl xn xc bl bk:Nat} {xa bo:OAd} {xf bz:LIn} {pF:Sw} (h:Mr w B g mb ob mp N os ns L cs (.slice (some ⟨cb,0,none⟩) cs.length cc)) (hk:k<cs.length) (hx:cs.getD k Cz.no=⟨cZ,xl,xa,xn,xc,xf,pF⟩)
 (hs:Sl .i64 w bo bl bk bz) (hf:∀b off,bo=some ⟨b,off,none⟩->Far B mb ob mp b) (hbl:bl<=1000)
 (hw:w'=if lessL bz xf=true then ((w.setCell ⟨cb,k*5+1,none⟩ (.int .i64 ((max xl bl:Nat):Int))).drewN q).setCell ⟨cb,k*5+2,none⟩ (.slice bo bl bk) else (w.setCell ⟨cb,k*5+1,none⟩ (.int .i64 ((max xl bl:Nat):Int))).drewN q) :
 Mr w' B g mb ob mp N os ns L (cs.set k (Cz.take ⟨cZ,xl,xa,xn,xc,xf,pF⟩ ⟨bo,bl,bk,bz⟩)) (.slice (some ⟨cb,0,none⟩) cs.length cc)/\cB B mb ob mp w w':=by
 have hxl:xl<=1000:=by
  have:=(h.each _ (nu hk)).long;rw [hx] at this;exact this
 have hcb:B<=cb:=(h.row.lt cb rfl).1;have hm:Mine mb ob mp (.slice (some ⟨cb,0,none⟩) cs.length cc) (some cb):=fun r e=>by simp only [sij] at e;exact .inr (.inr (.inr (by rw [<-e];rfl)))
 have h1:=(h.long hk hx (max xl bl) omg).drew q;have g1:=dC w ⟨cb,k*5+1,none⟩ (.int .i64 ((max xl bl:Nat):Int));have k1:cB B mb ob mp w ((w.setCell ⟨cb,k*5+1,none⟩ (.int .i64 ((max xl bl:Nat):Int))).drewN q):=(cB.grown g1 h.lt.2.2.2 (fun r e=>by simp only [sij] at e;omega)).trans (cB.grown (uL (aG (Below.refl _ _) ⟨q,rfl⟩)) (by have:=g1.size;have:=h.lt;omega) (fun r e=>by cases e));by_cases hl:lessL bz xf=true
 ·rw [if_pos hl] at hw;subst hw;have hk2:k<(cs.set k { (⟨cZ,xl,xa,xn,xc,xf,pF⟩:Cz) with long:=max xl bl }).length:=by rw [List.length_set];exact hk
  have hsl:Sl .i64 ((w.setCell ⟨cb,k*5+1,none⟩ (.int .i64 ((max xl bl:Nat):Int))).drewN q) bo bl bk bz:=Sl.below (hs.kept g1 (fun b off e=>h.own hm (hf b off e))) (aG (Below.refl _ _) ⟨q,rfl⟩) lrf;have hlen:(cs.set k { (⟨cZ,xl,xa,xn,xc,xf,pF⟩:Cz) with long:=max xl bl }).length=cs.length:=List.length_set;have h1':Mr ((w.setCell ⟨cb,k*5+1,none⟩ (.int .i64 ((max xl bl:Nat):Int))).drewN q) B g mb ob mp N os ns L (cs.set k { (⟨cZ,xl,xa,xn,xc,xf,pF⟩:Cz) with long:=max xl bl }) (.slice (some ⟨cb,0,none⟩) (cs.set k { (⟨cZ,xl,xa,xn,xc,xf,pF⟩:Cz) with long:=max xl bl }).length cc):=by rw [hlen];exact h1
  have h2:=h1'.first hk2 (x:={ (⟨cZ,xl,xa,xn,xc,xf,pF⟩:Cz) with long:=max xl bl }) (by simp [hk]) bo bl bk bz hsl hf
  rw [hlen,List.set_set] at h2;refine ⟨?_,k1.trans (cB.grown (dC _ ⟨cb,k*5+2,none⟩ (.slice bo bl bk)) (by have:=k1.size;have:=h.lt;omega) (fun r e=>by simp only [sij] at e;omega))⟩;have e:Cz.take ⟨cZ,xl,xa,xn,xc,xf,pF⟩ ⟨bo,bl,bk,bz⟩={ ({ (⟨cZ,xl,xa,xn,xc,xf,pF⟩:Cz) with long:=max xl bl }:Cz) with fa:=bo,fn:=bl,fc:=bk,first:=bz }:=by unfold Cz.take;simp only [];rw [if_pos hl]
  rw [e];exact h2
 ·rw [if_neg hl] at hw;subst hw;have e:Cz.take ⟨cZ,xl,xa,xn,xc,xf,pF⟩ ⟨bo,bl,bk,bz⟩={ (⟨cZ,xl,xa,xn,xc,xf,pF⟩:Cz) with long:=max xl bl }:=by unfold Cz.take;simp only [];rw [if_neg hl]
  exact ⟨by rw [e];exact h1,k1⟩

theorem akB (B g mb ob mp N at':Nat) (os:List Wd) (ns:LIn) (L:List St) (cs:List Cz) (v:Value) (x:Sw) (P:Int->Int) (w:World) (h:Mr w B g mb ob mp N os ns L cs v) (hat:at'<N) (hlen:os.length=N/\ns.length=N/\cs.length=L.length) (_hN:N<=6001)
 (hx:x.Good w) (hto:∀a∈x.arcs,0<=a.2/\a.2<(N:Int)/\ns.getD a.2.toNat 0=P a.2) (hbig:x.n<=2000000) (hnm:kG ⟨x.fin,x.arcs.map fun a=>(a.1,P a.2)⟩) (hL7:L.length<=7000) (hshort:∀y∈os,y.n<=1000) (hmem:(⟨x.fin,x.arcs.map fun a=>(a.1,P a.2)⟩:St)∈L) :
 Calls Tryz.prog 68 #[.pointer (some ⟨mb,0,none⟩),.int .i64 (at':Int),.agg #[.bool x.fin,.slice x.a x.n x.cap]] w fun e w'=>e=.returned (.tuple #[])/\∃k v' c',k<L.length/\L.getD k St.no=⟨x.fin,x.arcs.map fun a=>(a.1,P a.2)⟩/\Mr w' B g mb ob mp N os (ns.set at' (k:Int)) L (cs.set k c') v'/\(c'.num=(cs.getD k Cz.no).num/\c'.long=max (cs.getD k Cz.no).long (os.getD at' Wd.no).n/\c'.first=(if lessL (os.getD at' Wd.no).zs (cs.getD k Cz.no).first=true then (os.getD at' Wd.no).zs else (cs.getD k Cz.no).first)/\c'.st=(cs.getD k Cz.no).st/\(c'.fa=(os.getD at' Wd.no).a\/c'.fa=(cs.getD k Cz.no).fa))/\cB B mb ob mp w w':=by
 obtain ⟨fin,a,n,cap,arcs⟩:=x;simp only [Sw.Good] at hx hto hbig hnm hmem ⊢;obtain ⟨ca,cc,rfl,hcn⟩:=qI h.row;obtain ⟨hl1,hl2,hl3⟩:=hlen;have uu:Hid (ns.length=N):=hdq hl2;have jT:Hid (cs.length=L.length):=hdq hl3;have Gi:Hid (os.length=N):=hdq hl1;have jI:=hdq h;have qD:=hdq hto;have Gj:Hid (n<=2000000):=hdq hbig;have uq:=hdq hnm;have RF:=hdq hmem;have KX:=hdq hL7;have dP:=hdq hshort;have KY:Hid (∀y∈arcs.map (fun a=>(a.1,P a.2)),(Lit.int .i64 y.1).wf=true/\(Lit.int .i64 y.2).wf=true):=hdq (Yc hnm);have HLEN:Hid ((arcs.map fun a=>(a.1,P a.2)).length=n):=hdq (by rw [List.length_map];exact hx.1);have HX:=hdq hx;have gq:Hid (Tryz.prog.follows .mixedOrders=true):=by show _=_;kernel_rfl
 have hms:mb<w.heap.size:=by have:=h.lt;omega
 have hcl:cs.length<=7000:=omg;clear h hx hto hbig hnm hmem hL7 hshort hl1 hl2 hl3;go_enter Tryz.func68,Tryz.ntmps68;go_wp2_with fail;generalize Aa:World.alloc w _=wy;have nM:Below w.heap.size w wy:=by rw [<-Aa];exact (Below.refl _ w).alloc lrf _
 have hxo:wy.heap[w.heap.size]?=some (.cells #[.bool fin,.slice a n cap] 58 (0,0)):=by rw [<-Aa];exact han w _
 have hyb:Below w.heap.size w wy.drew:=aG nM ⟨1,rfl⟩;have Gl:=hdq hyb;have df:=hdq (jI.out.below hyb);have tJ:Hid (Sw.Good wy.drew ⟨fin,a,n,cap,arcs⟩):=hdq (Ars.below HX.out hyb lrf);have Gm:Hid (Sl .i64 wy.drew (some ⟨ob,0,none⟩) N N ns):=hdq (Sl.of_owns df.out.of df.out.ofw uu.out);have pG:wy.drew.heap[w.heap.size]?=some (.cells #[.bool fin,.slice a n cap] 58 (0,0)):=hxo;have RG:wy.drew.cell? ⟨w.heap.size,0,none⟩=some (.bool fin):=by rw [af pG];rfl
 have RH:wy.drew.cell? ⟨w.heap.size,1,none⟩=some (.slice a n cap):=by rw [af pG];rfl
 have RI:wy.drew.cell? ⟨mb,1,none⟩=some (.slice (some ⟨ob,0,none⟩) N N):=by rw [af df.out.box];rfl
 have aH:Hid (∀W,Below wy.drew.heap.size wy.drew W->W.cell? ⟨mb,1,none⟩=some (.slice (some ⟨ob,0,none⟩) N N)):=hdq (fun W hW=>by rw [af (df.out.below hW).box];rfl)
 have Gn:Hid (∀W,Below wy.drew.heap.size wy.drew W->W.heap[w.heap.size]?=some (.cells #[.bool fin,.slice a n cap] 58 (0,0))/\∀j,W.frozen? ⟨w.heap.size,j,none⟩=false):=hdq (fun W hW=>by
  have h1:=(hW.block w.heap.size (hltq pG)).trans pG
  exact ⟨h1,fun j=>frozen_of_row W _ j _ _ h1⟩)
 have oU:Hid (∀W,Below wy.drew.heap.size wy.drew W->∀u u',((W.setCell ⟨w.heap.size,0,none⟩ u).setCell ⟨w.heap.size,1,none⟩ u').cell? ⟨mb,1,none⟩=some (.slice (some ⟨ob,0,none⟩) N N)):=hdq (fun W hW u u'=>by
  refine (World.cell?_setCell_other (w:=W.setCell ⟨w.heap.size,0,none⟩ u) (a:=⟨w.heap.size,1,none⟩) (b:=⟨mb,1,none⟩) (v:=u') ?_).trans ((World.cell?_setCell_other (w:=W) (a:=⟨w.heap.size,0,none⟩) (b:=⟨mb,1,none⟩) (v:=u) ?_).trans (aH.out W hW))
  ·intro e;simp only [Addr.mk.injEq] at e;omega
  ·intro e;simp only [Addr.mk.injEq] at e;omega)
 have hmx:=gq.out;have aN:Hid (w.heap.size<wy.drew.heap.size):=hdq (hltq pG);clear Aa nM hyb hxo pG;refine wp_region_held_drew (S:=(fun W=>W.cell? ⟨mb,1,none⟩=some (.slice (some ⟨ob,0,none⟩) N N))) krf (by first|((first|exact aK|exact hS5|exact aH.out _ (Below.refl _ _)))|((try dsimp only);(first|exact aK|exact hS5|exact aH.out _ (Below.refl _ _)))) (fun hHeld=>?_);refine t_h 1 ?_;refine t_h 2 ?_;refine t_h 3 ?_;refine t_h 4 ?_;refine r_h 0 (fun K hK=>?_);go_simp;refine k_h hK (by (try dsimp only);(first|exact aK|exact hS5|exact aH.out _ (Below.refl _ _))) (fun hHeld=>?_);clear hK K;refine r_h 5 (fun K hK=>?_);go_simp;go_at_call 113;refine (OU ⟨fin,a,n,cap,arcs⟩ (some ⟨ob,0,none⟩) N N ns P _ tJ.out Gm.out qD.out Gj.out).mono ?_;rintro e w5 ⟨gl,rfl,hgl,hown5,hb5⟩;have hS5:=aH.out w5 hb5;obtain ⟨hx5,RJ⟩:=Gn.out w5 hb5;have RL:w5.cell? ⟨w.heap.size,0,none⟩=some (.bool fin):=by rw [af hx5];rfl
 have c15:w5.cell? ⟨w.heap.size,1,none⟩=some (.slice a n cap):=by rw [af hx5];rfl
 have aK:=oU.out w5 hb5 (.bool fin) (.slice (some ⟨gl,0,none⟩) n n);go_wp2_with fail;refine k_h hK (by (try dsimp only);(first|exact aK|exact hS5|exact aH.out _ (Below.refl _ _))) (fun hHeld=>?_);clear hK K;refine r_h 6 (fun K hK=>?_);go_simp;refine k_h hK (by (try dsimp only);(first|exact aK|exact hS5|exact aH.out _ (Below.refl _ _))) (fun hHeld=>?_);clear hK K;refine wpAnyH_done krf ?_ _;have bC:=hdq (Yd jI.out Gl.out hb5 hx5 hown5 hgl aN.out);clear hS5 aK RL c15 hx5 RJ hown5 hb5 hHeld;generalize World.setCell (World.setCell w5 _ _) _ _=w6 at bC ⊢;clear tJ Gm Gn aH oU df Gl RG RH RI;obtain ⟨bw,hbw⟩:∃bw,os.getD at' Wd.no=bw:=⟨_,rfl⟩;obtain ⟨bo,bl,bk,bz⟩:=bw;have ai:=hdq hbw;have RN:w6.cell? ⟨mb,0,none⟩=some (.slice (some ⟨g,0,none⟩) N N):=by rw [af bC.out.1.box];rfl
 have RO:w6.cell? ⟨g,at',none⟩=some (.slice bo bl bk):=by rw [bC.out.1.begs at' hat,hbw];rfl
 have apx:(at':Int)<(N:Int):=omg;clear hbw;go_wp2_with fail;have pI:Hid (Mr w6.drew B g mb ob mp N os ns L cs (.slice ca cs.length cc)):=hdq (bC.out.1.drew 1);have iH:Hid (w6.drew.heap[w.heap.size]?=some (.cells #[.bool fin,.slice (some ⟨gl,0,none⟩) n n] 58 (0,0))):=hdq bC.out.2.1;have HAD:Hid (w6.drew.ownsRow w.heap.size 95 2 (.slice (some ⟨gl,0,none⟩) n n) n (aL (arcs.map fun a=>(a.1,P a.2)))):=hdq (ownsRow_below bC.out.2.2.1 (aG (Below.refl _ w6) ⟨1,rfl⟩) lrf);have gu:Hid (cB B mb ob mp w w6.drew):=hdq (bC.out.2.2.2.2.trans (cB.grown (uL (aG (Below.refl _ w6) ⟨1,rfl⟩)) bC.out.1.lt.2.2.2 (fun r e=>by cases e)));have bU:Hid (w6.drew.cell? ⟨mb,2,none⟩=some (.map (some mp))/\w6.drew.cell? ⟨w.heap.size,0,none⟩=some (.bool fin)/\w6.drew.cell? ⟨w.heap.size,1,none⟩=some (.slice (some ⟨gl,0,none⟩) n n)):=hdq ⟨by rw [af pI.out.box];rfl,by rw [af iH.out];rfl,by rw [af iH.out];rfl⟩;have vM:Hid (some mb≠(some mp:Option Nat)/\some w.heap.size≠(some mp:Option Nat)):=hdq ⟨by have:=pI.out.ne;simp only [ne_eq,sij];omega,by have:=jI.out.lt;simp only [ne_eq,sij];omega⟩;have mE:Hid (w.heap.size<gl):=hdq bC.out.2.2.2.1;have jV:Hid (Sw.Good w6.drew ⟨fin,some ⟨gl,0,none⟩,n,n,arcs.map fun a=>(a.1,P a.2)⟩):=hdq (Ars.of_owns HAD.out KY.out HLEN.out);have hmx:=gq.out;clear RN RO bC;refine wp_region_held_drew (S:=(fun W=>W.cell? ⟨mb,2,none⟩=some (.map (some mp))/\W.cell? ⟨w.heap.size,0,none⟩=some (.bool fin)/\W.cell? ⟨w.heap.size,1,none⟩=some (.slice (some ⟨gl,0,none⟩) n n))) krf (by first|((first|exact bP|exact bU.out))|((try dsimp only);(first|exact bP|exact bU.out))) (fun hHeld=>?_);refine wpAnyH_take (i:=0) (v:=?apy) rfl krf krf krf (fun _ _ _ h=>h) (Or.inl ⟨by rfl,?RP⟩) (by assumption) ?apz
 case RP=>intro w hSw;(try dsimp only at hSw);go_simp;try with_reducible rfl
 simp only [Act.put,List.getElem_toArray,List.getElem_cons_zero,List.setIfInBounds_toArray,List.set_cons_succ,List.set_cons_zero];refine t_h 1 ?_;refine wpAnyH_take (i:=2) (v:=?apA) rfl krf krf krf (fun _ _ _ h=>h) (Or.inl ⟨by rfl,?RQ⟩) (by assumption) ?apB
 case RQ=>intro w hSw;(try dsimp only at hSw);go_simp;try with_reducible rfl
 simp only [Act.put,List.getElem_toArray,List.setIfInBounds_toArray];refine wpAnyH_take (i:=3) (v:=?apC) rfl krf krf krf (fun _ _ _ h=>h) (Or.inl ⟨by rfl,?RS⟩) (by assumption) ?apD
 case RS=>intro w hSw;(try dsimp only at hSw);go_simp;try with_reducible rfl
 simp only [Act.put,List.getElem_toArray];refine wpAnyH_take (i:=4) (v:=?apE) rfl krf krf krf (fun _ _ _ h=>h) (Or.inl ⟨by rfl,?RU⟩) (by assumption) ?apF
 case RU=>intro w hSw;(try dsimp only at hSw);go_simp;try with_reducible rfl
 simp only [Act.put,List.getElem_toArray];refine r_h 5 (fun K hK=>?_);go_simp;go_at_call 114;refine (ako mp L (⟨fin,some ⟨gl,0,none⟩,n,n,List.map (fun y:Int × Int=>((y.1,P y.2):Int × Int)) arcs⟩:Sw) _ pI.out.map jV.out uq.out Gj.out RF.out).mono ?_;rintro e w8 ⟨kk,rfl,hkk,hLk,Gp,gH⟩;have bP:=And.intro (gH.cell bU.out.1 vM.out.1) (And.intro (gH.cell bU.out.2.1 vM.out.2) (gH.cell bU.out.2.2 vM.out.2));go_wp2_with fail;refine k_h hK (by (try dsimp only);(first|exact bP|exact bU.out)) (fun hHeld=>?_);clear hK K;refine t_h 6 ?_;refine wpAnyH_done krf ?_ _;have iC:=hdq (pI.out.name gH Gp);have RV:Hid (w8.heap[w.heap.size]?=some (.cells #[.bool fin,.slice (some ⟨gl,0,none⟩) n n] 58 (0,0))):=hdq ((gH.block _ (hltq iH.out) vM.out.2).trans iH.out);have RX:=hdq (HAD.out.kept gH (.inr (by have:=jI.out.lt;have:=mE.out;simp only [Value.ownBlock,ne_eq,sij];omega)));have kz:Hid (cB B mb ob mp w w8):=hdq (gu.out.trans (cB.grown gH pI.out.lt.2.2.2 (fun r e=>by simp only [sij] at e;omega)));have KZ:(Lit.int .i64 (kk:Int)).wf=true:=by have:=KX.out;apply WalkArith.wf_i64<;>omega
 have aJ:=hdq (iC.out.put (at':=at') (kk:Int) KZ);have aaN:w8.cell? ⟨ob,at',none⟩=some (.int .i64 (ns.getD at' 0)):=by rw [iC.out.of.cellAt at' omg];simp [ay,uu.out,hat]
 have aaO:w8.frozen? ⟨ob,at',none⟩=false:=iC.out.of.frozenAt _;have hm18:w8.cell? ⟨mb,1,none⟩=some (.slice (some ⟨ob,0,none⟩) N N):=by rw [af iC.out.box];rfl
 have RY:(w8.setCell ⟨ob,at',none⟩ (.int .i64 (kk:Int))).cell? ⟨mb,3,none⟩=some (.slice ca cs.length cc):=by rw [af aJ.out.box];rfl
 have lM:Hid (cB B mb ob mp w (w8.setCell ⟨ob,at',none⟩ (.int .i64 (kk:Int)))):=hdq (kz.out.trans (cB.grown (dC w8 ⟨ob,at',none⟩ _) iC.out.lt.2.2.2 (fun r e=>by simp only [sij] at e;omega)));clear hHeld bP gH Gp pI iH HAD gu bU jV iC kz
 have hne:((kk:Int)==(cs.length:Int))=false:=by
  have h1:=hkk;rw [<-jT.out] at h1;simp;omega
 have hpos:0<cs.length:=by have:=jT.out;omega
 obtain ⟨cb,rfl⟩:=nY aJ.out.row hpos;obtain ⟨xt,hxt⟩:∃xt,cs.getD kk Cz.no=xt:=⟨_,rfl⟩;have jW:=hdq hxt;obtain ⟨cZ,xl,xa,xn,xc,xf,pF⟩:=xt;have mQ:Hid (kk<cs.length):=hdq (by have:=jT.out;omega);have Gq:=mQ;have dJ:=aJ;have rR:=hdq (And.intro hkk hLk);have iI:(⟨bo,bl,bk,bz⟩:Wd)∈os:=by rw [<-ai.out,gdq,geg (by rw [Gi.out];exact hat),Option.getD_some];exact List.getElem_mem _
 have sD:Hid (∀b off,bo=some ⟨b,off,none⟩->Far B mb ob mp b):=hdq (dJ.out.far _ iI);have bM:Hid (Sl .i64 (w8.setCell ⟨ob,at',none⟩ (.int .i64 (kk:Int))) bo bl bk bz/\(∀b off,bo=some ⟨b,off,none⟩->b≠cb)/\bl<=1000):=hdq ⟨dJ.out.words _ iI,fun b off e e'=>by have h1:=(sD.out b off e).1;have h2:=(dJ.out.row.lt cb rfl).1;omega,dP.out _ iI⟩
 have xA:Hid (∀b off,xa=some ⟨b,off,none⟩->b≠cb):=hdq (fun b off e e'=>by
  have h0:=dJ.out.each _ (nu mQ.out);rw [jW.out] at h0
  have h1:=(h0.far b off e).1;have h2:=(dJ.out.row.lt cb rfl).1;omega)
 clear iI;clear hxt hpos hkk hLk;have HC:Hid (Cx (w8.setCell ⟨ob,at',none⟩ (.int .i64 (kk:Int))) B mb ob mp ⟨cZ,xl,xa,xn,xc,xf,pF⟩):=hdq (dJ.out.each _ (by have hmm:=nu mQ.out;rw [jW.out] at hmm;exact hmm));have hcell:=fun j (hj:j<5)=>Pb dJ.out.row mQ.out jW.out hj;have hl1:(w8.setCell ⟨ob,at',none⟩ (.int .i64 (kk:Int))).cell? ⟨cb,kk*5+1,none⟩=some (.int .i64 (xl:Int)):=hcell 1 omg;have hl2:(w8.setCell ⟨ob,at',none⟩ (.int .i64 (kk:Int))).cell? ⟨cb,kk*5+2,none⟩=some (.slice xa xn xc):=hcell 2 omg;have xJ:=hdq (And.intro hl1 hl2);have aaP:(w8.setCell ⟨ob,at',none⟩ (.int .i64 (kk:Int))).cell? ⟨mb,3,none⟩=some (.slice (some ⟨cb,0,none⟩) cs.length cc):=by rw [af dJ.out.box];rfl
 have hkt:kk<cs.length:=Gq.out;have aaQ:(kk:Int)<(cs.length:Int):=omg;clear hcell hl1 hl2;go_wp2_with (go_at_call 115;refine (OM cb (kk*5) xl bo xa bl bk xn xc bz xf _ xJ.out.1 xJ.out.2 (fun j=>dJ.out.row.frozenAt j) bM.out.1 HC.out.first bM.out.2.1 xA.out HC.out.long bM.out.2.2).mono ?_;rintro e nN ⟨rfl,q,xK⟩;have HT:=hdq (Pd dJ.out mQ.out jW.out bM.out.1 sD.out bM.out.2.2 xK);clear xK);go_end0;exact ⟨rfl,kk,_,_,rR.out.1,rR.out.2,HT.out.1,⟨by rw [jW.out];exact Cz.take_num _ _,by rw [jW.out,ai.out];exact Cz.take_long _ _,by rw [jW.out,ai.out];exact Cz.take_first _ _,by rw [jW.out];exact Cz.take_st _ _,by rw [jW.out,ai.out];exact Cz.take_fa _ _⟩,lM.out.trans HT.out.2⟩

theorem akC (B g mb ob mp N at':Nat) (os:List Wd) (ns:LIn) (L:List St) (cs:List Cz) (v:Value) (x:Sw) (P:Int->Int) (w:World) (h:Mr w B g mb ob mp N os ns L cs v) (hat:at'<N) (hlen:os.length=N/\ns.length=N/\cs.length=L.length) (_hN:N<=6001)
 (hx:x.Good w) (hto:∀a∈x.arcs,0<=a.2/\a.2<(N:Int)/\ns.getD a.2.toNat 0=P a.2) (hbig:x.n<=2000000) (hnm:kG ⟨x.fin,x.arcs.map fun a=>(a.1,P a.2)⟩) (hL7:L.length<=7000) (hshort:∀y∈os,y.n<=1000) (hmem:(⟨x.fin,x.arcs.map fun a=>(a.1,P a.2)⟩:St)∉L) :
 Calls Tryz.prog 68 #[.pointer (some ⟨mb,0,none⟩),.int .i64 (at':Int),.agg #[.bool x.fin,.slice x.a x.n x.cap]] w fun e w'=>e=.returned (.tuple #[])/\∃v' c',Mr w' B g mb ob mp N os (ns.set at' (L.length:Int)) (L++[⟨x.fin,x.arcs.map fun a=>(a.1,P a.2)⟩]) (cs++[c']) v'/\(c'.num=L.length/\c'.long=(os.getD at' Wd.no).n/\c'.first=(os.getD at' Wd.no).zs/\c'.st.st=⟨x.fin,x.arcs.map fun a=>(a.1,P a.2)⟩/\c'.fa=(os.getD at' Wd.no).a)/\cB B mb ob mp w w':=by
 obtain ⟨fin,a,n,cap,arcs⟩:=x;simp only [Sw.Good] at hx hto hbig hnm hmem ⊢;obtain ⟨ca,cc,rfl,hcn⟩:=qI h.row;obtain ⟨hl1,hl2,hl3⟩:=hlen;have uu:Hid (ns.length=N):=hdq hl2;have jT:Hid (cs.length=L.length):=hdq hl3;have Gi:Hid (os.length=N):=hdq hl1;have jI:=hdq h;have qD:=hdq hto;have Gj:Hid (n<=2000000):=hdq hbig;have uq:=hdq hnm;have RF:=hdq hmem;have KX:=hdq hL7;have dP:=hdq hshort;have KY:Hid (∀y∈arcs.map (fun a=>(a.1,P a.2)),(Lit.int .i64 y.1).wf=true/\(Lit.int .i64 y.2).wf=true):=hdq (Yc hnm);have HLEN:Hid ((arcs.map fun a=>(a.1,P a.2)).length=n):=hdq (by rw [List.length_map];exact hx.1);have HX:=hdq hx;have gq:Hid (Tryz.prog.follows .mixedOrders=true):=by show _=_;kernel_rfl
 have hms:mb<w.heap.size:=by have:=h.lt;omega
 have hcl:cs.length<=7000:=omg;clear h hx hto hbig hnm hmem hL7 hshort hl1 hl2 hl3;go_enter Tryz.func68,Tryz.ntmps68;go_wp2_with fail;generalize Aa:World.alloc w _=wy;have nM:Below w.heap.size w wy:=by rw [<-Aa];exact (Below.refl _ w).alloc lrf _
 have hxo:wy.heap[w.heap.size]?=some (.cells #[.bool fin,.slice a n cap] 58 (0,0)):=by rw [<-Aa];exact han w _
 have hyb:Below w.heap.size w wy.drew:=aG nM ⟨1,rfl⟩;have Gl:=hdq hyb;have df:=hdq (jI.out.below hyb);have tJ:Hid (Sw.Good wy.drew ⟨fin,a,n,cap,arcs⟩):=hdq (Ars.below HX.out hyb lrf);have Gm:Hid (Sl .i64 wy.drew (some ⟨ob,0,none⟩) N N ns):=hdq (Sl.of_owns df.out.of df.out.ofw uu.out);have pG:wy.drew.heap[w.heap.size]?=some (.cells #[.bool fin,.slice a n cap] 58 (0,0)):=hxo;have RG:wy.drew.cell? ⟨w.heap.size,0,none⟩=some (.bool fin):=by rw [af pG];rfl
 have RH:wy.drew.cell? ⟨w.heap.size,1,none⟩=some (.slice a n cap):=by rw [af pG];rfl
 have RI:wy.drew.cell? ⟨mb,1,none⟩=some (.slice (some ⟨ob,0,none⟩) N N):=by rw [af df.out.box];rfl
 have aH:Hid (∀W,Below wy.drew.heap.size wy.drew W->W.cell? ⟨mb,1,none⟩=some (.slice (some ⟨ob,0,none⟩) N N)):=hdq (fun W hW=>by rw [af (df.out.below hW).box];rfl)
 have Gn:Hid (∀W,Below wy.drew.heap.size wy.drew W->W.heap[w.heap.size]?=some (.cells #[.bool fin,.slice a n cap] 58 (0,0))/\∀j,W.frozen? ⟨w.heap.size,j,none⟩=false):=hdq (fun W hW=>by
  have h1:=(hW.block w.heap.size (hltq pG)).trans pG
  exact ⟨h1,fun j=>frozen_of_row W _ j _ _ h1⟩)
 have oU:Hid (∀W,Below wy.drew.heap.size wy.drew W->∀u u',((W.setCell ⟨w.heap.size,0,none⟩ u).setCell ⟨w.heap.size,1,none⟩ u').cell? ⟨mb,1,none⟩=some (.slice (some ⟨ob,0,none⟩) N N)):=hdq (fun W hW u u'=>by
  refine (World.cell?_setCell_other (w:=W.setCell ⟨w.heap.size,0,none⟩ u) (a:=⟨w.heap.size,1,none⟩) (b:=⟨mb,1,none⟩) (v:=u') ?_).trans ((World.cell?_setCell_other (w:=W) (a:=⟨w.heap.size,0,none⟩) (b:=⟨mb,1,none⟩) (v:=u) ?_).trans (aH.out W hW))
  ·intro e;simp only [Addr.mk.injEq] at e;omega
  ·intro e;simp only [Addr.mk.injEq] at e;omega)
 have hmx:=gq.out;have aN:Hid (w.heap.size<wy.drew.heap.size):=hdq (hltq pG);clear Aa nM hyb hxo pG;refine wp_region_held_drew (S:=(fun W=>W.cell? ⟨mb,1,none⟩=some (.slice (some ⟨ob,0,none⟩) N N))) krf (by first|((first|exact aK|exact hS5|exact aH.out _ (Below.refl _ _)))|((try dsimp only);(first|exact aK|exact hS5|exact aH.out _ (Below.refl _ _)))) (fun hHeld=>?_);refine t_h 1 ?_;refine t_h 2 ?_;refine t_h 3 ?_;refine t_h 4 ?_;refine r_h 0 (fun K hK=>?_);go_simp;refine k_h hK (by (try dsimp only);(first|exact aK|exact hS5|exact aH.out _ (Below.refl _ _))) (fun hHeld=>?_);clear hK K;refine r_h 5 (fun K hK=>?_);go_simp;go_at_call 113;refine (OU ⟨fin,a,n,cap,arcs⟩ (some ⟨ob,0,none⟩) N N ns P _ tJ.out Gm.out qD.out Gj.out).mono ?_;rintro e w5 ⟨gl,rfl,hgl,hown5,hb5⟩;have hS5:=aH.out w5 hb5;obtain ⟨hx5,RJ⟩:=Gn.out w5 hb5;have RL:w5.cell? ⟨w.heap.size,0,none⟩=some (.bool fin):=by rw [af hx5];rfl
 have c15:w5.cell? ⟨w.heap.size,1,none⟩=some (.slice a n cap):=by rw [af hx5];rfl
 have aK:=oU.out w5 hb5 (.bool fin) (.slice (some ⟨gl,0,none⟩) n n);go_wp2_with fail;refine k_h hK (by (try dsimp only);(first|exact aK|exact hS5|exact aH.out _ (Below.refl _ _))) (fun hHeld=>?_);clear hK K;refine r_h 6 (fun K hK=>?_);go_simp;refine k_h hK (by (try dsimp only);(first|exact aK|exact hS5|exact aH.out _ (Below.refl _ _))) (fun hHeld=>?_);clear hK K;refine wpAnyH_done krf ?_ _;have bC:=hdq (Yd jI.out Gl.out hb5 hx5 hown5 hgl aN.out);clear hS5 aK RL c15 hx5 RJ hown5 hb5 hHeld;generalize World.setCell (World.setCell w5 _ _) _ _=w6 at bC ⊢;clear tJ Gm Gn aH oU df Gl RG RH RI;obtain ⟨bw,hbw⟩:∃bw,os.getD at' Wd.no=bw:=⟨_,rfl⟩;obtain ⟨bo,bl,bk,bz⟩:=bw;have ai:=hdq hbw;have RN:w6.cell? ⟨mb,0,none⟩=some (.slice (some ⟨g,0,none⟩) N N):=by rw [af bC.out.1.box];rfl
 have RO:w6.cell? ⟨g,at',none⟩=some (.slice bo bl bk):=by rw [bC.out.1.begs at' hat,hbw];rfl
 have apx:(at':Int)<(N:Int):=omg;clear hbw;go_wp2_with fail;have pI:Hid (Mr w6.drew B g mb ob mp N os ns L cs (.slice ca cs.length cc)):=hdq (bC.out.1.drew 1);have iH:Hid (w6.drew.heap[w.heap.size]?=some (.cells #[.bool fin,.slice (some ⟨gl,0,none⟩) n n] 58 (0,0))):=hdq bC.out.2.1;have HAD:Hid (w6.drew.ownsRow w.heap.size 95 2 (.slice (some ⟨gl,0,none⟩) n n) n (aL (arcs.map fun a=>(a.1,P a.2)))):=hdq (ownsRow_below bC.out.2.2.1 (aG (Below.refl _ w6) ⟨1,rfl⟩) lrf);have gu:Hid (cB B mb ob mp w w6.drew):=hdq (bC.out.2.2.2.2.trans (cB.grown (uL (aG (Below.refl _ w6) ⟨1,rfl⟩)) bC.out.1.lt.2.2.2 (fun r e=>by cases e)));have bU:Hid (w6.drew.cell? ⟨mb,2,none⟩=some (.map (some mp))/\w6.drew.cell? ⟨w.heap.size,0,none⟩=some (.bool fin)/\w6.drew.cell? ⟨w.heap.size,1,none⟩=some (.slice (some ⟨gl,0,none⟩) n n)):=hdq ⟨by rw [af pI.out.box];rfl,by rw [af iH.out];rfl,by rw [af iH.out];rfl⟩;have vM:Hid (some mb≠(some mp:Option Nat)/\some w.heap.size≠(some mp:Option Nat)):=hdq ⟨by have:=pI.out.ne;simp only [ne_eq,sij];omega,by have:=jI.out.lt;simp only [ne_eq,sij];omega⟩;have mE:Hid (w.heap.size<gl):=hdq bC.out.2.2.2.1;have jV:Hid (Sw.Good w6.drew ⟨fin,some ⟨gl,0,none⟩,n,n,arcs.map fun a=>(a.1,P a.2)⟩):=hdq (Ars.of_owns HAD.out KY.out HLEN.out);have hmx:=gq.out;clear RN RO bC;refine wp_region_held_drew (S:=(fun W=>W.cell? ⟨mb,2,none⟩=some (.map (some mp))/\W.cell? ⟨w.heap.size,0,none⟩=some (.bool fin)/\W.cell? ⟨w.heap.size,1,none⟩=some (.slice (some ⟨gl,0,none⟩) n n))) krf (by first|((first|exact bP|exact bU.out))|((try dsimp only);(first|exact bP|exact bU.out))) (fun hHeld=>?_);refine wpAnyH_take (i:=0) (v:=?apy) rfl krf krf krf (fun _ _ _ h=>h) (Or.inl ⟨by rfl,?RP⟩) (by assumption) ?apz
 case RP=>intro w hSw;(try dsimp only at hSw);go_simp;try with_reducible rfl
 simp only [Act.put,List.getElem_toArray,List.getElem_cons_zero,List.setIfInBounds_toArray,List.set_cons_succ,List.set_cons_zero];refine t_h 1 ?_;refine wpAnyH_take (i:=2) (v:=?apA) rfl krf krf krf (fun _ _ _ h=>h) (Or.inl ⟨by rfl,?RQ⟩) (by assumption) ?apB
 case RQ=>intro w hSw;(try dsimp only at hSw);go_simp;try with_reducible rfl
 simp only [Act.put,List.getElem_toArray,List.setIfInBounds_toArray];refine wpAnyH_take (i:=3) (v:=?apC) rfl krf krf krf (fun _ _ _ h=>h) (Or.inl ⟨by rfl,?RS⟩) (by assumption) ?apD
 case RS=>intro w hSw;(try dsimp only at hSw);go_simp;try with_reducible rfl
 simp only [Act.put,List.getElem_toArray];refine wpAnyH_take (i:=4) (v:=?apE) rfl krf krf krf (fun _ _ _ h=>h) (Or.inl ⟨by rfl,?RU⟩) (by assumption) ?apF
 case RU=>intro w hSw;(try dsimp only at hSw);go_simp;try with_reducible rfl
 simp only [Act.put,List.getElem_toArray];refine r_h 5 (fun K hK=>?_);go_simp;go_at_call 114;refine (akp mp L (⟨fin,some ⟨gl,0,none⟩,n,n,List.map (fun y:Int × Int=>((y.1,P y.2):Int × Int)) arcs⟩:Sw) _ pI.out.map jV.out uq.out Gj.out RF.out KX.out).mono ?_;rintro e w8 ⟨rfl,Gp,gH⟩;have bP:=And.intro (gH.cell bU.out.1 vM.out.1) (And.intro (gH.cell bU.out.2.1 vM.out.2) (gH.cell bU.out.2.2 vM.out.2));go_wp2_with fail;refine k_h hK (by (try dsimp only);(first|exact bP|exact bU.out)) (fun hHeld=>?_);clear hK K;refine t_h 6 ?_;refine wpAnyH_done krf ?_ _;have iC:=hdq (pI.out.name gH Gp);have RV:Hid (w8.heap[w.heap.size]?=some (.cells #[.bool fin,.slice (some ⟨gl,0,none⟩) n n] 58 (0,0))):=hdq ((gH.block _ (hltq iH.out) vM.out.2).trans iH.out);have RX:=hdq (HAD.out.kept gH (.inr (by have:=jI.out.lt;have:=mE.out;simp only [Value.ownBlock,ne_eq,sij];omega)));have kz:Hid (cB B mb ob mp w w8):=hdq (gu.out.trans (cB.grown gH pI.out.lt.2.2.2 (fun r e=>by simp only [sij] at e;omega)));obtain ⟨kk,hkd⟩:∃kk,L.length=kk:=⟨_,rfl⟩;have hkc:cs.length=kk:=by have:=jT.out;omega
 have sF:=hdq hkc;have La:=hdq hkd;rw [hkd];have KZ:(Lit.int .i64 (kk:Int)).wf=true:=by have:=KX.out;apply WalkArith.wf_i64<;>omega
 clear hkc hkd;have aJ:=hdq (iC.out.put (at':=at') (kk:Int) KZ);have aaN:w8.cell? ⟨ob,at',none⟩=some (.int .i64 (ns.getD at' 0)):=by rw [iC.out.of.cellAt at' omg];simp [ay,uu.out,hat]
 have aaO:w8.frozen? ⟨ob,at',none⟩=false:=iC.out.of.frozenAt _;have hm18:w8.cell? ⟨mb,1,none⟩=some (.slice (some ⟨ob,0,none⟩) N N):=by rw [af iC.out.box];rfl
 have RY:(w8.setCell ⟨ob,at',none⟩ (.int .i64 (kk:Int))).cell? ⟨mb,3,none⟩=some (.slice ca cs.length cc):=by rw [af aJ.out.box];rfl
 have lM:Hid (cB B mb ob mp w (w8.setCell ⟨ob,at',none⟩ (.int .i64 (kk:Int)))):=hdq (kz.out.trans (cB.grown (dC w8 ⟨ob,at',none⟩ _) iC.out.lt.2.2.2 (fun r e=>by simp only [sij] at e;omega)));clear hHeld bP gH Gp pI iH HAD gu bU jV iC kz
 have hne:((kk:Int)==(cs.length:Int))=true:=by
  have:=sF.out;simp;omega
 have iG:Hid (Cx (w8.setCell ⟨ob,at',none⟩ (.int .i64 (kk:Int))).drew B mb ob mp ⟨kk,0,bo,bl,bk,bz,⟨fin,some ⟨gl,0,none⟩,n,n,arcs.map fun a=>(a.1,P a.2)⟩⟩):=hdq (by
  have iI:(⟨bo,bl,bk,bz⟩:Wd)∈os:=by rw [<-ai.out,gdq,geg (by rw [Gi.out];exact hat),Option.getD_some];exact List.getElem_mem _
  have hd:Below (w8.setCell ⟨ob,at',none⟩ (.int .i64 (kk:Int))).heap.size (w8.setCell ⟨ob,at',none⟩ (.int .i64 (kk:Int))) (w8.setCell ⟨ob,at',none⟩ (.int .i64 (kk:Int))).drew:=aG (Below.refl _ _) ⟨1,rfl⟩;have ho:=ownsRow_below (RX.out.kept (dC w8 ⟨ob,at',none⟩ (.int .i64 (kk:Int))) (.inr (by have:=jI.out.lt;have:=mE.out;simp only [Value.ownBlock,ne_eq,sij];omega))) hd lrf
  exact ⟨((aJ.out.words _ iI).below hd lrf),aJ.out.far _ iI,by show 0<=1000;omega,Joins.ownsRow_le ho jI.out.lt.2.2.2,KY.out⟩)
 have vF:Hid ((w8.setCell ⟨ob,at',none⟩ (.int .i64 (kk:Int))).drew.heap[w.heap.size]?=some (.cells #[.bool fin,.slice (some ⟨gl,0,none⟩) n n] 58 (0,0))):=hdq (by
  have h1:=heap_setCell_other w8 ⟨ob,at',none⟩ w.heap.size (.int .i64 (kk:Int)) (by have:=jI.out.lt;show w.heap.size≠ob;omega)
  exact h1.trans RV.out)
 go_wp2_with fail;clear hne aaN aaO hm18 RY;have RZ:Hid (Mr (w8.setCell ⟨ob,at',none⟩ (.int .i64 (kk:Int))).drew B g mb ob mp N os (ns.set at' (kk:Int)) (L++[⟨fin,arcs.map fun a=>(a.1,P a.2)⟩]) cs (.slice ca cs.length cc)):=hdq (by have h1:=aJ.out.drew 1;exact h1);have Sa:Hid (cB B mb ob mp w (w8.setCell ⟨ob,at',none⟩ (.int .i64 (kk:Int))).drew):=hdq (lM.out.trans (cB.grown (uL (aG (Below.refl _ (w8.setCell ⟨ob,at',none⟩ (.int .i64 (kk:Int)))) ⟨1,rfl⟩)) aJ.out.lt.2.2.2 (fun r e=>by cases e)));clear aJ lM RV RX;generalize zg:World.setCell w8 _ _=w9 at iG vF RZ Sa ⊢;clear zg;have aJ:Hid (Mr w9.drew B g mb ob mp N os (ns.set at' (kk:Int)) (L++[⟨fin,arcs.map fun a=>(a.1,P a.2)⟩]) cs (.slice ca cs.length cc)):=RZ;clear RZ;have bU:Hid (w9.drew.cell? ⟨w.heap.size,0,none⟩=some (.bool fin)/\w9.drew.cell? ⟨w.heap.size,1,none⟩=some (.slice (some ⟨gl,0,none⟩) n n)):=hdq ⟨by rw [af vF.out];rfl,by rw [af vF.out];rfl⟩
 have FP:Hid (∀W,Below w9.drew.heap.size w9.drew W->W.cell? ⟨w.heap.size,0,none⟩=some (.bool fin)/\W.cell? ⟨w.heap.size,1,none⟩=some (.slice (some ⟨gl,0,none⟩) n n)):=hdq (fun W hW=>by
  have h1:=(hW.block w.heap.size (hltq vF.out)).trans vF.out
  exact ⟨by rw [af h1];rfl,by rw [af h1];rfl⟩)
 have uT:Hid (∀W,Below w9.drew.heap.size w9.drew W->some w.heap.size≠(Value.slice ca cs.length cc).ownBlock):=hdq (fun W hW=>by
  have h1:=(hW.block w.heap.size (hltq vF.out)).trans vF.out
  exact mh (aJ.out.below hW).row h1 (fun cur e=>by simp only [Obj.cells.injEq] at e;exact absurd e.2.1 (by decide)))
 have HSF:Hid (∀W:World,(W.cell? ⟨w.heap.size,0,none⟩=some (.bool fin)/\W.cell? ⟨w.heap.size,1,none⟩=some (.slice (some ⟨gl,0,none⟩) n n))->∀u:Value,(W.setCell ⟨mb,3,none⟩ u).cell? ⟨w.heap.size,0,none⟩=some (.bool fin)/\(W.setCell ⟨mb,3,none⟩ u).cell? ⟨w.heap.size,1,none⟩=some (.slice (some ⟨gl,0,none⟩) n n)):=hdq (fun W hW u=>by
  refine ⟨(World.cell?_setCell_other (w:=W) (a:=⟨mb,3,none⟩) (b:=⟨w.heap.size,0,none⟩) (v:=u) ?_).trans hW.1,(World.cell?_setCell_other (w:=W) (a:=⟨mb,3,none⟩) (b:=⟨w.heap.size,1,none⟩) (v:=u) ?_).trans hW.2⟩
  ·intro e;simp only [Addr.mk.injEq] at e;omega
  ·intro e;simp only [Addr.mk.injEq] at e;omega)
 have RY:w9.drew.cell? ⟨mb,3,none⟩=some (.slice ca cs.length cc):=by rw [af aJ.out.box];rfl
 have aaS:∀W,Below w9.drew.heap.size w9.drew W->W.cell? ⟨mb,3,none⟩=some (.slice ca cs.length cc):=fun W hW=>by rw [af (aJ.out.below hW).box];rfl
 have aaT:=hdq aaS;clear aaS;have hmx:=gq.out;refine wp_region_held_drew (S:=(fun W=>W.cell? ⟨w.heap.size,0,none⟩=some (.bool fin)/\W.cell? ⟨w.heap.size,1,none⟩=some (.slice (some ⟨gl,0,none⟩) n n))) krf (by first|((first|exact pJ|exact mR|exact eZ|exact bU.out))|((try dsimp only);(first|exact pJ|exact mR|exact eZ|exact bU.out))) (fun hHeld=>?_);refine wpAnyH_take (i:=0) (v:=?atq) rfl krf krf krf (fun _ _ _ h=>h) (Or.inl ⟨by rfl,?apG⟩) (by assumption) ?atr
 case apG=>intro w hSw;(try dsimp only at hSw);go_simp;try with_reducible rfl
 simp only [Act.put,List.getElem_toArray,List.getElem_cons_zero,List.setIfInBounds_toArray,List.set_cons_succ,List.set_cons_zero];refine t_h 1 ?_;refine t_h 2 ?_;refine t_h 3 ?_;refine wpAnyH_take (i:=5) (v:=?att) rfl krf krf krf (fun _ _ _ h=>h) (Or.inl ⟨by rfl,?apH⟩) (by assumption) ?atu
 case apH=>intro w hSw;(try dsimp only at hSw);go_simp;try with_reducible rfl
 simp only [Act.put,List.getElem_toArray,List.setIfInBounds_toArray];refine wpAnyH_take (i:=6) (v:=?atv) rfl krf krf krf (fun _ _ _ h=>h) (Or.inl ⟨by rfl,?apI⟩) (by assumption) ?atw
 case apI=>intro w hSw;(try dsimp only at hSw);go_simp;try with_reducible rfl
 simp only [Act.put,List.getElem_toArray];refine wpAnyH_take (i:=7) (v:=?atx) rfl krf krf krf (fun _ _ _ h=>h) (Or.inl ⟨by rfl,?apJ⟩) (by assumption) ?aty
 case apJ=>intro w hSw;(try dsimp only at hSw);go_simp;try with_reducible rfl
 simp only [Act.put,List.getElem_toArray];refine t_h 8 ?_;refine fT 4 9 (fun K hK=>?_) (fun K hK=>?_)
 ·go_simp;refine k_h hK (by (try dsimp only);(first|exact pJ|exact mR|exact eZ|exact bU.out)) (fun hHeld=>?_);clear hK K;refine r_h 9 (fun K hK=>?_);refine Ye rfq (.tmp 49) kk bo bl bk fin (some ⟨gl,0,none⟩) n n rfq rfq ?_;intro gB wB hcB au;have eZ:=FP.out wB au;have Sb:=aaT.out wB au;refine k_h hK (by (try dsimp only);(first|exact pJ|exact mR|exact eZ|exact bU.out)) (fun hHeld=>?_);clear hK K;refine r_h 10 (fun K hK=>?_);refine Yf rfq (.tmp 45) (.tmp 50) rfq B _ cs.length cs rfq (aJ.out.below au).row gB ⟨kk,0,bo,bl,bk,bz,⟨fin,some ⟨gl,0,none⟩,n,n,arcs.map fun a=>(a.1,P a.2)⟩⟩ rfq hcB (cs.length+1) rfl omg (aJ.out.below au).lt.2.2.2 ?_;intro Sc cc' wA Gr hgA;have mR:wA.cell? ⟨w.heap.size,0,none⟩=some (.bool fin)/\wA.cell? ⟨w.heap.size,1,none⟩=some (.slice (some ⟨gl,0,none⟩) n n):=⟨hgA.cell eZ.1 (uT.out wB au),hgA.cell eZ.2 (uT.out wB au)⟩;have Ab:=(aJ.out.below au).boxKept hgA (fun e=>by have h1:=((aJ.out.below au).row.lt mb e.symm).1;have h2:=aJ.out.lt.1;omega);have Sd:wA.cell? ⟨mb,3,none⟩=some (.slice ca cs.length cc):=by rw [af Ab];rfl
  have hfA:wA.frozen? ⟨mb,3,none⟩=false:=frozen_of_row _ _ _ _ _ Ab;have pJ:=HSF.out wA mR (.slice Sc (cs.length+1) cc');refine k_h hK (by (try dsimp only);(first|exact pJ|exact mR|exact eZ|exact bU.out)) (fun hHeld=>?_);clear hK K;refine t_h 11 ?_;refine t_h 12 ?_;refine r_h 13 (fun K hK=>?_);go_simp;refine k_h hK (by (try dsimp only);(first|exact pJ|exact mR|exact eZ|exact bU.out)) (fun hHeld=>?_);clear hK K;refine wpAnyH_done krf ?_ _;have oL:=hdq (Yg aJ.out au hgA Gr iG.out);clear pJ mR eZ Sb Ab Sd hfA hHeld hcB au hgA Gr;generalize World.setCell wA _ _=bg at oL ⊢;have uj:=oL.out.1.row;rw [List.length_append,List.length_singleton] at uj;obtain ⟨cb,rfl⟩:=nY uj (Nat.succ_pos _);clear uj;have jW:Hid ((cs++[(⟨kk,0,bo,bl,bk,bz,⟨fin,some ⟨gl,0,none⟩,n,n,arcs.map fun a=>(a.1,P a.2)⟩⟩:Cz)]).getD kk Cz.no=(⟨kk,0,bo,bl,bk,bz,⟨fin,some ⟨gl,0,none⟩,n,n,arcs.map fun a=>(a.1,P a.2)⟩⟩:Cz)):=hdq (by simp [<-sF.out]);have mQ:Hid (kk<(cs++[(⟨kk,0,bo,bl,bk,bz,⟨fin,some ⟨gl,0,none⟩,n,n,arcs.map fun a=>(a.1,P a.2)⟩⟩:Cz)]).length):=hdq (by have:=sF.out;simp;omega);have Gq:Hid (kk<cs.length+1):=hdq (by have:=sF.out;omega);have dJ:Hid (Mr bg B g mb ob mp N os (ns.set at' (kk:Int)) (L++[⟨fin,arcs.map fun a=>(a.1,P a.2)⟩]) (cs++[(⟨kk,0,bo,bl,bk,bz,⟨fin,some ⟨gl,0,none⟩,n,n,arcs.map fun a=>(a.1,P a.2)⟩⟩:Cz)]) (.slice (some ⟨cb,0,none⟩) (cs++[(⟨kk,0,bo,bl,bk,bz,⟨fin,some ⟨gl,0,none⟩,n,n,arcs.map fun a=>(a.1,P a.2)⟩⟩:Cz)]).length cc')):=hdq (by have h1:=oL.out.1;rw [List.length_append,List.length_singleton];exact h1);have zq:=hdq (Sa.out.trans oL.out.2);have iI:(⟨bo,bl,bk,bz⟩:Wd)∈os:=by rw [<-ai.out,gdq,geg (by rw [Gi.out];exact hat),Option.getD_some];exact List.getElem_mem _
  have sD:Hid (∀b off,bo=some ⟨b,off,none⟩->Far B mb ob mp b):=hdq (dJ.out.far _ iI);have bM:Hid (Sl .i64 bg bo bl bk bz/\(∀b off,bo=some ⟨b,off,none⟩->b≠cb)/\bl<=1000):=hdq ⟨dJ.out.words _ iI,fun b off e e'=>by have h1:=(sD.out b off e).1;have h2:=(dJ.out.row.lt cb rfl).1;omega,dP.out _ iI⟩
  have xA:Hid (∀b off,bo=some ⟨b,off,none⟩->b≠cb):=hdq (fun b off e e'=>by
   have h0:=dJ.out.each _ (nu mQ.out);rw [jW.out] at h0
   have h1:=(h0.far b off e).1;have h2:=(dJ.out.row.lt cb rfl).1;omega)
  clear iI;clear oL;have HC:Hid (Cx bg B mb ob mp (⟨kk,0,bo,bl,bk,bz,⟨fin,some ⟨gl,0,none⟩,n,n,arcs.map fun a=>(a.1,P a.2)⟩⟩:Cz)):=hdq (dJ.out.each _ (by have hmm:=nu mQ.out;rw [jW.out] at hmm;exact hmm));have hcell:=fun j (hj:j<5)=>Pb dJ.out.row mQ.out jW.out hj;have hl1:bg.cell? ⟨cb,kk*5+1,none⟩=some (.int .i64 ((0:Nat):Int)):=hcell 1 omg;have hl2:bg.cell? ⟨cb,kk*5+2,none⟩=some (.slice bo bl bk):=hcell 2 omg;have xJ:=hdq (And.intro hl1 hl2);have aaP:bg.cell? ⟨mb,3,none⟩=some (.slice (some ⟨cb,0,none⟩) (cs.length+1) cc'):=by rw [af dJ.out.box,List.length_append,List.length_singleton];rfl
  have hkt:kk<(cs.length+1):=Gq.out;have aaQ:(kk:Int)<((cs.length+1):Int):=omg;clear hcell hl1 hl2;go_wp2_with (go_at_call 115;refine (OM cb (kk*5) 0 bo bo bl bk bl bk bz bz _ xJ.out.1 xJ.out.2 (fun j=>dJ.out.row.frozenAt j) bM.out.1 HC.out.first bM.out.2.1 xA.out HC.out.long bM.out.2.2).mono ?_;rintro e nN ⟨rfl,q,xK⟩;have HT:=hdq (Pd dJ.out mQ.out jW.out bM.out.1 sD.out bM.out.2.2 xK);clear xK);go_end0;have hset:∀X,(cs++[(⟨kk,0,bo,bl,bk,bz,⟨fin,some ⟨gl,0,none⟩,n,n,arcs.map fun a=>(a.1,P a.2)⟩⟩:Cz)]).set kk X=cs++[X]:=fun X=>by simp [sF.out]
  exact ⟨rfl,_,(⟨kk,0,bo,bl,bk,bz,⟨fin,some ⟨gl,0,none⟩,n,n,arcs.map fun a=>(a.1,P a.2)⟩⟩:Cz).take ⟨bo,bl,bk,bz⟩,by rw [La.out];have h1:=HT.out.1;rw [hset] at h1;exact h1,⟨(Cz.take_num _ _).trans La.out.symm,by rw [ai.out,Cz.take_long];exact Nat.zero_max _,by rw [ai.out,Cz.take_first];split<;>rfl,by rw [Cz.take_st];rfl,by rw [ai.out];exact (Cz.take_fa _ _).elim id id⟩,zq.out.trans HT.out.2⟩
 ·refine Ye rfq (.tmp 49) kk bo bl bk fin (some ⟨gl,0,none⟩) n n rfq rfq ?_;intro gB wB hcB au;have eZ:=FP.out wB au;have Sb:=aaT.out wB au;refine k_h hK (by (try dsimp only);(first|exact pJ|exact mR|exact eZ|exact bU.out)) (fun hHeld=>?_);clear hK K;refine r_h 4 (fun K hK=>?_);go_simp;refine k_h hK (by (try dsimp only);(first|exact pJ|exact mR|exact eZ|exact bU.out)) (fun hHeld=>?_);clear hK K;refine r_h 10 (fun K hK=>?_);refine Yf rfq (.tmp 45) (.tmp 50) rfq B _ cs.length cs rfq (aJ.out.below au).row gB ⟨kk,0,bo,bl,bk,bz,⟨fin,some ⟨gl,0,none⟩,n,n,arcs.map fun a=>(a.1,P a.2)⟩⟩ rfq hcB (cs.length+1) rfl omg (aJ.out.below au).lt.2.2.2 ?_;intro Sc cc' wA Gr hgA;have mR:wA.cell? ⟨w.heap.size,0,none⟩=some (.bool fin)/\wA.cell? ⟨w.heap.size,1,none⟩=some (.slice (some ⟨gl,0,none⟩) n n):=⟨hgA.cell eZ.1 (uT.out wB au),hgA.cell eZ.2 (uT.out wB au)⟩;have Ab:=(aJ.out.below au).boxKept hgA (fun e=>by have h1:=((aJ.out.below au).row.lt mb e.symm).1;have h2:=aJ.out.lt.1;omega);have Sd:wA.cell? ⟨mb,3,none⟩=some (.slice ca cs.length cc):=by rw [af Ab];rfl
  have hfA:wA.frozen? ⟨mb,3,none⟩=false:=frozen_of_row _ _ _ _ _ Ab;have pJ:=HSF.out wA mR (.slice Sc (cs.length+1) cc');refine k_h hK (by (try dsimp only);(first|exact pJ|exact mR|exact eZ|exact bU.out)) (fun hHeld=>?_);clear hK K;refine t_h 11 ?_;refine t_h 12 ?_;refine r_h 13 (fun K hK=>?_);go_simp;refine k_h hK (by (try dsimp only);(first|exact pJ|exact mR|exact eZ|exact bU.out)) (fun hHeld=>?_);clear hK K;refine wpAnyH_done krf ?_ _;have oL:=hdq (Yg aJ.out au hgA Gr iG.out);clear pJ mR eZ Sb Ab Sd hfA hHeld hcB au hgA Gr;generalize World.setCell wA _ _=bg at oL ⊢;have uj:=oL.out.1.row;rw [List.length_append,List.length_singleton] at uj;obtain ⟨cb,rfl⟩:=nY uj (Nat.succ_pos _);clear uj;have jW:Hid ((cs++[(⟨kk,0,bo,bl,bk,bz,⟨fin,some ⟨gl,0,none⟩,n,n,arcs.map fun a=>(a.1,P a.2)⟩⟩:Cz)]).getD kk Cz.no=(⟨kk,0,bo,bl,bk,bz,⟨fin,some ⟨gl,0,none⟩,n,n,arcs.map fun a=>(a.1,P a.2)⟩⟩:Cz)):=hdq (by simp [<-sF.out]);have mQ:Hid (kk<(cs++[(⟨kk,0,bo,bl,bk,bz,⟨fin,some ⟨gl,0,none⟩,n,n,arcs.map fun a=>(a.1,P a.2)⟩⟩:Cz)]).length):=hdq (by have:=sF.out;simp;omega);have Gq:Hid (kk<cs.length+1):=hdq (by have:=sF.out;omega);have dJ:Hid (Mr bg B g mb ob mp N os (ns.set at' (kk:Int)) (L++[⟨fin,arcs.map fun a=>(a.1,P a.2)⟩]) (cs++[(⟨kk,0,bo,bl,bk,bz,⟨fin,some ⟨gl,0,none⟩,n,n,arcs.map fun a=>(a.1,P a.2)⟩⟩:Cz)]) (.slice (some ⟨cb,0,none⟩) (cs++[(⟨kk,0,bo,bl,bk,bz,⟨fin,some ⟨gl,0,none⟩,n,n,arcs.map fun a=>(a.1,P a.2)⟩⟩:Cz)]).length cc')):=hdq (by have h1:=oL.out.1;rw [List.length_append,List.length_singleton];exact h1);have zq:=hdq (Sa.out.trans oL.out.2);have iI:(⟨bo,bl,bk,bz⟩:Wd)∈os:=by rw [<-ai.out,gdq,geg (by rw [Gi.out];exact hat),Option.getD_some];exact List.getElem_mem _
  have sD:Hid (∀b off,bo=some ⟨b,off,none⟩->Far B mb ob mp b):=hdq (dJ.out.far _ iI);have bM:Hid (Sl .i64 bg bo bl bk bz/\(∀b off,bo=some ⟨b,off,none⟩->b≠cb)/\bl<=1000):=hdq ⟨dJ.out.words _ iI,fun b off e e'=>by have h1:=(sD.out b off e).1;have h2:=(dJ.out.row.lt cb rfl).1;omega,dP.out _ iI⟩
  have xA:Hid (∀b off,bo=some ⟨b,off,none⟩->b≠cb):=hdq (fun b off e e'=>by
   have h0:=dJ.out.each _ (nu mQ.out);rw [jW.out] at h0
   have h1:=(h0.far b off e).1;have h2:=(dJ.out.row.lt cb rfl).1;omega)
  clear iI;clear oL;have HC:Hid (Cx bg B mb ob mp (⟨kk,0,bo,bl,bk,bz,⟨fin,some ⟨gl,0,none⟩,n,n,arcs.map fun a=>(a.1,P a.2)⟩⟩:Cz)):=hdq (dJ.out.each _ (by have hmm:=nu mQ.out;rw [jW.out] at hmm;exact hmm));have hcell:=fun j (hj:j<5)=>Pb dJ.out.row mQ.out jW.out hj;have hl1:bg.cell? ⟨cb,kk*5+1,none⟩=some (.int .i64 ((0:Nat):Int)):=hcell 1 omg;have hl2:bg.cell? ⟨cb,kk*5+2,none⟩=some (.slice bo bl bk):=hcell 2 omg;have xJ:=hdq (And.intro hl1 hl2);have aaP:bg.cell? ⟨mb,3,none⟩=some (.slice (some ⟨cb,0,none⟩) (cs.length+1) cc'):=by rw [af dJ.out.box,List.length_append,List.length_singleton];rfl
  have hkt:kk<(cs.length+1):=Gq.out;have aaQ:(kk:Int)<((cs.length+1):Int):=omg;clear hcell hl1 hl2;go_wp2_with (go_at_call 115;refine (OM cb (kk*5) 0 bo bo bl bk bl bk bz bz _ xJ.out.1 xJ.out.2 (fun j=>dJ.out.row.frozenAt j) bM.out.1 HC.out.first bM.out.2.1 xA.out HC.out.long bM.out.2.2).mono ?_;rintro e nN ⟨rfl,q,xK⟩;have HT:=hdq (Pd dJ.out mQ.out jW.out bM.out.1 sD.out bM.out.2.2 xK);clear xK);go_end0;have hset:∀X,(cs++[(⟨kk,0,bo,bl,bk,bz,⟨fin,some ⟨gl,0,none⟩,n,n,arcs.map fun a=>(a.1,P a.2)⟩⟩:Cz)]).set kk X=cs++[X]:=fun X=>by simp [sF.out]
  exact ⟨rfl,_,(⟨kk,0,bo,bl,bk,bz,⟨fin,some ⟨gl,0,none⟩,n,n,arcs.map fun a=>(a.1,P a.2)⟩⟩:Cz).take ⟨bo,bl,bk,bz⟩,by rw [La.out];have h1:=HT.out.1;rw [hset] at h1;exact h1,⟨(Cz.take_num _ _).trans La.out.symm,by rw [ai.out,Cz.take_long];exact Nat.zero_max _,by rw [ai.out,Cz.take_first];split<;>rfl,by rw [Cz.take_st];rfl,by rw [ai.out];exact (Cz.take_fa _ _).elim id id⟩,zq.out.trans HT.out.2⟩


end
end Go.Proofs.YtkiamgcpcneggaaGreat
