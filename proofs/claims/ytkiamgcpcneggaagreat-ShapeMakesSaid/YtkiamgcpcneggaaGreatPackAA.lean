import Derived.Test.YtkiamgcpcneggaaGreatPackAD
import Derived.Test.YtkiamgcpcneggaaGreatPackAH
set_option linter.all false
set_option maxRecDepth 100000
set_option maxHeartbeats 12800000
namespace Go.Proofs.YtkiamgcpcneggaaGreat
section
open Go.RowKit Tri Daw

structure Mk3 (B mb ob mp:Nat) (w w':World):Prop where
 os:w'.os=w.os
 tape:w'.tape=w.tape
 output:w'.output=w.output
 size:w.heap.size<=w'.heap.size
 block:∀k,k<B->k≠mb->k≠ob->k≠mp->w'.heap[k]?=w.heap[k]?
theorem Mk3.refl (B mb ob mp:Nat) (w:World):Mk3 B mb ob mp w w:=⟨rfl,rfl,rfl,Nat.le_refl _,fun _ _ _ _ _=>rfl⟩
theorem Mk3.trans {B mb ob mp:Nat} {a b c:World} (h:Mk3 B mb ob mp a b) (k:Mk3 B mb ob mp b c):Mk3 B mb ob mp a c:=⟨k.os.trans h.os,k.tape.trans h.tape,k.output.trans h.output,Nat.le_trans h.size k.size,fun j h1 h2 h3 h4=>(k.block j h1 h2 h3 h4).trans (h.block j h1 h2 h3 h4)⟩
theorem Mk3.grown {B mb ob mp:Nat} {w w':World} {row:Option Nat} (hg:w.grownBy w' row) (hB:B<=w.heap.size) (hr:∀r,row=some r->r=mb\/r=ob\/r=mp\/B<=r):Mk3 B mb ob mp w w':=⟨hg.os,hg.tape,hg.output,hg.size,fun k h1 h2 h3 h4=>hg.block k (by omega) (fun e=>by
 rcases hr k e.symm with h|h|h|h<;>omega)⟩
theorem Mk3.below {B mb ob mp C:Nat} {w w':World} (h:Mk3 B mb ob mp w w') (hC:C<=B/\C<=mb/\C<=ob/\C<=mp):Below C w w':=⟨h.os,h.tape,h.output,h.size,fun k hk=>h.block k (by omega) (by omega) (by omega) (by omega)⟩
theorem de {w w':World} (h:Below w.heap.size w w'):w.grownBy w' none:=pk h lrf _

def Far (B mb ob mp b:Nat):Prop:=b<B/\b≠mb/\b≠ob/\b≠mp
structure Cx (w:World) (B mb ob mp:Nat) (x:Cz):Prop where
 first:Sl .i64 w x.fa x.fn x.fc x.first
 far:∀b off,x.fa=some ⟨b,off,none⟩->Far B mb ob mp b
 long:x.long<=1000
 arcs:w.ownsRow B 95 2 x.st.s x.st.n (acells x.st.arcs)
 wfs:∀y∈x.st.arcs,(Lit.int .i64 y.1).wf=true/\(Lit.int .i64 y.2).wf=true
theorem Cx.good {w:World} {B mb ob mp:Nat} {x:Cz} (h:Cx w B mb ob mp x):x.st.Good w:=Ars.of_owns h.arcs h.wfs (by
 have:=h.arcs.1
 rw [fj] at this;omega)
theorem avi:(95:TypeId)≠158:=by decide
structure Mr (w:World) (B g mb ob mp N:Nat) (os:List Wd) (ns:List Int) (L:List St) (cs:List Cz) (v:Value):Prop where
 lt:mb<B/\ob<B/\mp<B/\B<=w.heap.size
 ne:mb≠ob/\mb≠mp/\ob≠mp
 gfar:Far B mb ob mp g
 box:w.heap[mb]?=some (.cells #[.slice (some ⟨g,0,none⟩) N N,.slice (some ⟨ob,0,none⟩) N N,.map (some mp),v] 104 (0,0))
 begs:∀k,k<N->w.cell? ⟨g,k,none⟩=some (os.getD k Wd.no).v
 words:∀x∈os,x.Good w
 far:∀x∈os,∀b off,x.a=some ⟨b,off,none⟩->Far B mb ob mp b
 of:w.ownsRow 0 3 1 (.slice (some ⟨ob,0,none⟩) N N) N (ah ns)
 ofw:∀z∈ns,(Lit.int .i64 z).wf=true
 map:NameMap w mp L
 row:w.ownsRow B 158 5 v cs.length (ccells cs)
 each:∀x∈cs,Cx w B mb ob mp x
def Mine (mb ob mp:Nat) (v:Value) (row:Option Nat):Prop:=∀r,row=some r->r=mb\/r=ob\/r=mp\/v.ownBlock=some r
theorem Mr.own {w:World} {B g mb ob mp N:Nat} {os:List Wd} {ns:List Int} {L:List St} {cs:List Cz} {v:Value} (h:Mr w B g mb ob mp N os ns L cs v) {row:Option Nat} (hm:Mine mb ob mp v row) {b:Nat} (hb:Far B mb ob mp b):some b≠row:=by
 intro e;have hl:=h.row.lt;obtain ⟨h1,h2,h3,h4⟩:=hb;rcases hm b e.symm with h5|h5|h5|h5
 ·omega
 ·omega
 ·omega
 ·have:=(hl b h5).1;omega
theorem Cx.kept {w w':World} {B g mb ob mp N:Nat} {os:List Wd} {ns:List Int} {L:List St} {cs:List Cz} {v:Value} {x:Cz} (hx:Cx w B mb ob mp x) (h:Mr w B g mb ob mp N os ns L cs v) {row:Option Nat} (hg:w.grownBy w' row) (hm:Mine mb ob mp v row):Cx w' B mb ob mp x:=by
 refine ⟨hx.first.kept hg (fun b off e=>h.own hm (hx.far b off e)),hx.far,hx.long,hx.arcs.kept hg ?_,hx.wfs⟩
 rcases fm hx.arcs h.row avi with h1|h1
 ·exact .inl h1
 ·cases ho:x.st.s.ownBlock with
  | none=>exact .inl rfl
  | some b =>
    right;intro e;have hb:=(hx.arcs.lt b ho).1;obtain ⟨l1,l2,l3,l4⟩:=h.lt;rcases hm b e.symm with h5|h5|h5|h5
    ·omega
    ·omega
    ·omega
    ·rw [ho,h5] at h1;exact h1 rfl
theorem Mr.step {w w':World} {B g mb ob mp N:Nat} {os:List Wd} {ns ns':List Int} {L L':List St} {cs cs':List Cz} {v v':Value} (h:Mr w B g mb ob mp N os ns L cs v) {row:Option Nat} (hg:w.grownBy w' row) (hm:Mine mb ob mp v row)
 (hbox:w'.heap[mb]?=some (.cells #[.slice (some ⟨g,0,none⟩) N N,.slice (some ⟨ob,0,none⟩) N N,.map (some mp),v'] 104 (0,0))) (hof:w'.ownsRow 0 3 1 (.slice (some ⟨ob,0,none⟩) N N) N (ah ns')) (hofw:∀z∈ns',(Lit.int .i64 z).wf=true) (hmap:NameMap w' mp L')
 (hrow:w'.ownsRow B 158 5 v' cs'.length (ccells cs')) (heach:∀x∈cs',x∈cs\/Cx w' B mb ob mp x):Mr w' B g mb ob mp N os ns' L' cs' v':=by
 obtain ⟨l1,l2,l3,l4⟩:=h.lt;have hs:=hg.size;refine ⟨⟨l1,l2,l3,by omega⟩,h.ne,h.gfar,hbox,fun k hk=>hg.cell (h.begs k hk) (h.own hm h.gfar),fun x hx=>Sl.kept (h.words x hx) hg (fun b off e=>h.own hm (h.far x hx b off e)),h.far,hof,hofw,hmap,hrow,fun x hx=>?_⟩
 rcases heach x hx with h1|h1
 ·exact (h.each x h1).kept h hg hm
 ·exact h1
theorem Mr.boxKept {w w':World} {B g mb ob mp N:Nat} {os:List Wd} {ns:List Int} {L:List St} {cs:List Cz} {v:Value} (h:Mr w B g mb ob mp N os ns L cs v) {row:Option Nat} (hg:w.grownBy w' row) (hne:some mb≠row):w'.heap[mb]?=some (.cells #[.slice (some ⟨g,0,none⟩) N N,.slice (some ⟨ob,0,none⟩) N N,.map (some mp),v] 104 (0,0)) :=
 (hg.block mb (by have:=h.lt;omega) hne).trans h.box
theorem Mr.below {w w':World} {B g mb ob mp N:Nat} {os:List Wd} {ns:List Int} {L:List St} {cs:List Cz} {v:Value} (h:Mr w B g mb ob mp N os ns L cs v) (hb:Below w.heap.size w w'):Mr w' B g mb ob mp N os ns L cs v:=by
 have hg:=de hb;exact h.step hg (fun r e=>by cases e) (h.boxKept hg (by simp)) (af h.of hb lrf) h.ofw (h.map.kept hg (by simp)) (af h.row hb lrf) (fun x hx=>.inl hx)
theorem Mr.name {w w':World} {B g mb ob mp N:Nat} {os:List Wd} {ns:List Int} {L L':List St} {cs:List Cz} {v:Value} (h:Mr w B g mb ob mp N os ns L cs v) (hg:w.grownBy w' (some mp)) (hmap:NameMap w' mp L'):Mr w' B g mb ob mp N os ns L' cs v:=by
 obtain ⟨n1,n2,n3⟩:=h.ne;obtain ⟨l1,l2,l3,l4⟩:=h.lt;refine h.step hg (fun r e=>by simp only [sij] at e;omega) (h.boxKept hg (by simp only [ne_eq,sij];omega)) (h.of.kept hg (.inr (by simp only [Value.ownBlock,ne_eq,sij];omega))) h.ofw hmap (h.row.kept hg ?_) (fun x hx=>.inl hx)
 cases ho:v.ownBlock with
 | none=>exact .inl rfl
 | some b=>right;have:=(h.row.lt b ho).1;simp only [ne_eq,sij];omega
theorem Mr.put {w:World} {B g mb ob mp N at':Nat} {os:List Wd} {ns:List Int} {L:List St} {cs:List Cz} {v:Value} (h:Mr w B g mb ob mp N os ns L cs v) (z:Int) (hz:(Lit.int .i64 z).wf=true):Mr (w.setCell ⟨ob,at',none⟩ (.int .i64 z)) B g mb ob mp N os (ns.set at' z) L cs v:=by
 obtain ⟨n1,n2,n3⟩:=h.ne;obtain ⟨l1,l2,l3,l4⟩:=h.lt;have hg:=aq w ⟨ob,at',none⟩ (.int .i64 z);have e:ah (ns.set at' z)=(ah ns).set at' (.int .i64 z):=by simp [ah,List.map_set]
 refine h.step hg (fun r e=>by simp only [sij] at e;omega) (h.boxKept hg (by simp only [ne_eq,sij];omega)) (by rw [e];exact (h.of.stored at' (.int .i64 z)).1) (fun y hy=>?_) (h.map.kept hg (by simp only [ne_eq,sij];omega)) (h.row.kept hg ?_) (fun x hx=>.inl hx)
 ·rcases List.mem_or_eq_of_mem_set hy with hy|rfl
  ·exact h.ofw y hy
  ·exact hz
 ·cases ho:v.ownBlock with
  | none=>exact .inl rfl
  | some b=>right;have:=(h.row.lt b ho).1;simp only [ne_eq,sij];omega
theorem Mr.app {w w':World} {B g mb ob mp N:Nat} {os:List Wd} {ns:List Int} {L:List St} {cs:List Cz} {v v':Value} {x:Cz} (h:Mr w B g mb ob mp N os ns L cs v) (hg:w.grownBy w' v.ownBlock) (hrow:w'.ownsRow B 158 5 v' (cs.length+1) (ccells (cs++[x]))) (hx:Cx w B mb ob mp x) :
 Mr (w'.setCell ⟨mb,3,none⟩ v') B g mb ob mp N os ns L (cs++[x]) v':=by
 obtain ⟨n1,n2,n3⟩:=h.ne;obtain ⟨l1,l2,l3,l4⟩:=h.lt;have hne:∀b,b<B->some b≠v.ownBlock:=fun b hb e=>by have:=(h.row.lt b e.symm).1;omega
 have hm:Mine mb ob mp v v.ownBlock:=fun r e=>.inr (.inr (.inr e));have hg2:=aq w' ⟨mb,3,none⟩ v';have hm2:Mine mb ob mp v' (some mb):=fun r e=>by simp only [sij] at e;omega
 have hbox:=h.boxKept hg (hne mb l1)
 have hvm:v'.ownBlock=none\/v'.ownBlock≠some mb:=by
  cases ho:v'.ownBlock with
  | none=>exact .inl rfl
  | some b=>right;have:=(hrow.lt b ho).1;simp only [ne_eq,sij];omega
 have hx1:Cx w' B mb ob mp x:=hx.kept h hg hm;have hs:=hg.size;have hown:∀{b:Nat},Far B mb ob mp b->some b≠(some mb:Option Nat):=fun hb e=>by simp only [sij] at e;have:=hb.2.1;omega
 have hfar:∀{b:Nat},Far B mb ob mp b->some b≠v.ownBlock:=fun hb=>hne _ hb.1
 have hcx:∀y,Cx w' B mb ob mp y->Cx (w'.setCell ⟨mb,3,none⟩ v') B mb ob mp y:=fun y hy=>by
  refine ⟨hy.first.kept hg2 (fun b off e=>hown (hy.far b off e)),hy.far,hy.long,hy.arcs.kept hg2 ?_,hy.wfs⟩
  cases ho:y.st.s.ownBlock with
  | none=>exact .inl rfl
  | some b=>right;have:=(hy.arcs.lt b ho).1;simp only [ne_eq,sij];omega
 refine ⟨⟨l1,l2,l3,by have:=hg2.size;omega⟩,h.ne,h.gfar,?_,fun k hk=>hg2.cell (hg.cell (h.begs k hk) (hfar h.gfar)) (hown h.gfar),fun y hy=>Sl.kept (Sl.kept (h.words y hy) hg (fun b off e=>hfar (h.far y hy b off e))) hg2 (fun b off e=>hown (h.far y hy b off e)),h.far,
  (h.of.kept hg (.inr (hne ob l2))).kept hg2 (.inr (by simp only [Value.ownBlock,ne_eq,sij];omega)),h.ofw,(h.map.kept hg (hne mp l3)).kept hg2 (by simp only [ne_eq,sij];omega),?_,fun y hy=>?_⟩
 ·rw [heap_setCell_same _ _ _ _ _ _ hbox];rfl
 ·rw [List.length_append,List.length_singleton];exact hrow.kept hg2 hvm
 ·rcases map1 hy with hy|hy
  ·exact hcx y ((h.each y hy).kept h hg hm)
  ·rw [msg hy];exact hcx x hx1
theorem dg {cs:List Cz} {k:Nat} (hk:k<cs.length):cs.getD k Cz.no∈cs:=by
 rw [gdq,geg hk,Option.getD_some];exact List.getElem_mem _
theorem Mr.cell {w:World} {B g mb ob mp N:Nat} {os:List Wd} {ns:List Int} {L:List St} {cs cs':List Cz} {cb cc k i:Nat} {u:Value} {x:Cz} (h:Mr w B g mb ob mp N os ns L cs (.slice (some ⟨cb,0,none⟩) cs.length cc)) (he:cs'=cs.set k x)
 (hc:ccells cs'=(ccells cs).set i u) (hx:Cx (w.setCell ⟨cb,i,none⟩ u) B mb ob mp x):Mr (w.setCell ⟨cb,i,none⟩ u) B g mb ob mp N os ns L cs' (.slice (some ⟨cb,0,none⟩) cs.length cc):=by
 obtain ⟨n1,n2,n3⟩:=h.ne;obtain ⟨l1,l2,l3,l4⟩:=h.lt;have hcb:=(h.row.lt cb rfl).1;have hg:=aq w ⟨cb,i,none⟩ u;have hl:cs'.length=cs.length:=by rw [he,List.length_set]
 refine h.step hg (fun r e=>by simp only [sij] at e;exact .inr (.inr (.inr (by rw [<-e];rfl)))) (h.boxKept hg (by simp only [ne_eq,sij];omega)) (h.of.kept hg (.inr (by simp only [Value.ownBlock,ne_eq,sij];omega))) h.ofw (h.map.kept hg (by simp only [ne_eq,sij];omega)) ?_ (fun y hy=>?_)
 ·rw [hl,hc];exact (h.row.stored i u).1
 ·rw [he] at hy;rcases List.mem_or_eq_of_mem_set hy with hy|rfl
  ·exact .inl hy
  ·exact .inr hx
theorem Mr.long {w:World} {B g mb ob mp N:Nat} {os:List Wd} {ns:List Int} {L:List St} {cs:List Cz} {cb cc k:Nat} {x:Cz} (h:Mr w B g mb ob mp N os ns L cs (.slice (some ⟨cb,0,none⟩) cs.length cc)) (hk:k<cs.length) (hx:cs.getD k Cz.no=x) (m:Nat) (hm:m<=1000) :
 Mr (w.setCell ⟨cb,k*5+1,none⟩ (.int .i64 (m:Int))) B g mb ob mp N os ns L (cs.set k { x with long:=m }) (.slice (some ⟨cb,0,none⟩) cs.length cc):=by
 refine h.cell (k:=k) rfl (alr hk hx m) ?_;have hc:=(h.each x (by rw [<-hx];exact dg hk)).kept h (aq w ⟨cb,k*5+1,none⟩ (.int .i64 (m:Int))) (fun r e=>by simp only [sij] at e;exact .inr (.inr (.inr (by rw [<-e];rfl))))
 exact ⟨hc.first,hc.far,hm,hc.arcs,hc.wfs⟩
theorem Mr.first {w:World} {B g mb ob mp N:Nat} {os:List Wd} {ns:List Int} {L:List St} {cs:List Cz} {cb cc k:Nat} {x:Cz} (h:Mr w B g mb ob mp N os ns L cs (.slice (some ⟨cb,0,none⟩) cs.length cc)) (hk:k<cs.length) (hx:cs.getD k Cz.no=x) (a:Option Addr) (n c:Nat) (z:List Int)
 (hs:Sl .i64 w a n c z) (hf:∀b off,a=some ⟨b,off,none⟩->Far B mb ob mp b) :
 Mr (w.setCell ⟨cb,k*5+2,none⟩ (.slice a n c)) B g mb ob mp N os ns L (cs.set k { x with fa:=a,fn:=n,fc:=c,first:=z }) (.slice (some ⟨cb,0,none⟩) cs.length cc):=by
 refine h.cell (k:=k) rfl (agr hk hx a n c z) ?_;have hm:Mine mb ob mp (.slice (some ⟨cb,0,none⟩) cs.length cc) (some cb):=fun r e=>by simp only [sij] at e;exact .inr (.inr (.inr (by rw [<-e];rfl)))
 have hg:=aq w ⟨cb,k*5+2,none⟩ (.slice a n c);have hc:=(h.each x (by rw [<-hx];exact dg hk)).kept h hg hm
 exact ⟨hs.kept hg (fun b off e=>h.own hm (hf b off e)),hf,hc.long,hc.arcs,hc.wfs⟩
theorem Mr.drew {w:World} {B g mb ob mp N:Nat} {os:List Wd} {ns:List Int} {L:List St} {cs:List Cz} {v:Value} (h:Mr w B g mb ob mp N os ns L cs v) (q:Nat):Mr (w.drewN q) B g mb ob mp N os ns L cs v:=h.below (al (Below.refl _ w) ⟨q,rfl⟩)
end
section
open Go.RowKit Go.Maps Tri Daw

theorem ahc {f:Bool} {l:List (Int × Int)} (h:Named ⟨f,l⟩):∀y∈l,(Lit.int .i64 y.1).wf=true/\(Lit.int .i64 y.2).wf=true:=by
 intro y hy;obtain ⟨h1,h2,h3⟩:=h y hy;have:=(Utf.dw _).1 h1;refine ⟨?_,?_⟩<;>(apply WalkArith.wf_i64<;>omega)
theorem adj {w wd w5:World} {B g mb ob mp N gl n cap m:Nat} {os:List Wd} {ns:List Int} {L:List St} {cs:List Cz} {v:Value} {fin:Bool} {a:Option Addr} {l:List Value} (hM:Mr w B g mb ob mp N os ns L cs v) (hyb:Below w.heap.size w wd) (hb5:Below wd.heap.size wd w5)
 (hx5:w5.heap[w.heap.size]?=some (.cells #[.bool fin,.slice a n cap] 58 (0,0))) (hown:w5.ownsRow wd.heap.size 95 2 (.slice (some ⟨gl,0,none⟩) m m) m l) (hgl:wd.heap.size<=gl) (hbx:w.heap.size<wd.heap.size) :
 Mr ((w5.setCell ⟨w.heap.size,0,none⟩ (.bool fin)).setCell ⟨w.heap.size,1,none⟩ (.slice (some ⟨gl,0,none⟩) m m)) B g mb ob mp N os ns L cs v /\
 ((w5.setCell ⟨w.heap.size,0,none⟩ (.bool fin)).setCell ⟨w.heap.size,1,none⟩ (.slice (some ⟨gl,0,none⟩) m m)).heap[w.heap.size]?=some (.cells #[.bool fin,.slice (some ⟨gl,0,none⟩) m m] 58 (0,0)) /\
 ((w5.setCell ⟨w.heap.size,0,none⟩ (.bool fin)).setCell ⟨w.heap.size,1,none⟩ (.slice (some ⟨gl,0,none⟩) m m)).ownsRow w.heap.size 95 2 (.slice (some ⟨gl,0,none⟩) m m) m l/\w.heap.size<gl /\
 Mk3 B mb ob mp w ((w5.setCell ⟨w.heap.size,0,none⟩ (.bool fin)).setCell ⟨w.heap.size,1,none⟩ (.slice (some ⟨gl,0,none⟩) m m)):=by
 have hb:Below w.heap.size w ((w5.setCell ⟨w.heap.size,0,none⟩ (.bool fin)).setCell ⟨w.heap.size,1,none⟩ (.slice (some ⟨gl,0,none⟩) m m)):=((hyb.trans (hb5.mono hyb.size)).setCell (p:=⟨w.heap.size,0,none⟩) lrf _).setCell (p:=⟨w.heap.size,1,none⟩) lrf _;refine ⟨hM.below hb,?_,?_,by omega,Mk3.grown (de hb) hM.lt.2.2.2 (fun r e=>by cases e)⟩
 ·rw [heap_setCell_same _ _ _ _ _ _ (heap_setCell_same _ _ _ _ _ _ hx5)];rfl
 ·refine ((Joins.ownsRow_le hown (by omega)).kept (aq _ _ _) (.inr ?_)).kept (aq _ _ _) (.inr ?_)<;>(simp only [Value.ownBlock,ne_eq,sij];omega)

theorem alz:(Tryz.prog.info? 158).map (fun i=>(i.zero,i.size,i.bytes))=some (some (.agg #[.int .i64 0,.int .i64 0,.slice none 0 0,.bool false,.slice none 0 0]),5,72):=by kernel_rfl
theorem aqe (cs:List Cz):∀u∈ccells cs,u.oneCell'=true:=by
 intro u hu;simp only [ccells,List.mem_flatMap] at hu;obtain ⟨x,_,hu⟩:=hu;simp only [Cz.cells,List.mem_cons,List.not_mem_nil,or_false] at hu;rcases hu with rfl|rfl|rfl|rfl|rfl<;>rfl
theorem ama {w:World} {g:Nat} {x:Cz} {t:TypeId} {cs:Array Value} (h:w.heap[g]?=some (.cells cs t (0,0))) (hc:cs.toList=x.cells):∀j u,(ccells [x])[j]?=some u->w.cell? ((⟨g,0,none⟩:Addr).add j)=some u:=by
 intro j u hj;have e:ccells [x]=cs.toList:=by rw [hc];simp [ccells]
 rw [e] at hj;have hadd:(⟨g,0,none⟩:Addr).add j=⟨g,j,none⟩:=by simp [Addr.add];exact fun h=>h.symm
 rw [hadd,ae h,<-Array.getElem?_toList];exact hj
theorem nd {w:World} {ops:Array Oper} {o:Oper} {act:Act} {K:Act->World->Prop} {Q:Exit->Act->World->Prop} {E:Prop} (hw:Region.wanted o (yielded ops act.tmps)=true) (x:Operand) (kk:Nat) (bo:Option Addr) (bl bk:Nat) (fin:Bool) (sa:Option Addr) (sn sc:Nat)
 (ho:o.op=.buildSlice 102 1 #[(0,x)]) (hx:act.eval x=.agg #[.int .i64 (kk:Int),.int .i64 0,.slice bo bl bk,.bool fin,.slice sa sn sc]) (h:∀g w',w'.heap[g]?=some (.cells #[.int .i64 (kk:Int),.int .i64 0,.slice bo bl bk,.bool fin,.slice sa sn sc] 158 (0,0))->Below w.heap.size w w'->K (act.put o.dst (.slice (some ⟨g,0,none⟩) 1 1)) w') :
 if Region.wanted o (yielded ops act.tmps)=true then o.wp Tryz.prog act w K Q else E:=by
 rw [if_pos hw];unfold Oper.wp;simp only [execOp,ho,List.map_toArray,List.map_cons,List.map_nil,hx];go_simp;exact h _ _ (han w _) ((Below.refl _ w).alloc lrf _)
theorem me {w:World} {ops:Array Oper} {o:Oper} {act:Act} {K:Act->World->Prop} {Q:Exit->Act->World->Prop} {E:Prop} (hw:Region.wanted o (yielded ops act.tmps)=true) (s x:Operand)
 (ho:o.op=.call { callee:=.builtin .append,args:=#[s,x],argTypes:=#[102,102] }) (base:Nat) (v:Value) (n:Nat) (cs:List Cz) (hs:act.eval s=v)
 (hown:w.ownsRow base 158 5 v n (ccells cs)) (g:Nat) (y:Cz) (hx:act.eval x=.slice (some ⟨g,0,none⟩) 1 1) (hc:w.heap[g]?=some (.cells #[.int .i64 (y.num:Int),.int .i64 (y.long:Int),.slice y.fa y.fn y.fc,.bool y.st.fin,.slice y.st.a y.st.n y.st.cap] 158 (0,0)))
 (N:Nat) (hN:n+1=N) (h63:N*72<=140737488355328) (hbase:base<=w.heap.size)
 (h:∀a' c' w',w'.ownsRow base 158 5 (.slice a' N c') N (ccells (cs++[y]))->w.grownBy w' v.ownBlock->K (act.put o.dst (.slice a' N c')) w') :
 if Region.wanted o (yielded ops act.tmps)=true then o.wp Tryz.prog act w K Q else E:=by
 subst hN;rw [if_pos hw];refine ej s x 102 158 ho _ 5 72 Tryz.underlying102 alz rfl (by omega) base v n (ccells cs) hs hown (some ⟨g,0,none⟩) 1 1 (ccells [y]) hx (by rw [mc];rfl) (fun _=>⟨_,rfl,ama hc rfl⟩) (aqe [y]) (by unfold maxLen;omega) (by omega) hbase ?_
 intro a' c' w' h1 _ h3 _;exact h a' c' w' (by rw [alq];exact h1) h3
theorem rl {w:World} {B cb n cc k:Nat} {cs:List Cz} {x:Cz} (h:w.ownsRow B 158 5 (.slice (some ⟨cb,0,none⟩) n cc) n (ccells cs)) (hk:k<cs.length) (hx:cs.getD k Cz.no=x) {j:Nat} (hj:j<5):w.cell? ⟨cb,k*5+j,none⟩=x.cells[j]?:=by
 have hl:=h.1;rw [mc] at hl;rw [h.cellAt (k*5+j) (by omega),ur cs k j hk hj,hx]
theorem adk {w wB wA:World} {B g mb ob mp N:Nat} {os:List Wd} {ns:List Int} {L:List St} {cs:List Cz} {v v':Value} {x:Cz} (h:Mr w B g mb ob mp N os ns L cs v) (hb:Below w.heap.size w wB) (hg:wB.grownBy wA v.ownBlock) (hrow:wA.ownsRow B 158 5 v' (cs.length+1) (ccells (cs++[x]))) (hx:Cx w B mb ob mp x) :
 Mr (wA.setCell ⟨mb,3,none⟩ v') B g mb ob mp N os ns L (cs++[x]) v'/\Mk3 B mb ob mp w (wA.setCell ⟨mb,3,none⟩ v'):=by
 have hB:=h.below hb;refine ⟨hB.app hg hrow (hx.kept h (de hb) (fun r e=>by cases e)),(Mk3.grown (de hb) h.lt.2.2.2 (fun r e=>by cases e)).trans ((Mk3.grown hg hB.lt.2.2.2 (fun r e=>.inr (.inr (.inr (hB.row.lt r e).1)))).trans (Mk3.grown (aq _ _ _) ?_ (fun r e=>by simp only [sij] at e;omega)))⟩
 have:=hB.lt;have:=hg.size;omega
def Cz.take (x:Cz) (b:Wd):Cz:=if lessL b.zs x.first=true then { x with long:=max x.long b.n,fa:=b.a,fn:=b.n,fc:=b.cap,first:=b.zs } else { x with long:=max x.long b.n }
theorem Cz.take_num (x:Cz) (b:Wd):(x.take b).num=x.num:=by unfold Cz.take;split<;>rfl
theorem Cz.take_long (x:Cz) (b:Wd):(x.take b).long=max x.long b.n:=by unfold Cz.take;split<;>rfl
theorem Cz.take_first (x:Cz) (b:Wd):(x.take b).first=if lessL b.zs x.first=true then b.zs else x.first:=by unfold Cz.take;split<;>rfl
theorem Cz.take_st (x:Cz) (b:Wd):(x.take b).st=x.st:=by unfold Cz.take;split<;>rfl
theorem Cz.take_fa (x:Cz) (b:Wd):(x.take b).fa=b.a\/(x.take b).fa=x.fa:=by unfold Cz.take;split<;>simp
theorem rm {w w':World} {B g mb ob mp N cb cc k q:Nat} {os:List Wd} {ns:List Int} {L:List St} {cs:List Cz} {xnum xl xn xc bl bk:Nat} {xa bo:Option Addr} {xf bz:List Int} {xst:Sw} (h:Mr w B g mb ob mp N os ns L cs (.slice (some ⟨cb,0,none⟩) cs.length cc)) (hk:k<cs.length) (hx:cs.getD k Cz.no=⟨xnum,xl,xa,xn,xc,xf,xst⟩)
 (hs:Sl .i64 w bo bl bk bz) (hf:∀b off,bo=some ⟨b,off,none⟩->Far B mb ob mp b) (hbl:bl<=1000)
 (hw:w'=if lessL bz xf=true then ((w.setCell ⟨cb,k*5+1,none⟩ (.int .i64 ((max xl bl:Nat):Int))).drewN q).setCell ⟨cb,k*5+2,none⟩ (.slice bo bl bk) else (w.setCell ⟨cb,k*5+1,none⟩ (.int .i64 ((max xl bl:Nat):Int))).drewN q) :
 Mr w' B g mb ob mp N os ns L (cs.set k (Cz.take ⟨xnum,xl,xa,xn,xc,xf,xst⟩ ⟨bo,bl,bk,bz⟩)) (.slice (some ⟨cb,0,none⟩) cs.length cc)/\Mk3 B mb ob mp w w':=by
 have hxl:xl<=1000:=by
  have:=(h.each _ (dg hk)).long;rw [hx] at this;exact this
 have hcb:B<=cb:=(h.row.lt cb rfl).1;have hm:Mine mb ob mp (.slice (some ⟨cb,0,none⟩) cs.length cc) (some cb):=fun r e=>by simp only [sij] at e;exact .inr (.inr (.inr (by rw [<-e];rfl)))
 have h1:=(h.long hk hx (max xl bl) (by omega)).drew q
 have g1:=aq w ⟨cb,k*5+1,none⟩ (.int .i64 ((max xl bl:Nat):Int));have k1:Mk3 B mb ob mp w ((w.setCell ⟨cb,k*5+1,none⟩ (.int .i64 ((max xl bl:Nat):Int))).drewN q):=(Mk3.grown g1 h.lt.2.2.2 (fun r e=>by simp only [sij] at e;omega)).trans (Mk3.grown (de (al (Below.refl _ _) ⟨q,rfl⟩)) (by have:=g1.size;have:=h.lt;omega) (fun r e=>by cases e))
 by_cases hl:lessL bz xf=true
 ·rw [if_pos hl] at hw;subst hw;have hk2:k<(cs.set k { (⟨xnum,xl,xa,xn,xc,xf,xst⟩:Cz) with long:=max xl bl }).length:=by rw [List.length_set];exact hk
  have hsl:Sl .i64 ((w.setCell ⟨cb,k*5+1,none⟩ (.int .i64 ((max xl bl:Nat):Int))).drewN q) bo bl bk bz:=Sl.below (hs.kept g1 (fun b off e=>h.own hm (hf b off e))) (al (Below.refl _ _) ⟨q,rfl⟩) lrf;have hlen:(cs.set k { (⟨xnum,xl,xa,xn,xc,xf,xst⟩:Cz) with long:=max xl bl }).length=cs.length:=List.length_set;have h1':Mr ((w.setCell ⟨cb,k*5+1,none⟩ (.int .i64 ((max xl bl:Nat):Int))).drewN q) B g mb ob mp N os ns L (cs.set k { (⟨xnum,xl,xa,xn,xc,xf,xst⟩:Cz) with long:=max xl bl }) (.slice (some ⟨cb,0,none⟩) (cs.set k { (⟨xnum,xl,xa,xn,xc,xf,xst⟩:Cz) with long:=max xl bl }).length cc):=by rw [hlen];exact h1
  have h2:=h1'.first hk2 (x:={ (⟨xnum,xl,xa,xn,xc,xf,xst⟩:Cz) with long:=max xl bl }) (by simp [hk]) bo bl bk bz hsl hf
  rw [hlen,List.set_set] at h2;refine ⟨?_,k1.trans (Mk3.grown (aq _ ⟨cb,k*5+2,none⟩ (.slice bo bl bk)) (by have:=k1.size;have:=h.lt;omega) (fun r e=>by simp only [sij] at e;omega))⟩
  have e:Cz.take ⟨xnum,xl,xa,xn,xc,xf,xst⟩ ⟨bo,bl,bk,bz⟩={ ({ (⟨xnum,xl,xa,xn,xc,xf,xst⟩:Cz) with long:=max xl bl }:Cz) with fa:=bo,fn:=bl,fc:=bk,first:=bz }:=by unfold Cz.take;simp only [];rw [if_pos hl]
  rw [e];exact h2
 ·rw [if_neg hl] at hw;subst hw;have e:Cz.take ⟨xnum,xl,xa,xn,xc,xf,xst⟩ ⟨bo,bl,bk,bz⟩={ (⟨xnum,xl,xa,xn,xc,xf,xst⟩:Cz) with long:=max xl bl }:=by unfold Cz.take;simp only [];rw [if_neg hl]
  exact ⟨by rw [e];exact h1,k1⟩

theorem aqf (B g mb ob mp N at':Nat) (os:List Wd) (ns:List Int) (L:List St) (cs:List Cz) (v:Value) (x:Sw) (P:Int->Int) (w:World) (h:Mr w B g mb ob mp N os ns L cs v) (hat:at'<N) (hlen:os.length=N/\ns.length=N/\cs.length=L.length) (_hN:N<=6001)
 (hx:x.Good w) (hto:∀a∈x.arcs,0<=a.2/\a.2<(N:Int)/\ns.getD a.2.toNat 0=P a.2) (hbig:x.n<=2000000) (hnm:Named ⟨x.fin,x.arcs.map fun a=>(a.1,P a.2)⟩) (hL7:L.length<=7000) (hshort:∀y∈os,y.n<=1000) (hmem:(⟨x.fin,x.arcs.map fun a=>(a.1,P a.2)⟩:St)∈L) :
 Calls Tryz.prog 68 #[.pointer (some ⟨mb,0,none⟩),.int .i64 (at':Int),.agg #[.bool x.fin,.slice x.a x.n x.cap]] w fun e w'=>e=.returned (.tuple #[])/\∃k v' c',k<L.length/\L.getD k St.no=⟨x.fin,x.arcs.map fun a=>(a.1,P a.2)⟩/\Mr w' B g mb ob mp N os (ns.set at' (k:Int)) L (cs.set k c') v'/\(c'.num=(cs.getD k Cz.no).num/\c'.long=max (cs.getD k Cz.no).long (os.getD at' Wd.no).n/\c'.first=(if lessL (os.getD at' Wd.no).zs (cs.getD k Cz.no).first=true then (os.getD at' Wd.no).zs else (cs.getD k Cz.no).first)/\c'.st=(cs.getD k Cz.no).st/\(c'.fa=(os.getD at' Wd.no).a\/c'.fa=(cs.getD k Cz.no).fa))/\Mk3 B mb ob mp w w':=by
 obtain ⟨fin,a,n,cap,arcs⟩:=x;simp only [Sw.Good] at hx hto hbig hnm hmem ⊢;obtain ⟨ca,cc,rfl,hcn⟩:=jh h.row;obtain ⟨hl1,hl2,hl3⟩:=hlen;have HNS:Hid (ns.length=N):=hdq hl2;have HCL:Hid (cs.length=L.length):=hdq hl3;have HOS:Hid (os.length=N):=hdq hl1;have HM0:=hdq h;have HTO:=hdq hto;have HBIG:Hid (n<=2000000):=hdq hbig;have HNM:=hdq hnm;have HMEM:=hdq hmem;have HL7:=hdq hL7;have HSH:=hdq hshort;have HWFS:Hid (∀y∈arcs.map (fun a=>(a.1,P a.2)),(Lit.int .i64 y.1).wf=true/\(Lit.int .i64 y.2).wf=true):=hdq (ahc hnm);have HLEN:Hid ((arcs.map fun a=>(a.1,P a.2)).length=n):=hdq (by rw [List.length_map];exact hx.1)
 have HX:=hdq hx;have HMX:Hid (Tryz.prog.follows .mixedOrders=true):=by show _=_;kernel_rfl
 have hms:mb<w.heap.size:=by have:=h.lt;omega
 have hcl:cs.length<=7000:=by omega
 clear h hx hto hbig hnm hmem hL7 hshort hl1 hl2 hl3;go_enter Tryz.func68,Tryz.ntmps68;go_wp2_with fail;generalize hWy:World.alloc w _=wy;have hwy:Below w.heap.size w wy:=by rw [<-hWy];exact (Below.refl _ w).alloc lrf _
 have hxo:wy.heap[w.heap.size]?=some (.cells #[.bool fin,.slice a n cap] 58 (0,0)):=by rw [<-hWy];exact han w _
 have hyb:Below w.heap.size w wy.drew:=al hwy ⟨1,rfl⟩;have HYB:=hdq hyb;have HM1:=hdq (HM0.out.below hyb);have HX1:Hid (Sw.Good wy.drew ⟨fin,a,n,cap,arcs⟩):=hdq (Ars.below HX.out hyb lrf);have HOF1:Hid (Sl .i64 wy.drew (some ⟨ob,0,none⟩) N N ns):=hdq (Sl.of_owns HM1.out.of HM1.out.ofw HNS.out);have hxo':wy.drew.heap[w.heap.size]?=some (.cells #[.bool fin,.slice a n cap] 58 (0,0)):=hxo;have c0y:wy.drew.cell? ⟨w.heap.size,0,none⟩=some (.bool fin):=by rw [ae hxo'];rfl
 have c1y:wy.drew.cell? ⟨w.heap.size,1,none⟩=some (.slice a n cap):=by rw [ae hxo'];rfl
 have hmy:wy.drew.cell? ⟨mb,1,none⟩=some (.slice (some ⟨ob,0,none⟩) N N):=by rw [ae HM1.out.box];rfl
 have HSK:Hid (∀W,Below wy.drew.heap.size wy.drew W->W.cell? ⟨mb,1,none⟩=some (.slice (some ⟨ob,0,none⟩) N N)):=hdq (fun W hW=>by rw [ae (HM1.out.below hW).box];rfl)
 have HXO:Hid (∀W,Below wy.drew.heap.size wy.drew W->W.heap[w.heap.size]?=some (.cells #[.bool fin,.slice a n cap] 58 (0,0))/\∀j,W.frozen? ⟨w.heap.size,j,none⟩=false):=hdq (fun W hW=>by
  have h1:=(hW.block w.heap.size (Array.getElem?_eq_some_iff.1 hxo').1).trans hxo'
  exact ⟨h1,fun j=>frozen_of_row W _ j _ _ h1⟩)
 have HSE:Hid (∀W,Below wy.drew.heap.size wy.drew W->∀u u',((W.setCell ⟨w.heap.size,0,none⟩ u).setCell ⟨w.heap.size,1,none⟩ u').cell? ⟨mb,1,none⟩=some (.slice (some ⟨ob,0,none⟩) N N)):=hdq (fun W hW u u'=>by
  refine (World.cell?_setCell_other (w:=W.setCell ⟨w.heap.size,0,none⟩ u) (a:=⟨w.heap.size,1,none⟩) (b:=⟨mb,1,none⟩) (v:=u') ?_).trans ((World.cell?_setCell_other (w:=W) (a:=⟨w.heap.size,0,none⟩) (b:=⟨mb,1,none⟩) (v:=u) ?_).trans (HSK.out W hW))
  ·intro e;simp only [Addr.mk.injEq] at e;omega
  ·intro e;simp only [Addr.mk.injEq] at e;omega)
 have hmx:=HMX.out;have HBX:Hid (w.heap.size<wy.drew.heap.size):=hdq (Array.getElem?_eq_some_iff.1 hxo').1;clear hWy hwy hyb hxo hxo';refine wp_region_held_drew (S:=(fun W=>W.cell? ⟨mb,1,none⟩=some (.slice (some ⟨ob,0,none⟩) N N))) (by kernel_rfl) (by first|((first|exact hS6|exact hS5|exact HSK.out _ (Below.refl _ _)))|((try dsimp only);(first|exact hS6|exact hS5|exact HSK.out _ (Below.refl _ _)))) (fun hHeld=>?_)
 refine t_h 1 ?_;refine t_h 2 ?_;refine t_h 3 ?_;refine t_h 4 ?_;refine r_h 0 (fun K hK=>?_);go_simp;refine k_h hK (by (try dsimp only);(first|exact hS6|exact hS5|exact HSK.out _ (Below.refl _ _))) (fun hHeld=>?_)
 clear hK K;refine r_h 5 (fun K hK=>?_);go_simp;go_at_call 113;refine (agx ⟨fin,a,n,cap,arcs⟩ (some ⟨ob,0,none⟩) N N ns P _ HX1.out HOF1.out HTO.out HBIG.out).mono ?_;rintro e w5 ⟨gl,rfl,hgl,hown5,hb5⟩;have hS5:=HSK.out w5 hb5;obtain ⟨hx5,hf5⟩:=HXO.out w5 hb5;have c05:w5.cell? ⟨w.heap.size,0,none⟩=some (.bool fin):=by rw [ae hx5];rfl
 have c15:w5.cell? ⟨w.heap.size,1,none⟩=some (.slice a n cap):=by rw [ae hx5];rfl
 have hS6:=HSE.out w5 hb5 (.bool fin) (.slice (some ⟨gl,0,none⟩) n n);go_wp2_with fail;refine k_h hK (by (try dsimp only);(first|exact hS6|exact hS5|exact HSK.out _ (Below.refl _ _))) (fun hHeld=>?_)
 clear hK K;refine r_h 6 (fun K hK=>?_);go_simp;refine k_h hK (by (try dsimp only);(first|exact hS6|exact hS5|exact HSK.out _ (Below.refl _ _))) (fun hHeld=>?_)
 clear hK K;refine wpAnyH_done (by kernel_rfl) ?_ _
 have HM6:=hdq (adj HM0.out HYB.out hb5 hx5 hown5 hgl HBX.out);clear hS5 hS6 c05 c15 hx5 hf5 hown5 hb5 hHeld;generalize World.setCell (World.setCell w5 _ _) _ _=w6 at HM6 ⊢;clear HX1 HOF1 HXO HSK HSE HM1 HYB c0y c1y hmy;obtain ⟨bw,hbw⟩:∃bw,os.getD at' Wd.no=bw:=⟨_,rfl⟩;obtain ⟨bo,bl,bk,bz⟩:=bw;have HBW:=hdq hbw;have hm06:w6.cell? ⟨mb,0,none⟩=some (.slice (some ⟨g,0,none⟩) N N):=by rw [ae HM6.out.1.box];rfl
 have hbg6:w6.cell? ⟨g,at',none⟩=some (.slice bo bl bk):=by rw [HM6.out.1.begs at' hat,hbw];rfl
 have hatz:(at':Int)<(N:Int):=by omega
 clear hbw;go_wp2_with fail;have HMD:Hid (Mr w6.drew B g mb ob mp N os ns L cs (.slice ca cs.length cc)):=hdq (HM6.out.1.drew 1);have HXD:Hid (w6.drew.heap[w.heap.size]?=some (.cells #[.bool fin,.slice (some ⟨gl,0,none⟩) n n] 58 (0,0))):=hdq HM6.out.2.1;have HAD:Hid (w6.drew.ownsRow w.heap.size 95 2 (.slice (some ⟨gl,0,none⟩) n n) n (acells (arcs.map fun a=>(a.1,P a.2)))):=hdq (af HM6.out.2.2.1 (al (Below.refl _ w6) ⟨1,rfl⟩) lrf);have HKD:Hid (Mk3 B mb ob mp w w6.drew):=hdq (HM6.out.2.2.2.2.trans (Mk3.grown (de (al (Below.refl _ w6) ⟨1,rfl⟩)) HM6.out.1.lt.2.2.2 (fun r e=>by cases e)))
 have HSZ:Hid (w6.drew.cell? ⟨mb,2,none⟩=some (.map (some mp))/\w6.drew.cell? ⟨w.heap.size,0,none⟩=some (.bool fin)/\w6.drew.cell? ⟨w.heap.size,1,none⟩=some (.slice (some ⟨gl,0,none⟩) n n)):=hdq ⟨by rw [ae HMD.out.box];rfl,by rw [ae HXD.out];rfl,by rw [ae HXD.out];rfl⟩
 have HNE8:Hid (some mb≠(some mp:Option Nat)/\some w.heap.size≠(some mp:Option Nat)):=hdq ⟨by have:=HMD.out.ne;simp only [ne_eq,sij];omega,by have:=HM0.out.lt;simp only [ne_eq,sij];omega⟩
 have HGL:Hid (w.heap.size<gl):=hdq HM6.out.2.2.2.1;have HGD:Hid (Sw.Good w6.drew ⟨fin,some ⟨gl,0,none⟩,n,n,arcs.map fun a=>(a.1,P a.2)⟩):=hdq (Ars.of_owns HAD.out HWFS.out HLEN.out);have hmx:=HMX.out;clear hm06 hbg6 HM6;refine wp_region_held_drew (S:=(fun W=>W.cell? ⟨mb,2,none⟩=some (.map (some mp))/\W.cell? ⟨w.heap.size,0,none⟩=some (.bool fin)/\W.cell? ⟨w.heap.size,1,none⟩=some (.slice (some ⟨gl,0,none⟩) n n))) (by kernel_rfl) (by first|((first|exact hS8|exact HSZ.out))|((try dsimp only);(first|exact hS8|exact HSZ.out))) (fun hHeld=>?_)
 refine wpAnyH_take (i:=0) (v:=?vmgb1) rfl (by kernel_rfl) (by kernel_rfl) (by kernel_rfl) (fun _ _ _ h=>h) (Or.inl ⟨by rfl,?hmgb1⟩) (by assumption) ?rmgb1
 case hmgb1=>intro w hSw;(try dsimp only at hSw);go_simp;try with_reducible rfl
 simp only [Act.put,List.getElem_toArray,List.getElem_cons_zero,List.setIfInBounds_toArray,List.set_cons_succ,List.set_cons_zero];refine t_h 1 ?_;refine wpAnyH_take (i:=2) (v:=?vmgb7) rfl (by kernel_rfl) (by kernel_rfl) (by kernel_rfl) (fun _ _ _ h=>h) (Or.inl ⟨by rfl,?hmgb7⟩) (by assumption) ?rmgb7
 case hmgb7=>intro w hSw;(try dsimp only at hSw);go_simp;try with_reducible rfl
 simp only [Act.put,List.getElem_toArray,List.setIfInBounds_toArray];refine wpAnyH_take (i:=3) (v:=?vmgb10) rfl (by kernel_rfl) (by kernel_rfl) (by kernel_rfl) (fun _ _ _ h=>h) (Or.inl ⟨by rfl,?hmgb10⟩) (by assumption) ?rmgb10
 case hmgb10=>intro w hSw;(try dsimp only at hSw);go_simp;try with_reducible rfl
 simp only [Act.put,List.getElem_toArray];refine wpAnyH_take (i:=4) (v:=?vmgb13) rfl (by kernel_rfl) (by kernel_rfl) (by kernel_rfl) (fun _ _ _ h=>h) (Or.inl ⟨by rfl,?hmgb13⟩) (by assumption) ?rmgb13
 case hmgb13=>intro w hSw;(try dsimp only at hSw);go_simp;try with_reducible rfl
 simp only [Act.put,List.getElem_toArray];refine r_h 5 (fun K hK=>?_);go_simp;go_at_call 114;refine (aqa mp L (⟨fin,some ⟨gl,0,none⟩,n,n,List.map (fun y:Int × Int=>((y.1,P y.2):Int × Int)) arcs⟩:Sw) _ HMD.out.map HGD.out HNM.out HBIG.out HMEM.out).mono ?_;rintro e w8 ⟨kk,rfl,hkk,hLk,hmap8,hg8⟩;have hS8:=And.intro (hg8.cell HSZ.out.1 HNE8.out.1) (And.intro (hg8.cell HSZ.out.2.1 HNE8.out.2) (hg8.cell HSZ.out.2.2 HNE8.out.2));go_wp2_with fail;refine k_h hK (by (try dsimp only);(first|exact hS8|exact HSZ.out)) (fun hHeld=>?_)
 clear hK K;refine t_h 6 ?_;refine wpAnyH_done (by kernel_rfl) ?_ _
 have HM8:=hdq (HMD.out.name hg8 hmap8);have HX8:Hid (w8.heap[w.heap.size]?=some (.cells #[.bool fin,.slice (some ⟨gl,0,none⟩) n n] 58 (0,0))):=hdq ((hg8.block _ (hltq HXD.out) HNE8.out.2).trans HXD.out);have HA8:=hdq (HAD.out.kept hg8 (.inr (by have:=HM0.out.lt;have:=HGL.out;simp only [Value.ownBlock,ne_eq,sij];omega)))
 have HK8:Hid (Mk3 B mb ob mp w w8):=hdq (HKD.out.trans (Mk3.grown hg8 HMD.out.lt.2.2.2 (fun r e=>by simp only [sij] at e;omega)))
 have hkwf:(Lit.int .i64 (kk:Int)).wf=true:=by have:=HL7.out;apply WalkArith.wf_i64<;>omega
 have HM9:=hdq (HM8.out.put (at':=at') (kk:Int) hkwf);have hof8:w8.cell? ⟨ob,at',none⟩=some (.int .i64 (ns.getD at' 0)):=by rw [HM8.out.of.cellAt at' (by omega)];simp [ah,HNS.out,hat]
 have hff8:w8.frozen? ⟨ob,at',none⟩=false:=HM8.out.of.frozenAt _;have hm18:w8.cell? ⟨mb,1,none⟩=some (.slice (some ⟨ob,0,none⟩) N N):=by rw [ae HM8.out.box];rfl
 have hm39:(w8.setCell ⟨ob,at',none⟩ (.int .i64 (kk:Int))).cell? ⟨mb,3,none⟩=some (.slice ca cs.length cc):=by rw [ae HM9.out.box];rfl
 have HK9:Hid (Mk3 B mb ob mp w (w8.setCell ⟨ob,at',none⟩ (.int .i64 (kk:Int)))):=hdq (HK8.out.trans (Mk3.grown (aq w8 ⟨ob,at',none⟩ _) HM8.out.lt.2.2.2 (fun r e=>by simp only [sij] at e;omega)))
 clear hHeld hS8 hg8 hmap8 HMD HXD HAD HKD HSZ HGD HM8 HK8
 have hne:((kk:Int)==(cs.length:Int))=false:=by
  have h1:=hkk;rw [<-HCL.out] at h1;simp;omega
 have hpos:0<cs.length:=by have:=HCL.out;omega
 obtain ⟨cb,rfl⟩:=ku HM9.out.row hpos;obtain ⟨xt,hxt⟩:∃xt,cs.getD kk Cz.no=xt:=⟨_,rfl⟩;have HXT:=hdq hxt;obtain ⟨xnum,xl,xa,xn,xc,xf,xst⟩:=xt;have HKT:Hid (kk<cs.length):=hdq (by have:=HCL.out;omega)
 have HKT':=HKT;have HMT:=HM9;have HKN:=hdq (And.intro hkk hLk);have hbm:(⟨bo,bl,bk,bz⟩:Wd)∈os:=by rw [<-HBW.out,gdq,geg (by rw [HOS.out];exact hat),Option.getD_some];exact List.getElem_mem _
 have HBF:Hid (∀b off,bo=some ⟨b,off,none⟩->Far B mb ob mp b):=hdq (HMT.out.far _ hbm);have HBS:Hid (Sl .i64 (w8.setCell ⟨ob,at',none⟩ (.int .i64 (kk:Int))) bo bl bk bz/\(∀b off,bo=some ⟨b,off,none⟩->b≠cb)/\bl<=1000):=hdq ⟨HMT.out.words _ hbm,fun b off e e'=>by have h1:=(HBF.out b off e).1;have h2:=(HMT.out.row.lt cb rfl).1;omega,HSH.out _ hbm⟩
 have HFB:Hid (∀b off,xa=some ⟨b,off,none⟩->b≠cb):=hdq (fun b off e e'=>by
  have h0:=HMT.out.each _ (dg HKT.out);rw [HXT.out] at h0
  have h1:=(h0.far b off e).1;have h2:=(HMT.out.row.lt cb rfl).1;omega)
 clear hbm;clear hxt hpos hkk hLk;have HC:Hid (Cx (w8.setCell ⟨ob,at',none⟩ (.int .i64 (kk:Int))) B mb ob mp ⟨xnum,xl,xa,xn,xc,xf,xst⟩):=hdq (HMT.out.each _ (by have hmm:=dg HKT.out;rw [HXT.out] at hmm;exact hmm))
 have hcell:=fun j (hj:j<5)=>rl HMT.out.row HKT.out HXT.out hj;have hl1:(w8.setCell ⟨ob,at',none⟩ (.int .i64 (kk:Int))).cell? ⟨cb,kk*5+1,none⟩=some (.int .i64 (xl:Int)):=hcell 1 (by omega)
 have hl2:(w8.setCell ⟨ob,at',none⟩ (.int .i64 (kk:Int))).cell? ⟨cb,kk*5+2,none⟩=some (.slice xa xn xc):=hcell 2 (by omega)
 have HL12:=hdq (And.intro hl1 hl2);have hm3t:(w8.setCell ⟨ob,at',none⟩ (.int .i64 (kk:Int))).cell? ⟨mb,3,none⟩=some (.slice (some ⟨cb,0,none⟩) cs.length cc):=by rw [ae HMT.out.box];rfl
 have hkt:kk<cs.length:=HKT'.out;have hktz:(kk:Int)<(cs.length:Int):=by omega
 clear hcell hl1 hl2;go_wp2_with (go_at_call 115;refine (yr cb (kk*5) xl bo xa bl bk xn xc bz xf _ HL12.out.1 HL12.out.2 (fun j=>HMT.out.row.frozenAt j) HBS.out.1 HC.out.first HBS.out.2.1 HFB.out HC.out.long HBS.out.2.2).mono ?_;rintro e w11 ⟨rfl,q,hw11⟩;have HT:=hdq (rm HMT.out HKT.out HXT.out HBS.out.1 HBF.out HBS.out.2.2 hw11);clear hw11)
 go_end0;exact ⟨rfl,kk,_,_,HKN.out.1,HKN.out.2,HT.out.1,⟨by rw [HXT.out];exact Cz.take_num _ _,by rw [HXT.out,HBW.out];exact Cz.take_long _ _,by rw [HXT.out,HBW.out];exact Cz.take_first _ _,by rw [HXT.out];exact Cz.take_st _ _,by rw [HXT.out,HBW.out];exact Cz.take_fa _ _⟩,HK9.out.trans HT.out.2⟩

theorem aqg (B g mb ob mp N at':Nat) (os:List Wd) (ns:List Int) (L:List St) (cs:List Cz) (v:Value) (x:Sw) (P:Int->Int) (w:World) (h:Mr w B g mb ob mp N os ns L cs v) (hat:at'<N) (hlen:os.length=N/\ns.length=N/\cs.length=L.length) (_hN:N<=6001)
 (hx:x.Good w) (hto:∀a∈x.arcs,0<=a.2/\a.2<(N:Int)/\ns.getD a.2.toNat 0=P a.2) (hbig:x.n<=2000000) (hnm:Named ⟨x.fin,x.arcs.map fun a=>(a.1,P a.2)⟩) (hL7:L.length<=7000) (hshort:∀y∈os,y.n<=1000) (hmem:(⟨x.fin,x.arcs.map fun a=>(a.1,P a.2)⟩:St)∉L) :
 Calls Tryz.prog 68 #[.pointer (some ⟨mb,0,none⟩),.int .i64 (at':Int),.agg #[.bool x.fin,.slice x.a x.n x.cap]] w fun e w'=>e=.returned (.tuple #[])/\∃v' c',Mr w' B g mb ob mp N os (ns.set at' (L.length:Int)) (L++[⟨x.fin,x.arcs.map fun a=>(a.1,P a.2)⟩]) (cs++[c']) v'/\(c'.num=L.length/\c'.long=(os.getD at' Wd.no).n/\c'.first=(os.getD at' Wd.no).zs/\c'.st.st=⟨x.fin,x.arcs.map fun a=>(a.1,P a.2)⟩/\c'.fa=(os.getD at' Wd.no).a)/\Mk3 B mb ob mp w w':=by
 obtain ⟨fin,a,n,cap,arcs⟩:=x;simp only [Sw.Good] at hx hto hbig hnm hmem ⊢;obtain ⟨ca,cc,rfl,hcn⟩:=jh h.row;obtain ⟨hl1,hl2,hl3⟩:=hlen;have HNS:Hid (ns.length=N):=hdq hl2;have HCL:Hid (cs.length=L.length):=hdq hl3;have HOS:Hid (os.length=N):=hdq hl1;have HM0:=hdq h;have HTO:=hdq hto;have HBIG:Hid (n<=2000000):=hdq hbig;have HNM:=hdq hnm;have HMEM:=hdq hmem;have HL7:=hdq hL7;have HSH:=hdq hshort;have HWFS:Hid (∀y∈arcs.map (fun a=>(a.1,P a.2)),(Lit.int .i64 y.1).wf=true/\(Lit.int .i64 y.2).wf=true):=hdq (ahc hnm);have HLEN:Hid ((arcs.map fun a=>(a.1,P a.2)).length=n):=hdq (by rw [List.length_map];exact hx.1)
 have HX:=hdq hx;have HMX:Hid (Tryz.prog.follows .mixedOrders=true):=by show _=_;kernel_rfl
 have hms:mb<w.heap.size:=by have:=h.lt;omega
 have hcl:cs.length<=7000:=by omega
 clear h hx hto hbig hnm hmem hL7 hshort hl1 hl2 hl3;go_enter Tryz.func68,Tryz.ntmps68;go_wp2_with fail;generalize hWy:World.alloc w _=wy;have hwy:Below w.heap.size w wy:=by rw [<-hWy];exact (Below.refl _ w).alloc lrf _
 have hxo:wy.heap[w.heap.size]?=some (.cells #[.bool fin,.slice a n cap] 58 (0,0)):=by rw [<-hWy];exact han w _
 have hyb:Below w.heap.size w wy.drew:=al hwy ⟨1,rfl⟩;have HYB:=hdq hyb;have HM1:=hdq (HM0.out.below hyb);have HX1:Hid (Sw.Good wy.drew ⟨fin,a,n,cap,arcs⟩):=hdq (Ars.below HX.out hyb lrf);have HOF1:Hid (Sl .i64 wy.drew (some ⟨ob,0,none⟩) N N ns):=hdq (Sl.of_owns HM1.out.of HM1.out.ofw HNS.out);have hxo':wy.drew.heap[w.heap.size]?=some (.cells #[.bool fin,.slice a n cap] 58 (0,0)):=hxo;have c0y:wy.drew.cell? ⟨w.heap.size,0,none⟩=some (.bool fin):=by rw [ae hxo'];rfl
 have c1y:wy.drew.cell? ⟨w.heap.size,1,none⟩=some (.slice a n cap):=by rw [ae hxo'];rfl
 have hmy:wy.drew.cell? ⟨mb,1,none⟩=some (.slice (some ⟨ob,0,none⟩) N N):=by rw [ae HM1.out.box];rfl
 have HSK:Hid (∀W,Below wy.drew.heap.size wy.drew W->W.cell? ⟨mb,1,none⟩=some (.slice (some ⟨ob,0,none⟩) N N)):=hdq (fun W hW=>by rw [ae (HM1.out.below hW).box];rfl)
 have HXO:Hid (∀W,Below wy.drew.heap.size wy.drew W->W.heap[w.heap.size]?=some (.cells #[.bool fin,.slice a n cap] 58 (0,0))/\∀j,W.frozen? ⟨w.heap.size,j,none⟩=false):=hdq (fun W hW=>by
  have h1:=(hW.block w.heap.size (Array.getElem?_eq_some_iff.1 hxo').1).trans hxo'
  exact ⟨h1,fun j=>frozen_of_row W _ j _ _ h1⟩)
 have HSE:Hid (∀W,Below wy.drew.heap.size wy.drew W->∀u u',((W.setCell ⟨w.heap.size,0,none⟩ u).setCell ⟨w.heap.size,1,none⟩ u').cell? ⟨mb,1,none⟩=some (.slice (some ⟨ob,0,none⟩) N N)):=hdq (fun W hW u u'=>by
  refine (World.cell?_setCell_other (w:=W.setCell ⟨w.heap.size,0,none⟩ u) (a:=⟨w.heap.size,1,none⟩) (b:=⟨mb,1,none⟩) (v:=u') ?_).trans ((World.cell?_setCell_other (w:=W) (a:=⟨w.heap.size,0,none⟩) (b:=⟨mb,1,none⟩) (v:=u) ?_).trans (HSK.out W hW))
  ·intro e;simp only [Addr.mk.injEq] at e;omega
  ·intro e;simp only [Addr.mk.injEq] at e;omega)
 have hmx:=HMX.out;have HBX:Hid (w.heap.size<wy.drew.heap.size):=hdq (Array.getElem?_eq_some_iff.1 hxo').1;clear hWy hwy hyb hxo hxo';refine wp_region_held_drew (S:=(fun W=>W.cell? ⟨mb,1,none⟩=some (.slice (some ⟨ob,0,none⟩) N N))) (by kernel_rfl) (by first|((first|exact hS6|exact hS5|exact HSK.out _ (Below.refl _ _)))|((try dsimp only);(first|exact hS6|exact hS5|exact HSK.out _ (Below.refl _ _)))) (fun hHeld=>?_)
 refine t_h 1 ?_;refine t_h 2 ?_;refine t_h 3 ?_;refine t_h 4 ?_;refine r_h 0 (fun K hK=>?_);go_simp;refine k_h hK (by (try dsimp only);(first|exact hS6|exact hS5|exact HSK.out _ (Below.refl _ _))) (fun hHeld=>?_)
 clear hK K;refine r_h 5 (fun K hK=>?_);go_simp;go_at_call 113;refine (agx ⟨fin,a,n,cap,arcs⟩ (some ⟨ob,0,none⟩) N N ns P _ HX1.out HOF1.out HTO.out HBIG.out).mono ?_;rintro e w5 ⟨gl,rfl,hgl,hown5,hb5⟩;have hS5:=HSK.out w5 hb5;obtain ⟨hx5,hf5⟩:=HXO.out w5 hb5;have c05:w5.cell? ⟨w.heap.size,0,none⟩=some (.bool fin):=by rw [ae hx5];rfl
 have c15:w5.cell? ⟨w.heap.size,1,none⟩=some (.slice a n cap):=by rw [ae hx5];rfl
 have hS6:=HSE.out w5 hb5 (.bool fin) (.slice (some ⟨gl,0,none⟩) n n);go_wp2_with fail;refine k_h hK (by (try dsimp only);(first|exact hS6|exact hS5|exact HSK.out _ (Below.refl _ _))) (fun hHeld=>?_)
 clear hK K;refine r_h 6 (fun K hK=>?_);go_simp;refine k_h hK (by (try dsimp only);(first|exact hS6|exact hS5|exact HSK.out _ (Below.refl _ _))) (fun hHeld=>?_)
 clear hK K;refine wpAnyH_done (by kernel_rfl) ?_ _
 have HM6:=hdq (adj HM0.out HYB.out hb5 hx5 hown5 hgl HBX.out);clear hS5 hS6 c05 c15 hx5 hf5 hown5 hb5 hHeld;generalize World.setCell (World.setCell w5 _ _) _ _=w6 at HM6 ⊢;clear HX1 HOF1 HXO HSK HSE HM1 HYB c0y c1y hmy;obtain ⟨bw,hbw⟩:∃bw,os.getD at' Wd.no=bw:=⟨_,rfl⟩;obtain ⟨bo,bl,bk,bz⟩:=bw;have HBW:=hdq hbw;have hm06:w6.cell? ⟨mb,0,none⟩=some (.slice (some ⟨g,0,none⟩) N N):=by rw [ae HM6.out.1.box];rfl
 have hbg6:w6.cell? ⟨g,at',none⟩=some (.slice bo bl bk):=by rw [HM6.out.1.begs at' hat,hbw];rfl
 have hatz:(at':Int)<(N:Int):=by omega
 clear hbw;go_wp2_with fail;have HMD:Hid (Mr w6.drew B g mb ob mp N os ns L cs (.slice ca cs.length cc)):=hdq (HM6.out.1.drew 1);have HXD:Hid (w6.drew.heap[w.heap.size]?=some (.cells #[.bool fin,.slice (some ⟨gl,0,none⟩) n n] 58 (0,0))):=hdq HM6.out.2.1;have HAD:Hid (w6.drew.ownsRow w.heap.size 95 2 (.slice (some ⟨gl,0,none⟩) n n) n (acells (arcs.map fun a=>(a.1,P a.2)))):=hdq (af HM6.out.2.2.1 (al (Below.refl _ w6) ⟨1,rfl⟩) lrf);have HKD:Hid (Mk3 B mb ob mp w w6.drew):=hdq (HM6.out.2.2.2.2.trans (Mk3.grown (de (al (Below.refl _ w6) ⟨1,rfl⟩)) HM6.out.1.lt.2.2.2 (fun r e=>by cases e)))
 have HSZ:Hid (w6.drew.cell? ⟨mb,2,none⟩=some (.map (some mp))/\w6.drew.cell? ⟨w.heap.size,0,none⟩=some (.bool fin)/\w6.drew.cell? ⟨w.heap.size,1,none⟩=some (.slice (some ⟨gl,0,none⟩) n n)):=hdq ⟨by rw [ae HMD.out.box];rfl,by rw [ae HXD.out];rfl,by rw [ae HXD.out];rfl⟩
 have HNE8:Hid (some mb≠(some mp:Option Nat)/\some w.heap.size≠(some mp:Option Nat)):=hdq ⟨by have:=HMD.out.ne;simp only [ne_eq,sij];omega,by have:=HM0.out.lt;simp only [ne_eq,sij];omega⟩
 have HGL:Hid (w.heap.size<gl):=hdq HM6.out.2.2.2.1;have HGD:Hid (Sw.Good w6.drew ⟨fin,some ⟨gl,0,none⟩,n,n,arcs.map fun a=>(a.1,P a.2)⟩):=hdq (Ars.of_owns HAD.out HWFS.out HLEN.out);have hmx:=HMX.out;clear hm06 hbg6 HM6;refine wp_region_held_drew (S:=(fun W=>W.cell? ⟨mb,2,none⟩=some (.map (some mp))/\W.cell? ⟨w.heap.size,0,none⟩=some (.bool fin)/\W.cell? ⟨w.heap.size,1,none⟩=some (.slice (some ⟨gl,0,none⟩) n n))) (by kernel_rfl) (by first|((first|exact hS8|exact HSZ.out))|((try dsimp only);(first|exact hS8|exact HSZ.out))) (fun hHeld=>?_)
 refine wpAnyH_take (i:=0) (v:=?vmgb1) rfl (by kernel_rfl) (by kernel_rfl) (by kernel_rfl) (fun _ _ _ h=>h) (Or.inl ⟨by rfl,?hmgb1⟩) (by assumption) ?rmgb1
 case hmgb1=>intro w hSw;(try dsimp only at hSw);go_simp;try with_reducible rfl
 simp only [Act.put,List.getElem_toArray,List.getElem_cons_zero,List.setIfInBounds_toArray,List.set_cons_succ,List.set_cons_zero];refine t_h 1 ?_;refine wpAnyH_take (i:=2) (v:=?vmgb7) rfl (by kernel_rfl) (by kernel_rfl) (by kernel_rfl) (fun _ _ _ h=>h) (Or.inl ⟨by rfl,?hmgb7⟩) (by assumption) ?rmgb7
 case hmgb7=>intro w hSw;(try dsimp only at hSw);go_simp;try with_reducible rfl
 simp only [Act.put,List.getElem_toArray,List.setIfInBounds_toArray];refine wpAnyH_take (i:=3) (v:=?vmgb10) rfl (by kernel_rfl) (by kernel_rfl) (by kernel_rfl) (fun _ _ _ h=>h) (Or.inl ⟨by rfl,?hmgb10⟩) (by assumption) ?rmgb10
 case hmgb10=>intro w hSw;(try dsimp only at hSw);go_simp;try with_reducible rfl
 simp only [Act.put,List.getElem_toArray];refine wpAnyH_take (i:=4) (v:=?vmgb13) rfl (by kernel_rfl) (by kernel_rfl) (by kernel_rfl) (fun _ _ _ h=>h) (Or.inl ⟨by rfl,?hmgb13⟩) (by assumption) ?rmgb13
 case hmgb13=>intro w hSw;(try dsimp only at hSw);go_simp;try with_reducible rfl
 simp only [Act.put,List.getElem_toArray];refine r_h 5 (fun K hK=>?_);go_simp;go_at_call 114;refine (aly mp L (⟨fin,some ⟨gl,0,none⟩,n,n,List.map (fun y:Int × Int=>((y.1,P y.2):Int × Int)) arcs⟩:Sw) _ HMD.out.map HGD.out HNM.out HBIG.out HMEM.out HL7.out).mono ?_;rintro e w8 ⟨rfl,hmap8,hg8⟩;have hS8:=And.intro (hg8.cell HSZ.out.1 HNE8.out.1) (And.intro (hg8.cell HSZ.out.2.1 HNE8.out.2) (hg8.cell HSZ.out.2.2 HNE8.out.2));go_wp2_with fail;refine k_h hK (by (try dsimp only);(first|exact hS8|exact HSZ.out)) (fun hHeld=>?_)
 clear hK K;refine t_h 6 ?_;refine wpAnyH_done (by kernel_rfl) ?_ _
 have HM8:=hdq (HMD.out.name hg8 hmap8);have HX8:Hid (w8.heap[w.heap.size]?=some (.cells #[.bool fin,.slice (some ⟨gl,0,none⟩) n n] 58 (0,0))):=hdq ((hg8.block _ (hltq HXD.out) HNE8.out.2).trans HXD.out);have HA8:=hdq (HAD.out.kept hg8 (.inr (by have:=HM0.out.lt;have:=HGL.out;simp only [Value.ownBlock,ne_eq,sij];omega)))
 have HK8:Hid (Mk3 B mb ob mp w w8):=hdq (HKD.out.trans (Mk3.grown hg8 HMD.out.lt.2.2.2 (fun r e=>by simp only [sij] at e;omega)))
 obtain ⟨kk,hkd⟩:∃kk,L.length=kk:=⟨_,rfl⟩;have hkc:cs.length=kk:=by have:=HCL.out;omega
 have HKC:=hdq hkc;have HKLD:=hdq hkd;rw [hkd];have hkwf:(Lit.int .i64 (kk:Int)).wf=true:=by have:=HL7.out;apply WalkArith.wf_i64<;>omega
 clear hkc hkd;have HM9:=hdq (HM8.out.put (at':=at') (kk:Int) hkwf);have hof8:w8.cell? ⟨ob,at',none⟩=some (.int .i64 (ns.getD at' 0)):=by rw [HM8.out.of.cellAt at' (by omega)];simp [ah,HNS.out,hat]
 have hff8:w8.frozen? ⟨ob,at',none⟩=false:=HM8.out.of.frozenAt _;have hm18:w8.cell? ⟨mb,1,none⟩=some (.slice (some ⟨ob,0,none⟩) N N):=by rw [ae HM8.out.box];rfl
 have hm39:(w8.setCell ⟨ob,at',none⟩ (.int .i64 (kk:Int))).cell? ⟨mb,3,none⟩=some (.slice ca cs.length cc):=by rw [ae HM9.out.box];rfl
 have HK9:Hid (Mk3 B mb ob mp w (w8.setCell ⟨ob,at',none⟩ (.int .i64 (kk:Int)))):=hdq (HK8.out.trans (Mk3.grown (aq w8 ⟨ob,at',none⟩ _) HM8.out.lt.2.2.2 (fun r e=>by simp only [sij] at e;omega)))
 clear hHeld hS8 hg8 hmap8 HMD HXD HAD HKD HSZ HGD HM8 HK8
 have hne:((kk:Int)==(cs.length:Int))=true:=by
  have:=HKC.out;simp;omega
 have HCX:Hid (Cx (w8.setCell ⟨ob,at',none⟩ (.int .i64 (kk:Int))).drew B mb ob mp ⟨kk,0,bo,bl,bk,bz,⟨fin,some ⟨gl,0,none⟩,n,n,arcs.map fun a=>(a.1,P a.2)⟩⟩):=hdq (by
  have hbm:(⟨bo,bl,bk,bz⟩:Wd)∈os:=by rw [<-HBW.out,gdq,geg (by rw [HOS.out];exact hat),Option.getD_some];exact List.getElem_mem _
  have hd:Below (w8.setCell ⟨ob,at',none⟩ (.int .i64 (kk:Int))).heap.size (w8.setCell ⟨ob,at',none⟩ (.int .i64 (kk:Int))) (w8.setCell ⟨ob,at',none⟩ (.int .i64 (kk:Int))).drew:=al (Below.refl _ _) ⟨1,rfl⟩;have ho:=af (HA8.out.kept (aq w8 ⟨ob,at',none⟩ (.int .i64 (kk:Int))) (.inr (by have:=HM0.out.lt;have:=HGL.out;simp only [Value.ownBlock,ne_eq,sij];omega))) hd lrf
  exact ⟨((HM9.out.words _ hbm).below hd lrf),HM9.out.far _ hbm,by show 0<=1000;omega,Joins.ownsRow_le ho HM0.out.lt.2.2.2,HWFS.out⟩)
 have HX9:Hid ((w8.setCell ⟨ob,at',none⟩ (.int .i64 (kk:Int))).drew.heap[w.heap.size]?=some (.cells #[.bool fin,.slice (some ⟨gl,0,none⟩) n n] 58 (0,0))):=hdq (by
  have h1:=heap_setCell_other w8 ⟨ob,at',none⟩ w.heap.size (.int .i64 (kk:Int)) (by have:=HM0.out.lt;show w.heap.size≠ob;omega)
  exact h1.trans HX8.out)
 go_wp2_with fail;clear hne hof8 hff8 hm18 hm39;have HM9':Hid (Mr (w8.setCell ⟨ob,at',none⟩ (.int .i64 (kk:Int))).drew B g mb ob mp N os (ns.set at' (kk:Int)) (L++[⟨fin,arcs.map fun a=>(a.1,P a.2)⟩]) cs (.slice ca cs.length cc)):=hdq (by have h1:=HM9.out.drew 1;exact h1)
 have HK9':Hid (Mk3 B mb ob mp w (w8.setCell ⟨ob,at',none⟩ (.int .i64 (kk:Int))).drew):=hdq (HK9.out.trans (Mk3.grown (de (al (Below.refl _ (w8.setCell ⟨ob,at',none⟩ (.int .i64 (kk:Int)))) ⟨1,rfl⟩)) HM9.out.lt.2.2.2 (fun r e=>by cases e)))
 clear HM9 HK9 HX8 HA8;generalize hW9:World.setCell w8 _ _=w9 at HCX HX9 HM9' HK9' ⊢;clear hW9;have HM9:Hid (Mr w9.drew B g mb ob mp N os (ns.set at' (kk:Int)) (L++[⟨fin,arcs.map fun a=>(a.1,P a.2)⟩]) cs (.slice ca cs.length cc)):=HM9';clear HM9';have HSZ:Hid (w9.drew.cell? ⟨w.heap.size,0,none⟩=some (.bool fin)/\w9.drew.cell? ⟨w.heap.size,1,none⟩=some (.slice (some ⟨gl,0,none⟩) n n)):=hdq ⟨by rw [ae HX9.out];rfl,by rw [ae HX9.out];rfl⟩
 have HSB:Hid (∀W,Below w9.drew.heap.size w9.drew W->W.cell? ⟨w.heap.size,0,none⟩=some (.bool fin)/\W.cell? ⟨w.heap.size,1,none⟩=some (.slice (some ⟨gl,0,none⟩) n n)):=hdq (fun W hW=>by
  have h1:=(hW.block w.heap.size (hltq HX9.out)).trans HX9.out
  exact ⟨by rw [ae h1];rfl,by rw [ae h1];rfl⟩)
 have HNB:Hid (∀W,Below w9.drew.heap.size w9.drew W->some w.heap.size≠(Value.slice ca cs.length cc).ownBlock):=hdq (fun W hW=>by
  have h1:=(hW.block w.heap.size (hltq HX9.out)).trans HX9.out
  exact ez (HM9.out.below hW).row h1 (fun cur e=>by simp only [Obj.cells.injEq] at e;exact absurd e.2.1 (by decide)))
 have HSF:Hid (∀W:World,(W.cell? ⟨w.heap.size,0,none⟩=some (.bool fin)/\W.cell? ⟨w.heap.size,1,none⟩=some (.slice (some ⟨gl,0,none⟩) n n))->∀u:Value,(W.setCell ⟨mb,3,none⟩ u).cell? ⟨w.heap.size,0,none⟩=some (.bool fin)/\(W.setCell ⟨mb,3,none⟩ u).cell? ⟨w.heap.size,1,none⟩=some (.slice (some ⟨gl,0,none⟩) n n)):=hdq (fun W hW u=>by
  refine ⟨(World.cell?_setCell_other (w:=W) (a:=⟨mb,3,none⟩) (b:=⟨w.heap.size,0,none⟩) (v:=u) ?_).trans hW.1,(World.cell?_setCell_other (w:=W) (a:=⟨mb,3,none⟩) (b:=⟨w.heap.size,1,none⟩) (v:=u) ?_).trans hW.2⟩
  ·intro e;simp only [Addr.mk.injEq] at e;omega
  ·intro e;simp only [Addr.mk.injEq] at e;omega)
 have hm39:w9.drew.cell? ⟨mb,3,none⟩=some (.slice ca cs.length cc):=by rw [ae HM9.out.box];rfl
 have hm39':∀W,Below w9.drew.heap.size w9.drew W->W.cell? ⟨mb,3,none⟩=some (.slice ca cs.length cc):=fun W hW=>by rw [ae (HM9.out.below hW).box];rfl
 have HM39:=hdq hm39';clear hm39';have hmx:=HMX.out;refine wp_region_held_drew (S:=(fun W=>W.cell? ⟨w.heap.size,0,none⟩=some (.bool fin)/\W.cell? ⟨w.heap.size,1,none⟩=some (.slice (some ⟨gl,0,none⟩) n n))) (by kernel_rfl) (by first|((first|exact hSF|exact hSA|exact hSB|exact HSZ.out))|((try dsimp only);(first|exact hSF|exact hSA|exact hSB|exact HSZ.out))) (fun hHeld=>?_)
 refine wpAnyH_take (i:=0) (v:=?vmgc1) rfl (by kernel_rfl) (by kernel_rfl) (by kernel_rfl) (fun _ _ _ h=>h) (Or.inl ⟨by rfl,?hmgc1⟩) (by assumption) ?rmgc1
 case hmgc1=>intro w hSw;(try dsimp only at hSw);go_simp;try with_reducible rfl
 simp only [Act.put,List.getElem_toArray,List.getElem_cons_zero,List.setIfInBounds_toArray,List.set_cons_succ,List.set_cons_zero];refine t_h 1 ?_;refine t_h 2 ?_;refine t_h 3 ?_;refine wpAnyH_take (i:=5) (v:=?vmgc13) rfl (by kernel_rfl) (by kernel_rfl) (by kernel_rfl) (fun _ _ _ h=>h) (Or.inl ⟨by rfl,?hmgc13⟩) (by assumption) ?rmgc13
 case hmgc13=>intro w hSw;(try dsimp only at hSw);go_simp;try with_reducible rfl
 simp only [Act.put,List.getElem_toArray,List.setIfInBounds_toArray];refine wpAnyH_take (i:=6) (v:=?vmgc16) rfl (by kernel_rfl) (by kernel_rfl) (by kernel_rfl) (fun _ _ _ h=>h) (Or.inl ⟨by rfl,?hmgc16⟩) (by assumption) ?rmgc16
 case hmgc16=>intro w hSw;(try dsimp only at hSw);go_simp;try with_reducible rfl
 simp only [Act.put,List.getElem_toArray];refine wpAnyH_take (i:=7) (v:=?vmgc19) rfl (by kernel_rfl) (by kernel_rfl) (by kernel_rfl) (fun _ _ _ h=>h) (Or.inl ⟨by rfl,?hmgc19⟩) (by assumption) ?rmgc19
 case hmgc19=>intro w hSw;(try dsimp only at hSw);go_simp;try with_reducible rfl
 simp only [Act.put,List.getElem_toArray];refine t_h 8 ?_;refine em 4 9 (fun K hK=>?_) (fun K hK=>?_)
 ·go_simp;refine k_h hK (by (try dsimp only);(first|exact hSF|exact hSA|exact hSB|exact HSZ.out)) (fun hHeld=>?_)
  clear hK K;refine r_h 9 (fun K hK=>?_);refine nd (by rfl) (.tmp 49) kk bo bl bk fin (some ⟨gl,0,none⟩) n n (by rfl) (by rfl) ?_
  intro gB wB hcB hbB;have hSB:=HSB.out wB hbB;have hm3B:=HM39.out wB hbB;refine k_h hK (by (try dsimp only);(first|exact hSF|exact hSA|exact hSB|exact HSZ.out)) (fun hHeld=>?_)
  clear hK K;refine r_h 10 (fun K hK=>?_);refine me (by rfl) (.tmp 45) (.tmp 50) (by rfl) B _ cs.length cs (by rfl) (HM9.out.below hbB).row gB ⟨kk,0,bo,bl,bk,bz,⟨fin,some ⟨gl,0,none⟩,n,n,arcs.map fun a=>(a.1,P a.2)⟩⟩ (by rfl) hcB (cs.length+1) rfl (by omega) (HM9.out.below hbB).lt.2.2.2 ?_
  intro ca' cc' wA hownA hgA;have hSA:wA.cell? ⟨w.heap.size,0,none⟩=some (.bool fin)/\wA.cell? ⟨w.heap.size,1,none⟩=some (.slice (some ⟨gl,0,none⟩) n n):=⟨hgA.cell hSB.1 (HNB.out wB hbB),hgA.cell hSB.2 (HNB.out wB hbB)⟩;have hboxA:=(HM9.out.below hbB).boxKept hgA (fun e=>by have h1:=((HM9.out.below hbB).row.lt mb e.symm).1;have h2:=HM9.out.lt.1;omega)
  have hm3A:wA.cell? ⟨mb,3,none⟩=some (.slice ca cs.length cc):=by rw [ae hboxA];rfl
  have hfA:wA.frozen? ⟨mb,3,none⟩=false:=frozen_of_row _ _ _ _ _ hboxA;have hSF:=HSF.out wA hSA (.slice ca' (cs.length+1) cc');refine k_h hK (by (try dsimp only);(first|exact hSF|exact hSA|exact hSB|exact HSZ.out)) (fun hHeld=>?_)
  clear hK K;refine t_h 11 ?_;refine t_h 12 ?_;refine r_h 13 (fun K hK=>?_);go_simp;refine k_h hK (by (try dsimp only);(first|exact hSF|exact hSA|exact hSB|exact HSZ.out)) (fun hHeld=>?_)
  clear hK K;refine wpAnyH_done (by kernel_rfl) ?_ _
  have HMA:=hdq (adk HM9.out hbB hgA hownA HCX.out);clear hSF hSA hSB hm3B hboxA hm3A hfA hHeld hcB hbB hgA hownA;generalize World.setCell wA _ _=w10 at HMA ⊢;have hrA:=HMA.out.1.row;rw [List.length_append,List.length_singleton] at hrA;obtain ⟨cb,rfl⟩:=ku hrA (Nat.succ_pos _);clear hrA;have HXT:Hid ((cs++[(⟨kk,0,bo,bl,bk,bz,⟨fin,some ⟨gl,0,none⟩,n,n,arcs.map fun a=>(a.1,P a.2)⟩⟩:Cz)]).getD kk Cz.no=(⟨kk,0,bo,bl,bk,bz,⟨fin,some ⟨gl,0,none⟩,n,n,arcs.map fun a=>(a.1,P a.2)⟩⟩:Cz)):=hdq (by simp [<-HKC.out])
  have HKT:Hid (kk<(cs++[(⟨kk,0,bo,bl,bk,bz,⟨fin,some ⟨gl,0,none⟩,n,n,arcs.map fun a=>(a.1,P a.2)⟩⟩:Cz)]).length):=hdq (by have:=HKC.out;simp;omega)
  have HKT':Hid (kk<cs.length+1):=hdq (by have:=HKC.out;omega)
  have HMT:Hid (Mr w10 B g mb ob mp N os (ns.set at' (kk:Int)) (L++[⟨fin,arcs.map fun a=>(a.1,P a.2)⟩]) (cs++[(⟨kk,0,bo,bl,bk,bz,⟨fin,some ⟨gl,0,none⟩,n,n,arcs.map fun a=>(a.1,P a.2)⟩⟩:Cz)]) (.slice (some ⟨cb,0,none⟩) (cs++[(⟨kk,0,bo,bl,bk,bz,⟨fin,some ⟨gl,0,none⟩,n,n,arcs.map fun a=>(a.1,P a.2)⟩⟩:Cz)]).length cc')):=hdq (by have h1:=HMA.out.1;rw [List.length_append,List.length_singleton];exact h1)
  have HK10:=hdq (HK9'.out.trans HMA.out.2);have hbm:(⟨bo,bl,bk,bz⟩:Wd)∈os:=by rw [<-HBW.out,gdq,geg (by rw [HOS.out];exact hat),Option.getD_some];exact List.getElem_mem _
  have HBF:Hid (∀b off,bo=some ⟨b,off,none⟩->Far B mb ob mp b):=hdq (HMT.out.far _ hbm);have HBS:Hid (Sl .i64 w10 bo bl bk bz/\(∀b off,bo=some ⟨b,off,none⟩->b≠cb)/\bl<=1000):=hdq ⟨HMT.out.words _ hbm,fun b off e e'=>by have h1:=(HBF.out b off e).1;have h2:=(HMT.out.row.lt cb rfl).1;omega,HSH.out _ hbm⟩
  have HFB:Hid (∀b off,bo=some ⟨b,off,none⟩->b≠cb):=hdq (fun b off e e'=>by
   have h0:=HMT.out.each _ (dg HKT.out);rw [HXT.out] at h0
   have h1:=(h0.far b off e).1;have h2:=(HMT.out.row.lt cb rfl).1;omega)
  clear hbm;clear HMA;have HC:Hid (Cx w10 B mb ob mp (⟨kk,0,bo,bl,bk,bz,⟨fin,some ⟨gl,0,none⟩,n,n,arcs.map fun a=>(a.1,P a.2)⟩⟩:Cz)):=hdq (HMT.out.each _ (by have hmm:=dg HKT.out;rw [HXT.out] at hmm;exact hmm))
  have hcell:=fun j (hj:j<5)=>rl HMT.out.row HKT.out HXT.out hj;have hl1:w10.cell? ⟨cb,kk*5+1,none⟩=some (.int .i64 ((0:Nat):Int)):=hcell 1 (by omega)
  have hl2:w10.cell? ⟨cb,kk*5+2,none⟩=some (.slice bo bl bk):=hcell 2 (by omega)
  have HL12:=hdq (And.intro hl1 hl2);have hm3t:w10.cell? ⟨mb,3,none⟩=some (.slice (some ⟨cb,0,none⟩) (cs.length+1) cc'):=by rw [ae HMT.out.box,List.length_append,List.length_singleton];rfl
  have hkt:kk<(cs.length+1):=HKT'.out;have hktz:(kk:Int)<((cs.length+1):Int):=by omega
  clear hcell hl1 hl2;go_wp2_with (go_at_call 115;refine (yr cb (kk*5) 0 bo bo bl bk bl bk bz bz _ HL12.out.1 HL12.out.2 (fun j=>HMT.out.row.frozenAt j) HBS.out.1 HC.out.first HBS.out.2.1 HFB.out HC.out.long HBS.out.2.2).mono ?_;rintro e w11 ⟨rfl,q,hw11⟩;have HT:=hdq (rm HMT.out HKT.out HXT.out HBS.out.1 HBF.out HBS.out.2.2 hw11);clear hw11)
  go_end0;have hset:∀X,(cs++[(⟨kk,0,bo,bl,bk,bz,⟨fin,some ⟨gl,0,none⟩,n,n,arcs.map fun a=>(a.1,P a.2)⟩⟩:Cz)]).set kk X=cs++[X]:=fun X=>by simp [HKC.out]
  exact ⟨rfl,_,(⟨kk,0,bo,bl,bk,bz,⟨fin,some ⟨gl,0,none⟩,n,n,arcs.map fun a=>(a.1,P a.2)⟩⟩:Cz).take ⟨bo,bl,bk,bz⟩,by rw [HKLD.out];have h1:=HT.out.1;rw [hset] at h1;exact h1,⟨(Cz.take_num _ _).trans HKLD.out.symm,by rw [HBW.out,Cz.take_long];exact Nat.zero_max _,by rw [HBW.out,Cz.take_first];split<;>rfl,by rw [Cz.take_st];rfl,by rw [HBW.out];exact (Cz.take_fa _ _).elim id id⟩,HK10.out.trans HT.out.2⟩
 ·refine nd (by rfl) (.tmp 49) kk bo bl bk fin (some ⟨gl,0,none⟩) n n (by rfl) (by rfl) ?_
  intro gB wB hcB hbB;have hSB:=HSB.out wB hbB;have hm3B:=HM39.out wB hbB;refine k_h hK (by (try dsimp only);(first|exact hSF|exact hSA|exact hSB|exact HSZ.out)) (fun hHeld=>?_)
  clear hK K;refine r_h 4 (fun K hK=>?_);go_simp;refine k_h hK (by (try dsimp only);(first|exact hSF|exact hSA|exact hSB|exact HSZ.out)) (fun hHeld=>?_)
  clear hK K;refine r_h 10 (fun K hK=>?_);refine me (by rfl) (.tmp 45) (.tmp 50) (by rfl) B _ cs.length cs (by rfl) (HM9.out.below hbB).row gB ⟨kk,0,bo,bl,bk,bz,⟨fin,some ⟨gl,0,none⟩,n,n,arcs.map fun a=>(a.1,P a.2)⟩⟩ (by rfl) hcB (cs.length+1) rfl (by omega) (HM9.out.below hbB).lt.2.2.2 ?_
  intro ca' cc' wA hownA hgA;have hSA:wA.cell? ⟨w.heap.size,0,none⟩=some (.bool fin)/\wA.cell? ⟨w.heap.size,1,none⟩=some (.slice (some ⟨gl,0,none⟩) n n):=⟨hgA.cell hSB.1 (HNB.out wB hbB),hgA.cell hSB.2 (HNB.out wB hbB)⟩;have hboxA:=(HM9.out.below hbB).boxKept hgA (fun e=>by have h1:=((HM9.out.below hbB).row.lt mb e.symm).1;have h2:=HM9.out.lt.1;omega)
  have hm3A:wA.cell? ⟨mb,3,none⟩=some (.slice ca cs.length cc):=by rw [ae hboxA];rfl
  have hfA:wA.frozen? ⟨mb,3,none⟩=false:=frozen_of_row _ _ _ _ _ hboxA;have hSF:=HSF.out wA hSA (.slice ca' (cs.length+1) cc');refine k_h hK (by (try dsimp only);(first|exact hSF|exact hSA|exact hSB|exact HSZ.out)) (fun hHeld=>?_)
  clear hK K;refine t_h 11 ?_;refine t_h 12 ?_;refine r_h 13 (fun K hK=>?_);go_simp;refine k_h hK (by (try dsimp only);(first|exact hSF|exact hSA|exact hSB|exact HSZ.out)) (fun hHeld=>?_)
  clear hK K;refine wpAnyH_done (by kernel_rfl) ?_ _
  have HMA:=hdq (adk HM9.out hbB hgA hownA HCX.out);clear hSF hSA hSB hm3B hboxA hm3A hfA hHeld hcB hbB hgA hownA;generalize World.setCell wA _ _=w10 at HMA ⊢;have hrA:=HMA.out.1.row;rw [List.length_append,List.length_singleton] at hrA;obtain ⟨cb,rfl⟩:=ku hrA (Nat.succ_pos _);clear hrA;have HXT:Hid ((cs++[(⟨kk,0,bo,bl,bk,bz,⟨fin,some ⟨gl,0,none⟩,n,n,arcs.map fun a=>(a.1,P a.2)⟩⟩:Cz)]).getD kk Cz.no=(⟨kk,0,bo,bl,bk,bz,⟨fin,some ⟨gl,0,none⟩,n,n,arcs.map fun a=>(a.1,P a.2)⟩⟩:Cz)):=hdq (by simp [<-HKC.out])
  have HKT:Hid (kk<(cs++[(⟨kk,0,bo,bl,bk,bz,⟨fin,some ⟨gl,0,none⟩,n,n,arcs.map fun a=>(a.1,P a.2)⟩⟩:Cz)]).length):=hdq (by have:=HKC.out;simp;omega)
  have HKT':Hid (kk<cs.length+1):=hdq (by have:=HKC.out;omega)
  have HMT:Hid (Mr w10 B g mb ob mp N os (ns.set at' (kk:Int)) (L++[⟨fin,arcs.map fun a=>(a.1,P a.2)⟩]) (cs++[(⟨kk,0,bo,bl,bk,bz,⟨fin,some ⟨gl,0,none⟩,n,n,arcs.map fun a=>(a.1,P a.2)⟩⟩:Cz)]) (.slice (some ⟨cb,0,none⟩) (cs++[(⟨kk,0,bo,bl,bk,bz,⟨fin,some ⟨gl,0,none⟩,n,n,arcs.map fun a=>(a.1,P a.2)⟩⟩:Cz)]).length cc')):=hdq (by have h1:=HMA.out.1;rw [List.length_append,List.length_singleton];exact h1)
  have HK10:=hdq (HK9'.out.trans HMA.out.2);have hbm:(⟨bo,bl,bk,bz⟩:Wd)∈os:=by rw [<-HBW.out,gdq,geg (by rw [HOS.out];exact hat),Option.getD_some];exact List.getElem_mem _
  have HBF:Hid (∀b off,bo=some ⟨b,off,none⟩->Far B mb ob mp b):=hdq (HMT.out.far _ hbm);have HBS:Hid (Sl .i64 w10 bo bl bk bz/\(∀b off,bo=some ⟨b,off,none⟩->b≠cb)/\bl<=1000):=hdq ⟨HMT.out.words _ hbm,fun b off e e'=>by have h1:=(HBF.out b off e).1;have h2:=(HMT.out.row.lt cb rfl).1;omega,HSH.out _ hbm⟩
  have HFB:Hid (∀b off,bo=some ⟨b,off,none⟩->b≠cb):=hdq (fun b off e e'=>by
   have h0:=HMT.out.each _ (dg HKT.out);rw [HXT.out] at h0
   have h1:=(h0.far b off e).1;have h2:=(HMT.out.row.lt cb rfl).1;omega)
  clear hbm;clear HMA;have HC:Hid (Cx w10 B mb ob mp (⟨kk,0,bo,bl,bk,bz,⟨fin,some ⟨gl,0,none⟩,n,n,arcs.map fun a=>(a.1,P a.2)⟩⟩:Cz)):=hdq (HMT.out.each _ (by have hmm:=dg HKT.out;rw [HXT.out] at hmm;exact hmm))
  have hcell:=fun j (hj:j<5)=>rl HMT.out.row HKT.out HXT.out hj;have hl1:w10.cell? ⟨cb,kk*5+1,none⟩=some (.int .i64 ((0:Nat):Int)):=hcell 1 (by omega)
  have hl2:w10.cell? ⟨cb,kk*5+2,none⟩=some (.slice bo bl bk):=hcell 2 (by omega)
  have HL12:=hdq (And.intro hl1 hl2);have hm3t:w10.cell? ⟨mb,3,none⟩=some (.slice (some ⟨cb,0,none⟩) (cs.length+1) cc'):=by rw [ae HMT.out.box,List.length_append,List.length_singleton];rfl
  have hkt:kk<(cs.length+1):=HKT'.out;have hktz:(kk:Int)<((cs.length+1):Int):=by omega
  clear hcell hl1 hl2;go_wp2_with (go_at_call 115;refine (yr cb (kk*5) 0 bo bo bl bk bl bk bz bz _ HL12.out.1 HL12.out.2 (fun j=>HMT.out.row.frozenAt j) HBS.out.1 HC.out.first HBS.out.2.1 HFB.out HC.out.long HBS.out.2.2).mono ?_;rintro e w11 ⟨rfl,q,hw11⟩;have HT:=hdq (rm HMT.out HKT.out HXT.out HBS.out.1 HBF.out HBS.out.2.2 hw11);clear hw11)
  go_end0;have hset:∀X,(cs++[(⟨kk,0,bo,bl,bk,bz,⟨fin,some ⟨gl,0,none⟩,n,n,arcs.map fun a=>(a.1,P a.2)⟩⟩:Cz)]).set kk X=cs++[X]:=fun X=>by simp [HKC.out]
  exact ⟨rfl,_,(⟨kk,0,bo,bl,bk,bz,⟨fin,some ⟨gl,0,none⟩,n,n,arcs.map fun a=>(a.1,P a.2)⟩⟩:Cz).take ⟨bo,bl,bk,bz⟩,by rw [HKLD.out];have h1:=HT.out.1;rw [hset] at h1;exact h1,⟨(Cz.take_num _ _).trans HKLD.out.symm,by rw [HBW.out,Cz.take_long];exact Nat.zero_max _,by rw [HBW.out,Cz.take_first];split<;>rfl,by rw [Cz.take_st];rfl,by rw [HBW.out];exact (Cz.take_fa _ _).elim id id⟩,HK10.out.trans HT.out.2⟩


end
end Go.Proofs.YtkiamgcpcneggaaGreat
