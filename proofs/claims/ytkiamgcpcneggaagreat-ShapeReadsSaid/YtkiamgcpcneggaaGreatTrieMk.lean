/- Used by the law. -/
import Derived.Test.YtkiamgcpcneggaaGreatPackS
import Derived.Test.YtkiamgcpcneggaaGreatPackA
import Derived.Maps.OwnSet
import Derived.Maps.AppendAt
import Derived.DeepKeys4
set_option linter.all false
namespace Go.Proofs.YtkiamgcpcneggaaGreat
open Go.RowKit Go.Maps Go.WideMaps Tri

/-! ### keys -/
set_option maxRecDepth 100000 in
theorem laidT_out:laidOutB Tryz.prog=true:=by kernel_rfl
set_option maxRecDepth 100000 in
theorem keyed_way:Keyed Tryz.prog 151:=Keyed.of_law (deep_law_laid laidT_out (m:=4) (by omega) (by decide +kernel) (by kernel_rfl) (by kernel_rfl))
set_option maxRecDepth 100000 in
theorem zero_int (w:World):(zeroValue 3).run Tryz.prog w=.ok (.int .i64 0) w:=by kernel_rfl
set_option maxRecDepth 100000 in
theorem cellsW_int:Tryz.prog.cellsOf 3=1:=by kernel_rfl
set_option maxRecDepth 100000 in
theorem cells_way:Tryz.prog.cellsOf 151=2:=by kernel_rfl
set_option maxRecDepth 100000 in
theorem keyType_way:Tryz.prog.keyType 151=true:=by kernel_rfl
def keyW (f s:Int):Lit:=.string (keyBytes [.int .i64 f,.int .i64 s])
def wayV (f s:Int):Value:=.agg #[.int .i64 f,.int .i64 s]
set_option maxRecDepth 100000 in
theorem keyLits_way (d:Nat) (f s:Int) (hf:(Lit.int .i64 f).wf=true) (hs:(Lit.int .i64 s).wf=true):Tryz.prog.keyLits (d + 2) 151 ([.int .i64 f,.int .i64 s]:List Value)=some ([.int .i64 f,.int .i64 s]:List Lit):=by
 simp [Program.keyLits,Tryz.underlying151,Tryz.underlying3,cells_way,cellsW_int,List.mapM_cons,hf,hs]
set_option maxRecDepth 100000 in
theorem keyOf_way (f s:Int) (hf:(Lit.int .i64 f).wf=true) (hs:(Lit.int .i64 s).wf=true):keyOf Tryz.prog 151 (wayV f s)=some (keyW f s):=by
 have hk:=keyLits_way (Tryz.prog.types.size - 1) f s hf hs
 have hz:Tryz.prog.types.size - 1 + 2=Tryz.prog.types.size + 1:=by
  have:1≤Tryz.prog.types.size:=of_decide_eq_true (by kernel_rfl)
  omega
 rw [hz] at hk
 unfold keyOf wayV
 simp only [Tryz.underlying151]
 rw [if_pos (by simp [keyType_way,Value.formed,Tryz.underlying151,cells_way])]
 rw [show (Value.agg #[.int .i64 f,.int .i64 s]).cells.toList=([.int .i64 f,.int .i64 s]:List Value) from rfl,hk]
 rfl
theorem keyW_inj {f s f' s':Int} (hf:(Lit.int .i64 f).wf=true) (hs:(Lit.int .i64 s).wf=true) (hf':(Lit.int .i64 f').wf=true) (hs':(Lit.int .i64 s').wf=true) (h:keyW f s=keyW f' s'):f=f'∧s=s':=by
 have h1:=keyed_way.inj (keyOf_way f s hf hs) (by rw [h];exact keyOf_way f' s' hf' hs')
 simpa [wayV] using h1

def wayAt (D:DataW Unit) (f s:Int):Option Int :=
 if (Lit.int .i64 f).wf=true∧(Lit.int .i64 s).wf=true∧has D (keyW f s)=true then (match D.atKey (keyW f s) (.lit (.int .i64 0)) with|.lit (.int _ c)=>some c|_=>none) else none
theorem wayAt_some {D:DataW Unit} {f s c:Int} (hf:(Lit.int .i64 f).wf=true) (hs:(Lit.int .i64 s).wf=true) (h:has D (keyW f s)=true) (ha:D.atKey (keyW f s) (.lit (.int .i64 0))=.lit (.int .i64 c)):wayAt D f s=some c:=by
 unfold wayAt;rw [if_pos ⟨hf,hs,h⟩,ha]
theorem wayAt_none {D:DataW Unit} {f s:Int} (h:has D (keyW f s)=false):wayAt D f s=none:=by
 unfold wayAt;rw [if_neg (by rw [h];simp)]
theorem wayAt_empty (f s:Int):wayAt (.map []:DataW Unit) f s=none:=wayAt_none rfl
theorem wayAt_put_same {D:DataW Unit} (hD:IsMap D) {f s:Int} (hf:(Lit.int .i64 f).wf=true) (hs:(Lit.int .i64 s).wf=true) (c:Int):wayAt (D.put (keyW f s) (.lit (.int .i64 c))) f s=some c :=
 wayAt_some hf hs (has_put_same hD (keyed_way.key (keyOf_way f s hf hs)) _) (atKey_put_same hD (keyed_way.key (keyOf_way f s hf hs)) _ _)
theorem wayAt_put_other {D:DataW Unit} {f s f' s':Int} (hf:(Lit.int .i64 f).wf=true) (hs:(Lit.int .i64 s).wf=true) (hne:¬ (f'=f∧s'=s)) (c:Int):wayAt (D.put (keyW f s) (.lit (.int .i64 c))) f' s'=wayAt D f' s':=by
 unfold wayAt
 by_cases hf':(Lit.int .i64 f').wf=true
 ·by_cases hs':(Lit.int .i64 s').wf=true
  ·have hk:keyW f' s'≠keyW f s:=fun e=>hne (keyW_inj hf' hs' hf hs e)
   rw [has_put_other hk,atKey_put_other hk]
  ·rw [if_neg (fun h=>hs' h.2.1),if_neg (fun h=>hs' h.2.1)]
 ·rw [if_neg (fun h=>hf' h.1),if_neg (fun h=>hf' h.1)]

/-! ### rows, and the blocks that they lie in -/
theorem own_obj {w:World} {B:Nat} {e:TypeId} {size n:Nat} {v:Value} {l:List Value} (h:w.ownsRow B e size v n l) {g:Nat} (hg:v.ownBlock=some g):∃ cur,w.heap[g]?=some (.cells cur e (0,0)):=by
 rcases h.2 with ⟨rfl,_⟩|⟨g',cap,cur,rfl,_,hh,_⟩
 ·cases hg
 ·have:g'=g:=by simpa [Value.ownBlock] using hg
  subst this
  exact ⟨cur,hh⟩
theorem own_apart {w:World} {B:Nat} {e:TypeId} {size n k:Nat} {v:Value} {l:List Value} {o:Obj} (h:w.ownsRow B e size v n l) (ho:w.heap[k]?=some o) (hne:∀ cur,o≠.cells cur e (0,0)):v.ownBlock=none∨v.ownBlock≠some k:=by
 cases hv:v.ownBlock with
 | none=>exact .inl rfl
 | some g =>
   refine .inr fun e=>?_
   cases e
   obtain ⟨cur,hc⟩:=own_obj h hv
   rw [ho] at hc
   exact hne cur (Option.some.inj hc)
theorem own_apart2 {w:World} {B B':Nat} {e e':TypeId} {s s' n n':Nat} {v v':Value} {l l':List Value} (h:w.ownsRow B e s v n l) (h':w.ownsRow B' e' s' v' n' l') (hne:e≠e'):v.ownBlock=none∨v.ownBlock≠v'.ownBlock:=by
 cases hv:v'.ownBlock with
 | none =>
   cases hw:v.ownBlock with
   | none=>exact .inl rfl
   | some g=>exact .inr (by simp)
 | some g =>
   obtain ⟨cur,hc⟩:=own_obj h' hv
   exact own_apart h hc (fun cur' e=>by simp only [Obj.cells.injEq] at e;exact hne e.2.1.symm)
theorem ne_own {w:World} {B:Nat} {e:TypeId} {size n k:Nat} {v:Value} {l:List Value} {o:Obj} (h:w.ownsRow B e size v n l) (ho:w.heap[k]?=some o) (hne:∀ cur,o≠.cells cur e (0,0)):some k≠v.ownBlock:=by
 intro e
 rcases own_apart h ho hne with h1|h1
 ·rw [h1] at e;cases e
 ·exact h1 e.symm
theorem own_head {w:World} {B n c size:Nat} {e:TypeId} {a:Option Addr} {l:List Value} (h:w.ownsRow B e size (.slice a n c) n l) (hn:0 < n):∃ b,a=some ⟨b,0,none⟩:=by
 rcases h.2 with ⟨_,h0⟩|⟨g,c',cur,hv,_⟩
 ·omega
 ·simp only [Value.slice.injEq] at hv
  exact ⟨g,hv.1⟩
theorem grown_set (w:World) (p:Addr) (v:Value):w.grownBy (w.setCell p v) (some p.block):=⟨rfl,rfl,rfl,by simp,fun k _ hk=>heap_setCell_other _ _ _ _ (fun e=>hk (by rw [e]))⟩
theorem cell_of_obj {w:World} {g i:Nat} {cs:Array Value} {t:TypeId} (h:w.heap[g]?=some (.cells cs t (0,0))):w.cell? ⟨g,i,none⟩=cs[i]?:=cell_of_row w g i cs t (0,0) h
def KeepI (w w':World):Prop:=∀ (b:Nat) (cur:Array Value) (fr:Nat × Nat),w.heap[b]?=some (Obj.cells cur 3 fr)→w'.heap[b]?=w.heap[b]?
theorem KeepI.refl (w:World):KeepI w w:=fun _ _ _ _=>rfl
theorem KeepI.trans {a b c:World} (h:KeepI a b) (h':KeepI b c):KeepI a c:=fun k cur fr hk=>by
 have h1:=h k cur fr hk
 exact (h' k cur fr (h1.trans hk)).trans h1
theorem KeepI.grown {w w':World} {row:Option Nat} (hg:w.grownBy w' row) (hr:∀ k,row=some k→∃ o,w.heap[k]?=some o∧∀ cur fr,o≠Obj.cells cur 3 fr):KeepI w w':=fun b cur fr hb =>
 hg.block b (Array.getElem?_eq_some_iff.1 hb).1 (fun e=>by
  obtain ⟨o,ho,hne⟩:=hr b e.symm
  rw [hb] at ho
  exact hne cur fr (Option.some.inj ho).symm)
theorem KeepI.row {w w':World} {B:Nat} {e:TypeId} {size n:Nat} {v:Value} {l:List Value} (hg:w.grownBy w' v.ownBlock) (h:w.ownsRow B e size v n l) (hne:e≠3):KeepI w w':=KeepI.grown hg fun k hk=>by
 obtain ⟨cur,hc⟩:=own_obj h hk
 exact ⟨_,hc,fun cur' fr e'=>by simp only [Obj.cells.injEq] at e';exact hne e'.2.1⟩
theorem KeepI.none {w w':World} (hg:w.grownBy w' none):KeepI w w':=KeepI.grown hg fun _ h=>by cases h
theorem KeepI.owns {w w':World} {B size n:Nat} {v:Value} {l:List Value} (h:KeepI w w') (ho:w.ownsRow B 3 size v n l):w'.ownsRow B 3 size v n l:=by
 refine ⟨ho.1,?_⟩
 rcases ho.2 with h1|⟨g,c,cur,h1,h2,h3,h4⟩
 ·exact .inl h1
 ·exact .inr ⟨g,c,cur,h1,h2,(h g cur _ h3).trans h3,h4⟩

/-! ### the maker -/
structure Mk (w:World) (B mb mp M:Nat) (sa:Option Addr) (N c:Nat) (outs:List Sw) (D:DataW Unit):Prop where
 base:B≤mb∧B≤mp
 box:w.heap[mb]?=some (.cells #[.slice sa N c,.map (some mp)] 148 (0,0))
 map:w.ownsMap Tryz.prog 151 (plainElem Tryz.prog 3) mp M D
 row:w.ownsRow B 58 2 (.slice sa N c) N (scells outs)
 arcs:∀ x ∈ outs,w.ownsRow B 95 2 x.s x.n (acells x.arcs)
 wfs:∀ x ∈ outs,∀ y ∈ x.arcs,(Lit.int .i64 y.1).wf=true∧(Lit.int .i64 y.2).wf=true
 apart:outs.Pairwise fun x y=>x.s.ownBlock=none∨x.s.ownBlock≠y.s.ownBlock
theorem Mk.len {w:World} {B mb mp M N c:Nat} {sa:Option Addr} {outs:List Sw} {D:DataW Unit} (h:Mk w B mb mp M sa N c outs D):outs.length=N:=by
 have:=h.row.1
 rw [scells_length] at this;omega
theorem Mk.mapObj {w:World} {B mb mp M N c:Nat} {sa:Option Addr} {outs:List Sw} {D:DataW Unit} (h:Mk w B mb mp M sa N c outs D):∃ es clock,w.heap[mp]?=some (.map es clock):=by
 obtain ⟨es,clock,hb,_⟩:=h.map
 exact ⟨es,clock,hb⟩
theorem Mk.mbmp {w:World} {B mb mp M N c:Nat} {sa:Option Addr} {outs:List Sw} {D:DataW Unit} (h:Mk w B mb mp M sa N c outs D):mb≠mp:=by
 intro e
 obtain ⟨es,clock,hb⟩:=h.mapObj
 rw [← e,h.box] at hb
 cases hb
theorem Mk.lt {w:World} {B mb mp M N c:Nat} {sa:Option Addr} {outs:List Sw} {D:DataW Unit} (h:Mk w B mb mp M sa N c outs D):mb < w.heap.size∧mp < w.heap.size :=
 ⟨(Array.getElem?_eq_some_iff.1 h.box).1,h.map.lt⟩
theorem Mk.kept {w w':World} {B mb mp M N c:Nat} {sa:Option Addr} {outs:List Sw} {D:DataW Unit} {row:Option Nat} (h:Mk w B mb mp M sa N c outs D) (hg:w.grownBy w' row) (h1:some mb≠row) (h2:some mp≠row) (h3:(Value.slice sa N c).ownBlock=none∨(Value.slice sa N c).ownBlock≠row)
 (h4:∀ x ∈ outs,x.s.ownBlock=none∨x.s.ownBlock≠row):Mk w' B mb mp M sa N c outs D :=
 ⟨h.base,(hg.block _ h.lt.1 h1).trans h.box,h.map.kept hg h2,h.row.kept hg h3,fun x hx=>(h.arcs x hx).kept hg (h4 x hx),h.wfs,h.apart⟩
theorem or_none (v:Value):v.ownBlock=none∨v.ownBlock≠none:=by cases v.ownBlock<;>simp
theorem Mk.grow {w w':World} {B mb mp M N c:Nat} {sa:Option Addr} {outs:List Sw} {D:DataW Unit} (h:Mk w B mb mp M sa N c outs D) (hg:w.grownBy w' none):Mk w' B mb mp M sa N c outs D :=
 h.kept hg (by simp) (by simp) (or_none _) (fun x _=>or_none _)
theorem Mk.alloc {w:World} {B mb mp M N c:Nat} {sa:Option Addr} {outs:List Sw} {D:DataW Unit} (h:Mk w B mb mp M sa N c outs D) (o:Obj):Mk (w.alloc o) B mb mp M sa N c outs D:=h.grow (World.grownBy_alloc w o none)
theorem Mk.drewN {w:World} {B mb mp M N c:Nat} {sa:Option Addr} {outs:List Sw} {D:DataW Unit} (h:Mk w B mb mp M sa N c outs D) (q:Nat):Mk (w.drewN q) B mb mp M sa N c outs D:=⟨h.base,h.box,h.map,h.row,h.arcs,h.wfs,h.apart⟩
theorem Mk.drew {w:World} {B mb mp M N c:Nat} {sa:Option Addr} {outs:List Sw} {D:DataW Unit} (h:Mk w B mb mp M sa N c outs D):Mk w.drew B mb mp M sa N c outs D:=⟨h.base,h.box,h.map,h.row,h.arcs,h.wfs,h.apart⟩
theorem Mk.mono {w:World} {B mb mp M M' N c:Nat} {sa:Option Addr} {outs:List Sw} {D:DataW Unit} (h:Mk w B mb mp M sa N c outs D) (hM:M≤M'):Mk w B mb mp M' sa N c outs D:=⟨h.base,h.box,h.map.mono hM,h.row,h.arcs,h.wfs,h.apart⟩
set_option maxRecDepth 100000 in
theorem Mk.put {w w':World} {B mb mp M N c:Nat} {sa:Option Addr} {outs:List Sw} {D D':DataW Unit} (h:Mk w B mb mp M sa N c outs D) (hown:w'.ownsMap Tryz.prog 151 (plainElem Tryz.prog 3) mp (M + 1) D') (hg:w.grownBy w' (some mp)):Mk w' B mb mp (M + 1) sa N c outs D':=by
 obtain ⟨es,clock,hb⟩:=h.mapObj
 exact ⟨h.base,(hg.block _ h.lt.1 (by simpa using h.mbmp)).trans h.box,hown,h.row.kept hg (own_apart h.row hb (by simp)),fun x hx=>(h.arcs x hx).kept hg (own_apart (h.arcs x hx) hb (by simp)),h.wfs,h.apart⟩
set_option maxRecDepth 100000 in
theorem ne_ms:(148:TypeId)≠58:=by decide
set_option maxRecDepth 100000 in
theorem ne_ma:(148:TypeId)≠95:=by decide
set_option maxRecDepth 100000 in
theorem ne_sa:(58:TypeId)≠95:=by decide
theorem cells_ne {cs cs':Array Value} {t t':TypeId} {fr fr':Nat × Nat} (h:t≠t'):Obj.cells cs t fr≠Obj.cells cs' t' fr':=fun e=>h (by simp only [Obj.cells.injEq] at e;exact e.2.1)
theorem Mk.state {w w':World} {B mb mp M N c c':Nat} {sa a':Option Addr} {outs:List Sw} {D:DataW Unit} (h:Mk w B mb mp M sa N c outs D) (hrow:w'.ownsRow B 58 2 (.slice a' (N + 1) c') (N + 1) (scells (outs ++ [Sw.no]))) (hg:w.grownBy w' (Value.slice sa N c).ownBlock) :
 Mk (w'.setCell ⟨mb,0,none⟩ (.slice a' (N + 1) c')) B mb mp M a' (N + 1) c' (outs ++ [Sw.no]) D:=by
 obtain ⟨es,clock,hb⟩:=h.mapObj
 have hbox:w'.heap[mb]?=some (.cells #[.slice sa N c,.map (some mp)] 148 (0,0)):=(hg.block _ h.lt.1 (ne_own h.row h.box (fun cur=>cells_ne ne_ms))).trans h.box
 have hset:=grown_set w' ⟨mb,0,none⟩ (.slice a' (N + 1) c')
 have harc:∀ x ∈ outs,w'.ownsRow B 95 2 x.s x.n (acells x.arcs):=fun x hx=>(h.arcs x hx).kept hg (own_apart2 (h.arcs x hx) h.row ne_sa.symm)
 refine ⟨h.base,?_,(h.map.kept hg (ne_own h.row hb (by simp))).kept hset (by simpa using h.mbmp.symm),hrow.kept hset (own_apart hrow hbox (fun cur=>cells_ne ne_ms)),?_,?_,?_⟩
 ·rw [heap_setCell_same _ _ _ _ _ _ hbox];rfl
 ·intro x hx
  rcases List.mem_append.1 hx with hx|hx
  ·exact (harc x hx).kept hset (own_apart (harc x hx) hbox (fun cur=>cells_ne ne_ma))
  ·rw [List.mem_singleton.1 hx];exact World.ownsRow_nil _ _ _ _
 ·intro x hx
  rcases List.mem_append.1 hx with hx|hx
  ·exact h.wfs x hx
  ·rw [List.mem_singleton.1 hx];intro y hy;cases hy
 ·rw [List.pairwise_append]
  refine ⟨h.apart,List.pairwise_singleton _ _,fun x _ y hy=>?_⟩
  rw [List.mem_singleton.1 hy];exact or_none _
theorem scells_set (xs:List Sw) (f:Nat) (z:Sw):scells (xs.set f z)=((scells xs).set (f * 2) z.f).set (f * 2 + 1) z.s:=by
 induction xs generalizing f with
 | nil=>simp [scells]
 | cons x xs ih =>
   cases f with
   | zero=>simp [scells,Sw.cells]
   | succ f =>
     rw [List.set_cons_succ,scells_cons,ih f,scells_cons,show (f + 1) * 2=f * 2 + 2 by omega,show f * 2 + 2 + 1=f * 2 + 1 + 2 by omega]
     simp [Sw.cells]
theorem scells_get {xs:List Sw} {f:Nat} (h:f < xs.length):(scells xs)[f * 2]?=some (xs.getD f Sw.no).f∧(scells xs)[f * 2 + 1]?=some (xs.getD f Sw.no).s :=
 ⟨scells_at xs f 0 h (by omega),scells_at xs f 1 h (by omega)⟩
theorem set_same {l:List Value} {i:Nat} {v:Value} (h:l[i]?=some v):l.set i v=l:=by
 obtain ⟨hi,e⟩:=List.getElem?_eq_some_iff.1 h
 rw [← e];exact List.set_getElem_self hi
theorem mem_getD_sw {xs:List Sw} {f:Nat} (h:f < xs.length):xs.getD f Sw.no ∈ xs:=by
 rw [List.getD_eq_getElem?_getD,List.getElem?_eq_getElem h,Option.getD_some];exact List.getElem_mem _
theorem apart_at {xs:List Sw} (h:xs.Pairwise fun x y=>x.s.ownBlock=none∨x.s.ownBlock≠y.s.ownBlock) {i k:Nat} (hi:i < xs.length) (hk:k < xs.length) (hne:i≠k):xs[i].s.ownBlock=none∨xs[i].s.ownBlock≠xs[k].s.ownBlock:=by
 rw [List.pairwise_iff_getElem] at h
 rcases Nat.lt_or_gt_of_ne hne with hlt|hgt
 ·exact h i k hi hk hlt
 ·rcases h k i hk hi hgt with h1|h1
  ·rw [h1];exact or_none _
  ·exact .inr h1.symm
theorem Mk.arc {w w':World} {B mb mp M N c sb f c':Nat} {a':Option Addr} {outs:List Sw} {D:DataW Unit} {x:Sw} {y:Int × Int} (h:Mk w B mb mp M (some ⟨sb,0,none⟩) N c outs D) (hf:f < N) (hx:outs.getD f Sw.no=x)
 (hown:w'.ownsRow B 95 2 (.slice a' (x.n + 1) c') (x.n + 1) (acells (x.arcs ++ [y]))) (hg:w.grownBy w' x.s.ownBlock) (hat:(Value.slice a' (x.n + 1) c').ownBlock=x.s.ownBlock∨∃ g,(Value.slice a' (x.n + 1) c').ownBlock=some g∧w.heap.size≤g)
 (hy:(Lit.int .i64 y.1).wf=true∧(Lit.int .i64 y.2).wf=true) :
 Mk (w'.setCell ⟨sb,f * 2 + 1,none⟩ (.slice a' (x.n + 1) c')) B mb mp M (some ⟨sb,0,none⟩) N c (outs.set f ⟨x.fin,a',x.n + 1,c',x.arcs ++ [y]⟩) D:=by
 have hlen:=h.len
 have hfl:f < outs.length:=by omega
 have hxm:x ∈ outs:=by rw [← hx];exact mem_getD_sw hfl
 have hxo:=h.arcs x hxm
 have hxe:outs[f]=x:=by rw [← hx];simp [hfl]
 obtain ⟨es,clock,hb⟩:=h.mapObj
 have hbox:w'.heap[mb]?=some (.cells #[.slice (some ⟨sb,0,none⟩) N c,.map (some mp)] 148 (0,0)):=(hg.block _ h.lt.1 (ne_own hxo h.box (fun cur=>cells_ne ne_ma))).trans h.box
 have hrow:w'.ownsRow B 58 2 (.slice (some ⟨sb,0,none⟩) N c) N (scells outs):=h.row.kept hg (own_apart2 h.row hxo ne_sa)
 obtain ⟨scur,hso⟩:=own_obj hrow (g:=sb) rfl
 have hset:=grown_set w' ⟨sb,f * 2 + 1,none⟩ (.slice a' (x.n + 1) c')
 have hbs:some mb≠some sb:=ne_own hrow hbox (fun cur=>cells_ne ne_ms)
 have hother:∀ i,(hi:i < outs.length)→i≠f→w'.ownsRow B 95 2 outs[i].s outs[i].n (acells outs[i].arcs):=fun i hi hne=>by
  refine (h.arcs _ (List.getElem_mem hi)).kept hg ?_
  have:=apart_at h.apart hi hfl hne
  rwa [hxe] at this
 refine ⟨h.base,(hset.block _ (Array.getElem?_eq_some_iff.1 hbox).1 hbs).trans hbox,(h.map.kept hg (ne_own hxo hb (by simp))).kept hset ?_,?_,?_,?_,?_⟩
 ·intro e
  obtain ⟨cur,hc⟩:=own_obj h.row (g:=sb) rfl
  have e':mp=sb:=Option.some.inj e
  rw [← e',hb] at hc
  cases hc
 ·have h1:=(hrow.stored (f * 2 + 1) (.slice a' (x.n + 1) c')).1
  rw [scells_set,set_same (l:=scells outs) (i:=f * 2) (v:=Sw.f ⟨x.fin,a',x.n + 1,c',x.arcs ++ [y]⟩)]
  ·exact h1
  ·have:=(scells_get hfl).1
   rw [hx] at this;exact this
 ·intro z hz
  obtain ⟨i,hi,rfl⟩:=List.getElem_of_mem hz
  have hi':i < outs.length:=by simpa using hi
  rw [List.getElem_set]
  by_cases hif:f=i
  ·rw [if_pos hif]
   exact hown.kept hset (own_apart hown hso (fun cur=>cells_ne ne_sa))
  ·rw [if_neg hif]
   have ho:=hother i hi' (Ne.symm hif)
   exact ho.kept hset (own_apart ho hso (fun cur=>cells_ne ne_sa))
 ·intro z hz
  rcases List.mem_or_eq_of_mem_set hz with hz|rfl
  ·exact h.wfs z hz
  ·intro u hu
   rcases List.mem_append.1 hu with hu|hu
   ·exact h.wfs x hxm u hu
   ·rw [List.mem_singleton.1 hu];exact hy
 ·have hnew:∀ i,(hi:i < outs.length)→i≠f→outs[i].s.ownBlock=none∨outs[i].s.ownBlock≠(Value.slice a' (x.n + 1) c').ownBlock:=fun i hi hne=>by
   rcases hat with e|⟨g,e,hge⟩
   ·rw [e]
    have:=apart_at h.apart hi hfl hne
    rwa [hxe] at this
   ·rw [e]
    cases ho:outs[i].s.ownBlock with
    | none=>exact .inl rfl
    | some q =>
      refine .inr fun e'=>?_
      cases e'
      have:=((h.arcs _ (List.getElem_mem hi)).lt _ ho).2
      omega
  rw [List.pairwise_iff_getElem]
  intro i j hi hj hij
  have hi':i < outs.length:=by simpa using hi
  have hj':j < outs.length:=by simpa using hj
  rw [List.getElem_set,List.getElem_set]
  by_cases hif:f=i
  ·rw [if_pos hif,if_neg (by omega)]
   rcases hnew j hj' (by omega) with e|e
   ·rw [e];exact or_none _
   ·exact .inr (fun e'=>e e'.symm)
  ·rw [if_neg hif]
   by_cases hjf:f=j
   ·rw [if_pos hjf];exact hnew i hi' (Ne.symm hif)
   ·rw [if_neg hjf];exact List.pairwise_iff_getElem.1 h.apart i j hi' hj' hij
theorem Mk.final {w:World} {B mb mp M N c sb k:Nat} {outs:List Sw} {D:DataW Unit} {x:Sw} (h:Mk w B mb mp M (some ⟨sb,0,none⟩) N c outs D) (hk:k < N) (hx:outs.getD k Sw.no=x) :
 Mk (w.setCell ⟨sb,k * 2,none⟩ (.bool true)) B mb mp M (some ⟨sb,0,none⟩) N c (outs.set k ⟨true,x.a,x.n,x.cap,x.arcs⟩) D:=by
 have hlen:=h.len
 have hkl:k < outs.length:=by omega
 have hxm:x ∈ outs:=by rw [← hx];exact mem_getD_sw hkl
 have hxe:outs[k]=x:=by rw [← hx];simp [hkl]
 obtain ⟨es,clock,hb⟩:=h.mapObj
 obtain ⟨scur,hso⟩:=own_obj h.row (g:=sb) rfl
 have hset:=grown_set w ⟨sb,k * 2,none⟩ (.bool true)
 have hkeep:∀ x ∈ outs,(w.setCell ⟨sb,k * 2,none⟩ (.bool true)).ownsRow B 95 2 x.s x.n (acells x.arcs):=fun x hx=>(h.arcs x hx).kept hset (own_apart (h.arcs x hx) hso (fun cur=>cells_ne ne_sa))
 refine ⟨h.base,(hset.block _ h.lt.1 (ne_own h.row h.box (fun cur=>cells_ne ne_ms))).trans h.box,h.map.kept hset ?_,?_,?_,?_,?_⟩
 ·intro e
  have e':mp=sb:=Option.some.inj e
  rw [← e',hb] at hso
  cases hso
 ·have h1:=(h.row.stored (k * 2) (.bool true)).1
  rw [scells_set,set_same (v:=(⟨true,x.a,x.n,x.cap,x.arcs⟩:Sw).s) (i:=k * 2 + 1)]
  ·exact h1
  ·have:=(scells_get hkl).2
   rw [hx] at this
   rw [List.getElem?_set_ne (by omega)]
   exact this
 ·intro z hz
  rcases List.mem_or_eq_of_mem_set hz with hz|rfl
  ·exact hkeep z hz
  ·exact hkeep x hxm
 ·intro z hz
  rcases List.mem_or_eq_of_mem_set hz with hz|rfl
  ·exact h.wfs z hz
  ·exact h.wfs x hxm
 ·rw [List.pairwise_iff_getElem]
  intro i j hi hj hij
  have hi':i < outs.length:=by simpa using hi
  have hj':j < outs.length:=by simpa using hj
  have h0:=List.pairwise_iff_getElem.1 h.apart i j hi' hj' hij
  rw [List.getElem_set,List.getElem_set]
  by_cases hki:k=i
  ·subst hki
   rw [if_pos rfl,if_neg (by omega)]
   rw [hxe] at h0;exact h0
  ·rw [if_neg hki]
   by_cases hkj:k=j
   ·subst hkj
    rw [if_pos rfl]
    rw [hxe] at h0;exact h0
   ·rw [if_neg hkj];exact h0
theorem Mk.states {w:World} {B mb mp M N c:Nat} {sa:Option Addr} {outs:List Sw} {D:DataW Unit} (h:Mk w B mb mp M sa N c outs D):Ss w sa N c outs:=by
 refine Ss.of_owns h.row (fun x hx=>?_) h.len
 have:=h.arcs x hx
 refine Ars.of_owns this (h.wfs x hx) ?_
 have h1:=this.1
 rw [acells_length] at h1;omega

end Go.Proofs.YtkiamgcpcneggaaGreat
