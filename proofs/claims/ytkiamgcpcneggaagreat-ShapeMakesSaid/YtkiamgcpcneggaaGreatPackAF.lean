import Derived.Test.YtkiamgcpcneggaaGreatPackAT
import Derived.Test.YtkiamgcpcneggaaGreatPackAA
set_option linter.all false
set_option maxRecDepth 100000
set_option maxHeartbeats 12800000
namespace Go.Proofs.YtkiamgcpcneggaaGreat
section
open Go.RowKit Tri Go.Sort

theorem ais (w:World) (p q:Nat):Sort.ahead (Sort.ahead w p) q=Sort.ahead w (p+q):=by
 unfold Sort.ahead;simp [Nat.add_assoc]
theorem aps (w:World) (q:Nat) (gs:Array Obj):w.grownBy (Sort.grow (Sort.ahead w q) gs) none:=⟨rfl,rfl,rfl,by rw [size_grow];exact Nat.le_add_right _ _,fun b hb _=>heap_grow_old (Sort.ahead w q) gs hb⟩
theorem apt (bx mb cb M cc:Nat) (x y:Cz) (i j:Nat) (W:World) (hb:W.cell? ⟨bx,0,none⟩=some (.pointer (some ⟨mb,0,none⟩))) (h3:W.cell? ⟨mb,3,none⟩=some (.slice (some ⟨cb,0,none⟩) M cc)) (hi:i<M) (hj:j<M) (hM:M<=cc/\cc<=maxLen)
 (hxc:∀t,t<5->W.cell? ⟨cb,i*5+t,none⟩=x.cells[t]?) (hyc:∀t,t<5->W.cell? ⟨cb,j*5+t,none⟩=y.cells[t]?) (hx:x.Reads W) (hy:y.Reads W) {r:Bool} (hr:clt x y=r) :
 Calls Tryz.prog 117 #[.int .i64 (i:Int),.int .i64 (j:Int),.pointer (some ⟨bx,0,none⟩)] W fun e W'=>e=.returned (.bool r)/\∃q os,W'=Sort.grow (Sort.ahead W q) os:=by
 obtain ⟨xnum,xl,xa,xn,xc,xf,⟨xfin,xb,xm,xd,xarcs⟩⟩:=x;obtain ⟨ynum,yl,ya,yn,yc,yf,⟨yfin,yb,ym,yd,yarcs⟩⟩:=y;obtain ⟨hM1,hM2⟩:=hM;unfold maxLen at hM2;have HX:Hid (Cz.Reads W.drew ⟨xnum,xl,xa,xn,xc,xf,⟨xfin,xb,xm,xd,xarcs⟩⟩):=hdq hx;have HY:Hid (Cz.Reads W.drew ⟨ynum,yl,ya,yn,yc,yf,⟨yfin,yb,ym,yd,yarcs⟩⟩):=hdq hy;have HR:=hdq hr;have hmx:Tryz.prog.follows .mixedOrders=true:=by kernel_rfl
 have HS0:Hid (W.drew.cell? ⟨bx,0,none⟩=some (.pointer (some ⟨mb,0,none⟩))/\W.drew.cell? ⟨mb,3,none⟩=some (.slice (some ⟨cb,0,none⟩) M cc)/\W.drew.cell? ⟨cb,i*5,none⟩=some (.int .i64 (xnum:Int))/\W.drew.cell? ⟨cb,i*5+1,none⟩=some (.int .i64 (xl:Int))/\W.drew.cell? ⟨cb,i*5+2,none⟩=some (.slice xa xn xc)/\W.drew.cell? ⟨cb,i*5+3,none⟩=some (.bool xfin)/\W.drew.cell? ⟨cb,i*5+4,none⟩=some (.slice xb xm xd)/\W.drew.cell? ⟨cb,j*5,none⟩=some (.int .i64 (ynum:Int))/\W.drew.cell? ⟨cb,j*5+1,none⟩=some (.int .i64 (yl:Int))/\W.drew.cell? ⟨cb,j*5+2,none⟩=some (.slice ya yn yc)/\W.drew.cell? ⟨cb,j*5+3,none⟩=some (.bool yfin)/\W.drew.cell? ⟨cb,j*5+4,none⟩=some (.slice yb ym yd)):=hdq ⟨hb,h3,hxc 0 (by omega),hxc 1 (by omega),hxc 2 (by omega),hxc 3 (by omega),hxc 4 (by omega),hyc 0 (by omega),hyc 1 (by omega),hyc 2 (by omega),hyc 3 (by omega),hyc 4 (by omega)⟩
 have HS:Hid (∀(q:Nat) (gs:Array Obj),(fun W:World=>W.cell? ⟨bx,0,none⟩=some (.pointer (some ⟨mb,0,none⟩))/\W.cell? ⟨mb,3,none⟩=some (.slice (some ⟨cb,0,none⟩) M cc)/\W.cell? ⟨cb,i*5,none⟩=some (.int .i64 (xnum:Int))/\W.cell? ⟨cb,i*5+1,none⟩=some (.int .i64 (xl:Int))/\W.cell? ⟨cb,i*5+2,none⟩=some (.slice xa xn xc)/\W.cell? ⟨cb,i*5+3,none⟩=some (.bool xfin)/\W.cell? ⟨cb,i*5+4,none⟩=some (.slice xb xm xd)/\W.cell? ⟨cb,j*5,none⟩=some (.int .i64 (ynum:Int))/\W.cell? ⟨cb,j*5+1,none⟩=some (.int .i64 (yl:Int))/\W.cell? ⟨cb,j*5+2,none⟩=some (.slice ya yn yc)/\W.cell? ⟨cb,j*5+3,none⟩=some (.bool yfin)/\W.cell? ⟨cb,j*5+4,none⟩=some (.slice yb ym yd)) (Sort.grow (Sort.ahead W.drew q) gs)):=hdq (fun q gs=>by
  have hg:=aps W.drew q gs;obtain ⟨c1,c2,c3,c4,c5,c6,c7,c8,c9,c10,c11,c12⟩:=HS0.out
  exact ⟨hg.cell c1 (by simp),hg.cell c2 (by simp),hg.cell c3 (by simp),hg.cell c4 (by simp),hg.cell c5 (by simp),hg.cell c6 (by simp),hg.cell c7 (by simp),hg.cell c8 (by simp),hg.cell c9 (by simp),hg.cell c10 (by simp),hg.cell c11 (by simp),hg.cell c12 (by simp)⟩)
 have hiz:(i:Int)<(M:Int):=by omega
 have hjz:(j:Int)<(M:Int):=by omega
 have hi0:(0:Int)<=(i:Int):=by omega
 have hj0:(0:Int)<=(j:Int):=by omega
 clear hx hy hr hb h3 hxc hyc;go_enter Tryz.func117,Tryz.ntmps117;go_wp2_with fail;refine wp_region_held_drew (S:=(fun W=>W.cell? ⟨bx,0,none⟩=some (.pointer (some ⟨mb,0,none⟩))/\W.cell? ⟨mb,3,none⟩=some (.slice (some ⟨cb,0,none⟩) M cc)/\W.cell? ⟨cb,i*5,none⟩=some (.int .i64 (xnum:Int))/\W.cell? ⟨cb,i*5+1,none⟩=some (.int .i64 (xl:Int))/\W.cell? ⟨cb,i*5+2,none⟩=some (.slice xa xn xc)/\W.cell? ⟨cb,i*5+3,none⟩=some (.bool xfin)/\W.cell? ⟨cb,i*5+4,none⟩=some (.slice xb xm xd)/\W.cell? ⟨cb,j*5,none⟩=some (.int .i64 (ynum:Int))/\W.cell? ⟨cb,j*5+1,none⟩=some (.int .i64 (yl:Int))/\W.cell? ⟨cb,j*5+2,none⟩=some (.slice ya yn yc)/\W.cell? ⟨cb,j*5+3,none⟩=some (.bool yfin)/\W.cell? ⟨cb,j*5+4,none⟩=some (.slice yb ym yd))) (by kernel_rfl) (by first|((first|exact hS2|exact HS0.out))|((try dsimp only);(first|exact hS2|exact HS0.out))) (fun hHeld=>?_)
 refine wpAnyH_take (i:=0) (v:=?vlsa1) rfl (by kernel_rfl) (by kernel_rfl) (by kernel_rfl) (fun _ _ _ h=>h) (Or.inl ⟨by rfl,?hlsa1⟩) (by assumption) ?rlsa1
 case hlsa1=>intro w hSw;(try dsimp only at hSw);go_simp;try with_reducible rfl
 simp only [Act.put,List.getElem_toArray,List.getElem_cons_zero,List.setIfInBounds_toArray,List.set_cons_succ,List.set_cons_zero];refine wpAnyH_take (i:=1) (v:=?vlsa4) rfl (by kernel_rfl) (by kernel_rfl) (by kernel_rfl) (fun _ _ _ h=>h) (Or.inl ⟨by rfl,?hlsa4⟩) (by assumption) ?rlsa4
 case hlsa4=>intro w hSw;(try dsimp only at hSw);go_simp;try with_reducible rfl
 simp only [Act.put,List.getElem_toArray,List.setIfInBounds_toArray];refine t_h 2 ?_;refine t_h 3 ?_;refine t_h 4 ?_;refine t_h 5 ?_;refine t_h 6 ?_;refine t_h 7 ?_;refine t_h 8 ?_;refine t_h 9 ?_;refine t_h 10 ?_;refine t_h 11 ?_;refine t_h 12 ?_;refine t_h 13 ?_;refine r_h 14 (fun K hK=>?_);go_simp;go_at_call 118;refine (ato ⟨xnum,xl,xa,xn,xc,xf,⟨xfin,xb,xm,xd,xarcs⟩⟩ ⟨ynum,yl,ya,yn,yc,yf,⟨yfin,yb,ym,yd,yarcs⟩⟩ _ HX.out HY.out HR.out).mono ?_;rintro e W2 ⟨rfl,q,gs,rfl⟩;have hS2:=HS.out q gs;go_wp2_with fail;refine k_h hK (by (try dsimp only);(first|exact hS2|exact HS0.out)) (fun hHeld=>?_)
 clear hK K;refine t_h 15 ?_;refine wpAnyH_done (by kernel_rfl) ?_ _
 go_wp2;go_ret;exact ⟨rfl,1+q,gs,by rw [<-ais];rfl⟩
end
section
open Go.RowKit Tri Go.Sort

theorem alv (x:Cz):clt x x=false:=by
 unfold clt;simp [cd]
theorem apu {a b c:Cz} (h1:clt a b=true) (h2:clt b c=true):clt a c=true:=by
 unfold clt at *;simp only [Bool.or_eq_true,Bool.and_eq_true,decide_eq_true_eq] at *;rcases h1 with h1|⟨h1,h1'⟩<;>rcases h2 with h2|⟨h2,h2'⟩
 ·exact .inl (by omega)
 ·exact .inl (by omega)
 ·exact .inl (by omega)
 ·exact .inr ⟨by omega,di h1' h2'⟩
theorem alw {a b c:Cz} (h1:clt a b=false) (h2:clt b c=false):clt a c=false:=by
 unfold clt at *;simp only [Bool.or_eq_false_iff,Bool.and_eq_false_iff,decide_eq_false_iff_not] at *;obtain ⟨h1,h1'⟩:=h1;obtain ⟨h2,h2'⟩:=h2;refine ⟨by omega,?_⟩
 by_cases e:a.long=c.long
 ·right;rcases h1' with h|h
  ·omega
  ·rcases h2' with h' | h'
   ·omega
   ·exact ahr h h'
 ·exact .inl e
abbrev CkD (w:World) (cb:Nat):={ x:Cz // x.Reads w/\∀b off,x.fa=some ⟨b,off,none⟩->b≠cb }
instance {w:World} {cb:Nat}:Inhabited (CkD w cb):=⟨⟨Cz.no,⟨⟨rfl,Nat.le_refl _,by show 0<=maxLen;omega,fun z hz=>(by cases hz),.inl rfl⟩,by show 0<=1000;omega⟩,by intro b off e;cases e⟩⟩
def ckc {w:World} {cb:Nat} (x:CkD w cb):List Value:=x.1.cells
def cklt {w:World} {cb:Nat} (x y:CkD w cb):Bool:=clt x.1 y.1
theorem atp (w:World) (cb:Nat):SWO (cklt (w:=w) (cb:=cb)):=⟨fun x=>alv x.1,fun _ _ _ h h'=>apu h h',fun _ _ _ h h'=>alw h h'⟩
theorem aww {w:World} {cb:Nat} (x:CkD w cb):∀v∈ckc x,v.oneCell'=true:=by
 intro u hu;simp only [ckc,Cz.cells,List.mem_cons,List.not_mem_nil,or_false] at hu;rcases hu with rfl|rfl|rfl|rfl|rfl<;>rfl
theorem agy {α:Type} [Inhabited α] {enc:α->List Value} {k blk off:Nat} {w W:World} {D:Array α} (h:AtK enc k w blk off D W):Kp blk w W/\W.os=w.os/\W.tape=w.tape/\W.output=w.output:=by
 obtain ⟨q,gs,rfl⟩:=h;refine ⟨⟨?_,fun b hb hne=>?_⟩,rfl,rfl,rfl⟩
 ·rw [size_grow];unfold putRowK putRow mapBlock;simp
 ·have hb':b<(putRowK enc k (Sort.ahead w q) blk off D).heap.size:=by
   unfold putRowK putRow mapBlock;simp;exact hb
  have e:=heap_grow_old (putRowK enc k (Sort.ahead w q) blk off D) gs hb';rw [e];unfold putRowK putRow mapBlock;simp only [Array.getElem?_modify];rw [if_neg (fun e=>hne e.symm)]
  try rfl
theorem ayy {w W:World} {k:IntKind} {cb:Nat} {a:Option Addr} {n cap:Nat} {zs:List Int} (h:Sl k w a n cap zs) (hk:Kp cb w W) (hne:∀b off,a=some ⟨b,off,none⟩->b≠cb):Sl k W a n cap zs:=by
 obtain ⟨h1,h2,h3,h4,h5⟩:=h;refine ⟨h1,h2,h3,h4,?_⟩;rcases h5 with h5|⟨b,off,ha,hc⟩
 ·exact .inl h5
 ·exact .inr ⟨b,off,ha,fun i hi=>hk.cell (hc i hi) (hne b off ha)⟩
theorem rk {w W:World} {cb blk:Nat} {D:Array (CkD w cb)} (h:HoldsK ckc 5 W blk 0 D) {i t:Nat} (hi:i<D.size) (ht:t<5):W.cell? ⟨blk,i*5+t,none⟩=(D[i]!).1.cells[t]?:=by
 have hl:t<(ckc D[i]!).length:=ht;have h1:=(h (i*5+t) (by rw [size_flatK];omega)).1
 rw [get_flatK ckc 5 D _ (by omega),show (i*5+t)/5=i by omega,show (i*5+t)%5=t by omega] at h1
 rw [show i*5+t=0+(i*5+t) by omega,h1,getElem!_pos (ckc D[i]!) t hl]
 show some _=(ckc D[i]!)[t]?;rw [geg hl];rfl

theorem apv (bx mb cb cc B:Nat) (cs:List Cz) (w:World) (hb:w.cell? ⟨bx,0,none⟩=some (.pointer (some ⟨mb,0,none⟩))) (h3:w.cell? ⟨mb,3,none⟩=some (.slice (some ⟨cb,0,none⟩) cs.length cc)) (hne:bx≠cb/\mb≠cb)
 (hrow:w.ownsRow B 158 5 (.slice (some ⟨cb,0,none⟩) cs.length cc) cs.length (ccells cs)) (hcs:∀x∈cs,x.Reads w/\∀b off,x.fa=some ⟨b,off,none⟩->b≠cb) (h1:1<=cs.length) (h7:cs.length<=7000) (hcc:cs.length<=cc/\cc<=maxLen) :
 Calls Tryz.prog 116 #[.iface 102 (.slice (some ⟨cb,0,none⟩) cs.length cc),.func (.func 117) #[] #[.pointer (some ⟨bx,0,none⟩)]] w fun e w' =>
  e=.returned (.tuple #[])/\∃cs':List Cz,cs'.Perm cs/\(cs'.Pairwise fun a b=>clt b a=false)/\Kp cb w w'/\(w'.os=w.os/\w'.tape=w.tape/\w'.output=w.output) /\
    ∀i,i<cs.length->∀t,t<5->w'.cell? ⟨cb,i*5+t,none⟩=(cs'.getD i Cz.no).cells[t]?:=by
 obtain ⟨d,hd⟩:∃d:Array (CkD w cb),d=(cs.attach.map fun x=>(⟨x.1,hcs x.1 x.2⟩:CkD w cb)).toArray:=⟨_,rfl⟩;have hds:d.size=cs.length:=by rw [hd];simp
 have hdl:d.toList.map (·.1)=cs:=by
  rw [hd];simp only [List.map_map];refine List.ext_getElem (by simp) fun i h1 h2=>?_
  simp
 have hdi:∀i,i<cs.length->(d[i]!).1=cs.getD i Cz.no:=by
  intro i hi;have e:(d.toList.map (·.1))[i]'(by simp [hds];exact hi)=cs[i]:=by simp only [hdl]
  rw [getElem!_pos d i (by omega)]
  simp only [List.getElem_map,Array.getElem_toList] at e;rw [e];simp [hi]
 have hH:HoldsK ckc 5 w cb 0 d:=by
  intro t ht;rw [size_flatK,hds] at ht;rw [get_flatK ckc 5 d t (by rw [hds];exact ht)]
  have hi:t/5<cs.length:=by omega
  have hr:t%5<5:=Nat.mod_lt _ (by omega)
  refine ⟨?_,hrow.frozenAt _⟩;have hc:=ur cs (t/5) (t%5) hi hr;rw [show t/5*5+t%5=t by omega] at hc
  rw [show (0:Nat)+t=t by omega,hrow.cellAt t ht,hc]
  have hl:t%5<(ckc d[t/5]!).length:=hr;rw [getElem!_pos (ckc d[t/5]!) (t%5) hl];show _=some ((ckc d[t/5]!)[t%5]);rw [<-geg hl];show _=(d[t/5]!).1.cells[t%5]?;rw [hdi _ hi]
 have hblk:=(hrow.lt cb rfl).2
 have hless:∀(D:Array (CkD w cb)) (W:World),D.size=d.size->AtK ckc 5 w cb 0 D W->∀i j:Nat,i<d.size->j<d.size ->
  Calls Tryz.prog 117 (#[.int .i64 i,.int .i64 j]++#[.pointer (some ⟨bx,0,none⟩)]) W fun e W'=>e=.returned (.bool (cklt D[i]! D[j]!))/\∃q os,W'=Sort.grow (Sort.ahead W q) os:=by
  intro D W hs hA i j hi hj;have hW:=(AtK.holds hA hH hs hblk).1;have hK:=(agy hA).1;have hrd:∀x:CkD w cb,x.1.Reads W:=fun x=>⟨ayy x.2.1.1 hK x.2.2,x.2.1.2⟩;exact apt bx mb cb cs.length cc (D[i]!).1 (D[j]!).1 i j W (hK.cell hb hne.1) (hK.cell h3 hne.2) (by omega) (by omega) hcc (fun t ht=>rk hW (by omega) ht) (fun t ht=>rk hW (by omega) ht) (hrd _) (hrd _) rfl
 have h:=abw (enc:=ckc) (lt:=cklt) (blk:=cb) (off:=0) (g:=117) (lb:=#[.pointer (some ⟨bx,0,none⟩)]) (w:=w) (fun _=>rfl) aww (atp w cb) (enters_of Tryz.func117 (by kernel_rfl) rfl) cc d (by omega) (by omega) hless hH hblk
 rw [hds] at h;refine h.mono ?_;rintro e w' ⟨rfl,d',hp,hso,hd's,hat,hk⟩;have hsz:d'.size=cs.length:=hd's;have hW:=(AtK.holds hat hH (by omega) hblk).1
 refine ⟨rfl,d'.toList.map (·.1),?_,?_,hk,(agy hat).2,fun i hi t ht=>?_⟩
 ·have h2:=hp.2.2;have e1:d'.extract 0 cs.length=d':=by rw [<-hsz];exact Array.extract_size
  have e2:d.extract 0 cs.length=d:=by rw [<-hds];exact Array.extract_size
  rw [e1,e2] at h2;have h4:=h2.map (fun x:CkD w cb=>x.1);rw [hdl] at h4;exact h4
 ·rw [List.pairwise_iff_getElem];intro i j hi hj hij;simp only [List.length_map,Array.length_toList] at hi hj;have h5:=hso i j (Nat.zero_le _) hij (by omega)
  rw [getElem!_pos d' i hi,getElem!_pos d' j hj] at h5;simpa [cklt] using h5
 ·rw [rk hW (by omega) ht]
  have e:(d'.toList.map (·.1)).getD i Cz.no=(d'[i]!).1:=by
   rw [getElem!_pos d' i (by omega)]
   simp [show i<d'.size by omega]
  rw [e]
end
section
open Go.RowKit Tri Daw

structure Outd (w:World) (Z:Nat) (p:Option Addr) (k c:Nat) (outs:List Sw):Prop where
 row:w.ownsRow Z 58 2 (.slice p k c) k (scells outs)
 arcs:∀x∈outs,w.ownsRow Z 95 2 x.s x.n (acells x.arcs)
 wfs:∀x∈outs,∀y∈x.arcs,(Lit.int .i64 y.1).wf=true/\(Lit.int .i64 y.2).wf=true
theorem Outd.len {w:World} {Z k c:Nat} {p:Option Addr} {outs:List Sw} (h:Outd w Z p k c outs):outs.length=k:=by
 have:=h.row.1;rw [jf] at this;omega
theorem Outd.below {w w':World} {Z k c:Nat} {p:Option Addr} {outs:List Sw} (h:Outd w Z p k c outs) (hb:Below w.heap.size w w'):Outd w' Z p k c outs :=
 ⟨af h.row hb lrf,fun x hx=>af (h.arcs x hx) hb lrf,h.wfs⟩
theorem Outd.add {w w':World} {Z k c c':Nat} {p p':Option Addr} {outs:List Sw} {y:Sw} (h:Outd w Z p k c outs) (hg:w.grownBy w' (Value.slice p k c).ownBlock) (hr:w'.ownsRow Z 58 2 (.slice p' (k+1) c') (k+1) (scells (outs++[y]))) (hy:w.ownsRow Z 95 2 y.s y.n (acells y.arcs))
 (hw:∀z∈y.arcs,(Lit.int .i64 z.1).wf=true/\(Lit.int .i64 z.2).wf=true):Outd w' Z p' (k+1) c' (outs++[y]):=by
 refine ⟨hr,fun x hx=>?_,fun x hx=>?_⟩
 ·rcases map1 hx with hx|hx
  ·exact (h.arcs x hx).kept hg (fm (h.arcs x hx) h.row mh.symm)
  ·rw [msg hx];exact hy.kept hg (fm hy h.row mh.symm)
 ·rcases map1 hx with hx|hx
  ·exact h.wfs x hx
  ·rw [msg hx];exact hw
theorem Outd.good {w:World} {Z k c:Nat} {p:Option Addr} {outs:List Sw} (h:Outd w Z p k c outs):∀x∈outs,x.Good w:=fun x hx=>Ars.of_owns (h.arcs x hx) (h.wfs x hx) (by
 have:=(h.arcs x hx).1
 rw [fj] at this;omega)
theorem Outd.ss {w:World} {Z k c:Nat} {p:Option Addr} {outs:List Sw} (h:Outd w Z p k c outs):Ss w p k c outs:=Ss.of_owns h.row h.good h.len

def ledS (P:Int->Int) (x:Cz):St:=⟨x.st.fin,x.st.arcs.map fun a=>(a.1,P a.2)⟩
theorem atv {cb:Nat} {w w':World} {B:Nat} (h:Kp cb w w') (ho:w'.os=w.os/\w'.tape=w.tape/\w'.output=w.output) (hB:B<=cb/\B<=w.heap.size):Below B w w':=⟨ho.1,ho.2.1,ho.2.2,h.size,fun k hk=>h.block k (by omega) (by omega)⟩

theorem ayf {w W:World} {cb:Nat} {a:Option Addr} {n cap:Nat} {l:List (Int × Int)} (h:Ars w a n cap l) (hk:Kp cb w W) (hne:∀b off,a=some ⟨b,off,none⟩->b≠cb):Ars W a n cap l:=by
 obtain ⟨h1,h2,h3,h4,h5⟩:=h;refine ⟨h1,h2,h3,h4,?_⟩;rcases h5 with h5|⟨b,off,ha,hc⟩
 ·exact .inl h5
 ·exact .inr ⟨b,off,ha,fun i hi=>⟨hk.cell (hc i hi).1 (hne b off ha),hk.cell (hc i hi).2 (hne b off ha)⟩⟩

theorem aqd (B g mb ob mp N cb cc M:Nat) (os:List Wd) (ns:List Int) (L:List St) (cs:List Cz) (w:World) (hM:Mr w B g mb ob mp N os ns L cs (.slice (some ⟨cb,0,none⟩) cs.length cc)) (hl:cs.length=M) (h1:1<=M) (h7:M<=7000) (hcc:M<=cc/\cc<=maxLen)
 (hnum:∀j,j<M->(cs.getD j Cz.no).num=j) (hto:∀x∈cs,∀a∈x.st.arcs,0<=a.2/\a.2<(M:Int)) (hsm:∀x∈cs,x.st.n<=2000000) :
 Calls Tryz.prog 69 #[.pointer (some ⟨mb,0,none⟩)] w fun e w'=>∃(cs':List Cz) (P:Int->Int) (p:Option Addr) (c:Nat) (ys:List Sw),cs'.Perm cs/\(cs'.Pairwise fun a b=>clt b a=false)/\(∀k,k<M->P ((cs'.getD k Cz.no).num:Int)=(k:Int)) /\
  e=.returned (.slice p M c)/\Ss w' p M c ys/\sts ys=cs'.map (ledS P)/\(p=none->c=0)/\Below B w w':=by
 subst hl;obtain ⟨hl1,hl2,hl3,hl4⟩:=hM.lt;have hcbB:B<=cb:=(hM.row.lt cb rfl).1;have hcbs:cb<w.heap.size:=(hM.row.lt cb rfl).2;have hms:mb<w.heap.size:=by omega
 have hm3:w.cell? ⟨mb,3,none⟩=some (.slice (some ⟨cb,0,none⟩) cs.length cc):=by rw [ae hM.box];rfl
 have hba:Below w.heap.size w (w.alloc (.cells #[.pointer (some ⟨mb,0,none⟩)] 155)):=(Below.refl _ w).alloc lrf _;have hMa:=hM.below hba;have hbx:(w.alloc (.cells #[.pointer (some ⟨mb,0,none⟩)] 155)).cell? ⟨w.heap.size,0,none⟩=some (.pointer (some ⟨mb,0,none⟩)):=by rw [ae (han w _)];rfl
 have hm3a:(w.alloc (.cells #[.pointer (some ⟨mb,0,none⟩)] 155)).cell? ⟨mb,3,none⟩=some (.slice (some ⟨cb,0,none⟩) cs.length cc):=by rw [ae hMa.box];rfl
 have hsort:=apv w.heap.size mb cb cc B cs _ hbx hm3a ⟨by omega,by omega⟩ hMa.row (fun x hx=>⟨⟨(hMa.each x hx).first,(hMa.each x hx).long⟩,fun b off e=>by have:=((hMa.each x hx).far b off e).1;omega⟩) h1 h7 hcc
 have HSORT:=hdq hsort;have HA:=hdq hMa;have HBX:=hdq hbx;have HM3:=hdq hm3a;have HBA:=hdq hba;have HNUM:=hdq hnum;have HTO:=hdq hto;have HSM:=hdq hsm;have HCC:=hdq hcc;have hcc1:=hcc.1;have hcc2:=hcc.2;unfold maxLen at hcc2;have hmk:=run_make_row' (P:=Tryz.prog) 51 3 (.int .i64 0) 8 Tryz.underlying51 fq rfl .i64 .i64 cs.length (by omega) (by omega)
 obtain ⟨M,hMl⟩:∃M,cs.length=M:=⟨_,rfl⟩;have HML:=hdq hMl;rw [hMl] at hmk hm3 h1 h7 hcc1 ⊢;clear hsort hMa hbx hm3a hba hnum hto hsm hcc hMl hM;go_enter Tryz.func69,Tryz.ntmps69;go_wp2_with (go_at_call 116;have hsort:=HSORT.out;rw [HML.out] at hsort;refine hsort.mono ?_;rintro e w2 ⟨rfl,cs',hperm,hsrt,hkp,hsame,hcells⟩;have HP:=hdq hperm;have HST:=hdq hsrt;have HKP:=hdq hkp;have HSA:=hdq hsame;have HCE:=hdq hcells;have hb2:w2.cell? ⟨w.heap.size,0,none⟩=some (.pointer (some ⟨mb,0,none⟩)):=hkp.cell HBX.out (by omega);have hm32:w2.cell? ⟨mb,3,none⟩=some (.slice (some ⟨cb,0,none⟩) M cc):=(by have h:=hkp.cell HM3.out (show mb≠cb by omega);rw [HML.out] at h;exact h);have hs2:w.heap.size<w2.heap.size:=(by have:=hkp.size;simp at this;omega);have hms2:mb<w2.heap.size:=(by omega);clear hperm hsrt hkp hsame hcells hsort hm3)
 have HCL:Hid (cs'.length=M):=hdq (by rw [<-HML.out];exact HP.out.length_eq)
 have hnums:∀j,j<M->(cs'.getD j Cz.no).num<M:=by
  intro j hj;have hm:cs'.getD j Cz.no∈cs:=HP.out.mem_iff.1 (dg (by rw [HCL.out];exact hj))
  obtain ⟨i,hi,he⟩:=List.getElem_of_mem hm;have h:=HNUM.out i hi;have e:cs.getD i Cz.no=cs[i]:=by simp [hi]
  rw [e,he] at h;rw [h,<-HML.out];exact hi
 have hdist:∀i j,i<M->j<M->(cs'.getD i Cz.no).num=(cs'.getD j Cz.no).num->i=j:=by
  have hnd:(cs.map (·.num)).Nodup:=by
   rw [List.nodup_iff_pairwise_ne,List.pairwise_iff_getElem];intro i j hi hj hij;simp only [List.length_map] at hi hj;have e1:cs.getD i Cz.no=cs[i]:=by simp [hi]
   have e2:cs.getD j Cz.no=cs[j]:=by simp [hj]
   have h1:=HNUM.out i hi;have h2:=HNUM.out j hj;rw [e1] at h1;rw [e2] at h2;simp only [List.getElem_map,ne_eq];omega
  have hnd':(cs'.map (·.num)).Nodup:=(HP.out.map (·.num)).nodup_iff.2 hnd;intro i j hi hj he;have hl:=HCL.out;have e1:cs'.getD i Cz.no=cs'[i]'(by omega):=by simp [show i<cs'.length by omega]
  have e2:cs'.getD j Cz.no=cs'[j]'(by omega):=by simp [show j<cs'.length by omega]
  rw [e1,e2] at he;exact (List.getElem_inj (xs:=cs'.map (·.num)) (h₀:=by simp;omega) (h₁:=by simp;omega) hnd').1 (by simpa using he)
 have HGD:Hid (∀x∈cs',Sw.Good w2 x.st):=hdq (fun x hx=>by
  have hm:x∈cs:=HP.out.mem_iff.1 hx;have hc:=HA.out.each x hm
  exact ayf hc.good HKP.out (fun b off e e'=>by
   rcases fm hc.arcs HA.out.row avi with h|h
   ·rw [Sw.s,e] at h;cases h
   ·rw [Sw.s,e] at h;exact h (by rw [e'];rfl)))
 have HNS:=hdq hnums;have HDI:=hdq hdist
 have HPB:Hid ((w2.alloc (.cells (madeCells #[.int .i64 0] M) 3)).ownsRow w2.heap.size 3 1 (.slice (some ⟨w2.heap.size,0,none⟩) M M) M (ah (List.replicate M 0))):=hdq (by
  have h:=World.ownsRow_lit (base:=w2.heap.size) (e:=3) (size:=1) w2 (madeCells #[.int .i64 0] M) M lrf (by unfold maxLen;omega) (by simp [madeCells])
  have e:(madeCells #[Value.int .i64 0] M).toList=ah (List.replicate M 0):=by
   apply List.ext_getElem
   ·simp [madeCells,ah]
   ·intro i h1 h2;simp [madeCells,ah,Nat.mod_one]
  rw [e] at h;exact h)
 have HBS:∀o,Hid (Below w2.heap.size w2 (w2.alloc o)):=fun o=>hdq ((Below.refl _ w2).alloc lrf o);clear hnums hdist hmk;go_loopw [27] (fun ix wr=>∃(k:Nat) (ps:List Int),k<=M/\ix=.int .i64 (k:Int)/\Hid (wr.ownsRow w2.heap.size 3 1 (.slice (some ⟨w2.heap.size,0,none⟩) M M) M (ah ps))/\Hid (ps.length=M/\(∀z∈ps,(Lit.int .i64 z).wf=true)/\∀j,j<k->ps.getD (cs'.getD j Cz.no).num 0=(j:Int))/\Hid (Below w2.heap.size w2 wr)) (fun ix _=>M-(intOf ix).toNat)
 case atStart=>exact ⟨0,_,Nat.zero_le _,rfl,HPB,hdq ⟨by simp,fun z hz=>by rw [(List.mem_replicate.1 hz).2];decide,fun j hj=>by omega⟩,HBS _⟩
 case round =>
  obtain ⟨k,ps,hk,rfl,HRW,HPS,HBW⟩:=hrel;by_cases hlt:k<M
  ·have hcc:=fun t (ht:t<5)=>HCE.out k hlt t ht;obtain ⟨x,hx⟩:∃x,cs'.getD k Cz.no=x:=⟨_,rfl⟩;have hnm:=HNS.out k hlt;rw [hx] at hcc hnm;have HXE:=hdq hx;obtain ⟨xnum,xl,xa,xn,xc,xf,⟨xfin,xb,xm,xd,xarcs⟩⟩:=x;simp only at hnm;have hcb2:cb<w2.heap.size:=by omega
   have hc0:wr.cell? ⟨cb,k*5,none⟩=some (.int .i64 (xnum:Int)):=by rw [HBW.out.cell (p:=⟨cb,k*5,none⟩) hcb2];exact hcc 0 (by omega)
   have hc1:wr.cell? ⟨cb,k*5+1,none⟩=some (.int .i64 (xl:Int)):=by rw [HBW.out.cell (p:=⟨cb,k*5+1,none⟩) hcb2];exact hcc 1 (by omega)
   have hc2:wr.cell? ⟨cb,k*5+2,none⟩=some (.slice xa xn xc):=by rw [HBW.out.cell (p:=⟨cb,k*5+2,none⟩) hcb2];exact hcc 2 (by omega)
   have hc3:wr.cell? ⟨cb,k*5+3,none⟩=some (.bool xfin):=by rw [HBW.out.cell (p:=⟨cb,k*5+3,none⟩) hcb2];exact hcc 3 (by omega)
   have hc4:wr.cell? ⟨cb,k*5+4,none⟩=some (.slice xb xm xd):=by rw [HBW.out.cell (p:=⟨cb,k*5+4,none⟩) hcb2];exact hcc 4 (by omega)
   have hpc:wr.cell? ⟨w2.heap.size,xnum,none⟩=some (.int .i64 (ps.getD xnum 0)):=by rw [HRW.out.cellAt xnum (by omega)];simp [ah,HPS.out.1,hnm]
   have hpf:wr.frozen? ⟨w2.heap.size,xnum,none⟩=false:=HRW.out.frozenAt _;have hps:w2.heap.size<wr.heap.size:=(HRW.out.lt _ rfl).2;have hkz:(k:Int)<(M:Int):=by omega
   have hnz:(xnum:Int)<(M:Int):=by omega
   have hn0:(0:Int)<=(xnum:Int):=by omega
   have HRA:∀o,Hid (((wr.setCell ⟨w2.heap.size,xnum,none⟩ (.int .i64 (k:Int))).alloc o).ownsRow w2.heap.size 3 1 (.slice (some ⟨w2.heap.size,0,none⟩) M M) M ((ah ps).set xnum (.int .i64 (k:Int)))):=fun o=>hdq ((HRW.out.stored xnum (.int .i64 (k:Int))).1.alloc o);have HRB:∀o,Hid (Below w2.heap.size w2 ((wr.setCell ⟨w2.heap.size,xnum,none⟩ (.int .i64 (k:Int))).alloc o)):=fun o=>hdq ((HBW.out.setCell (p:=⟨w2.heap.size,xnum,none⟩) lrf _).alloc (by have h1:=HBW.out.size;have h2:=(aq wr ⟨w2.heap.size,xnum,none⟩ (.int .i64 (k:Int))).size;omega) o)
   clear hcc hx;go_wp2;go_roundw
   case rel =>
    refine ⟨k+1,ps.set xnum (k:Int),by omega,by go_num,hdq ?_,hdq ⟨by rw [List.length_set];exact HPS.out.1,fun z hz=>?_,fun j hj=>?_⟩,HRB _⟩
    ·have e:ah (ps.set xnum (k:Int))=(ah ps).set xnum (.int .i64 (k:Int)):=by simp [ah,List.map_set]
     rw [e];exact (HRA _).out
    ·rcases List.mem_or_eq_of_mem_set hz with hz|rfl
     ·exact HPS.out.2.1 z hz
     ·apply WalkArith.wf_i64<;>omega
    ·by_cases hjk:j=k
     ·subst hjk;rw [HXE.out];simp [HPS.out.1,hnm]
     ·have hne:xnum≠(cs'.getD j Cz.no).num:=fun e=>hjk (HDI.out j k (by omega) hlt (by rw [HXE.out];exact e.symm))
      rw [gdq,List.getElem?_set_ne hne,<-gdq];exact HPS.out.2.2 j (by omega)
   case measure=>simp [intOf];omega
  ·obtain rfl:k=M:=by omega
   have hm3r:wr.cell? ⟨mb,3,none⟩=some (.slice (some ⟨cb,0,none⟩) k cc):=by rw [HBW.out.cell (p:=⟨mb,3,none⟩) hms2];exact hm32
   have hbr:wr.cell? ⟨w.heap.size,0,none⟩=some (.pointer (some ⟨mb,0,none⟩)):=by rw [HBW.out.cell (p:=⟨w.heap.size,0,none⟩) hs2];exact hb2
   obtain ⟨P,hP⟩:∃P:Int->Int,P=fun t=>ps.getD t.toNat 0:=⟨_,rfl⟩;have HPP:=hdq hP;clear hP hm32 hb2;go_wp2;generalize wr=w5 at *;go_loopw [6,43] (fun sv ix wr=>∃(i:Nat) (p:Option Addr) (c:Nat) (outs:List Sw),i<=k/\sv=.slice p i c/\ix=.int .i64 (i:Int)/\Hid (Outd wr w5.heap.size p i c outs)/\Hid (sts outs=(cs'.take i).map (ledS P))/\Hid (p=none->c=0)/\Hid (Below w5.heap.size w5 wr)) (fun _ ix _=>k-(intOf ix).toNat)
   case atStart=>exact ⟨0,none,0,[],Nat.zero_le _,rfl,rfl,hdq ⟨World.ownsRow_nil _ _ _ _,by simp,by simp⟩,hdq (by simp [sts]),hdq (fun _=>rfl),Below.refl _ _⟩
   case round =>
    obtain ⟨i,p,c,outs,hi,rfl,rfl,HO,HE,HN,HB5⟩:=hrel;by_cases hlti:i<k
    ·have hcc:=fun t (ht:t<5)=>HCE.out i hlti t ht;obtain ⟨x,hx⟩:∃x,cs'.getD i Cz.no=x:=⟨_,rfl⟩;have hxm:x∈cs':=by rw [<-hx];exact dg (by rw [HCL.out];exact hlti)
     have hgd:=HGD.out x hxm;have hxc:x∈cs:=HP.out.mem_iff.1 hxm;have hto:=HTO.out x hxc;have hsm:=HSM.out x hxc;have hwf:=(HA.out.each x hxc).wfs;rw [HML.out] at hto;rw [hx] at hcc;have HXE:=hdq hx;obtain ⟨xnum,xl,xa,xn,xc,xf,⟨xfin,xb,xm,xd,xarcs⟩⟩:=x;simp only at hgd hto hsm hwf;have HB25:Hid (Below w2.heap.size w2 wr):=hdq (HBW.out.trans (HB5.out.mono HBW.out.size));have hcb2:cb<w2.heap.size:=by omega
     have hc0:wr.cell? ⟨cb,i*5,none⟩=some (.int .i64 (xnum:Int)):=by rw [HB25.out.cell (p:=⟨cb,i*5,none⟩) hcb2];exact hcc 0 (by omega)
     have hc1:wr.cell? ⟨cb,i*5+1,none⟩=some (.int .i64 (xl:Int)):=by rw [HB25.out.cell (p:=⟨cb,i*5+1,none⟩) hcb2];exact hcc 1 (by omega)
     have hc2:wr.cell? ⟨cb,i*5+2,none⟩=some (.slice xa xn xc):=by rw [HB25.out.cell (p:=⟨cb,i*5+2,none⟩) hcb2];exact hcc 2 (by omega)
     have hc3:wr.cell? ⟨cb,i*5+3,none⟩=some (.bool xfin):=by rw [HB25.out.cell (p:=⟨cb,i*5+3,none⟩) hcb2];exact hcc 3 (by omega)
     have hc4:wr.cell? ⟨cb,i*5+4,none⟩=some (.slice xb xm xd):=by rw [HB25.out.cell (p:=⟨cb,i*5+4,none⟩) hcb2];exact hcc 4 (by omega)
     have hkz:(i:Int)<(k:Int):=by omega
     have HG6:∀o,Hid (Sw.Good (wr.alloc o) ⟨xfin,xb,xm,xd,xarcs⟩):=fun o=>hdq (Sw.Good.below hgd (HB25.out.alloc HB25.out.size o) lrf);have HSP:∀o,Hid (Sl .i64 (wr.alloc o) (some ⟨w2.heap.size,0,none⟩) k k ps):=fun o=>hdq ((Sl.of_owns HRW.out HPS.out.2.1 HPS.out.1).below (HB5.out.alloc HB5.out.size o) lrf);have HT6:Hid (∀a∈xarcs,0<=a.2/\a.2<(k:Int)/\ps.getD a.2.toNat 0=P a.2):=hdq (fun a ha=>⟨(hto a ha).1,(hto a ha).2,by rw [HPP.out]⟩)
     have HS6:=hdq hsm
     have HW6:Hid (∀y∈xarcs.map (fun a=>(a.1,P a.2)),(Lit.int .i64 y.1).wf=true/\(Lit.int .i64 y.2).wf=true):=hdq (fun y hy=>by
      obtain ⟨a,ha,rfl⟩:=List.mem_map.1 hy;refine ⟨(hwf a ha).1,?_⟩;have h1:=hto a ha;rw [HPP.out];simp only [];have h2:a.2.toNat<ps.length:=by rw [HPS.out.1];omega
      rw [gdq,geg h2,Option.getD_some]
      exact HPS.out.2.1 _ (List.getElem_mem _))
     have HB6a:∀o,Hid (Below wr.heap.size wr (wr.alloc o)):=fun o=>hdq ((Below.refl _ wr).alloc lrf o);clear hcc hx hgd hto hsm hwf hxm hxc
     go_wp2_with first
      | (go_at_call 113
         refine (agx ⟨xfin,xb,xm,xd,xarcs⟩ (some ⟨w2.heap.size,0,none⟩) k k ps P _ (HG6 _).out (HSP _).out HT6.out HS6.out).mono ?_;rintro e w6 ⟨gl,rfl,hgl,hown6,hb6⟩;have hbw6:Below wr.heap.size wr w6:=(HB6a _).out.trans (hb6.mono (by simp))
         have HBW6:=hdq hbw6;have HO6:=hdq (HO.out.below hbw6);have HOW6:Hid (w6.ownsRow w5.heap.size 95 2 (.slice (some ⟨gl,0,none⟩) xm xm) xm (acells (xarcs.map fun a=>(a.1,P a.2)))):=hdq (Joins.ownsRow_le hown6 (by have:=HB5.out.size;simp;omega))
         clear hown6 hb6 hbw6 hgl)
      | (at_builtin
         refine mr (by rfl) (.tmp 47) (.tmp 52) (by rfl) w5.heap.size _ i outs (by rfl) (HO6.out.row.alloc _) w6.heap.size (⟨xfin,some ⟨gl,0,none⟩,xm,xm,xarcs.map (fun (a:Int × Int)=>((a.1,P a.2):Int × Int))⟩:Sw) (by rfl) (jz _ _ _ _ _).1 (jz _ _ _ _ _).2 (i+1) rfl (by omega) (by have h1:=HB5.out.size;have h2:=HBW6.out.size;simp;omega) ?_
         intro p7 c7 w7 hown7 hb7 hg7 hnil7;have HO7:=hdq (Outd.add (HO6.out.below ((Below.refl _ w6).alloc lrf _)) hg7 hown7 (HOW6.out.alloc _) HW6.out);have HN7:=hdq hnil7;have HB7:Hid (Below w5.heap.size w5 w7):=hdq ((HB5.out.trans (HBW6.out.mono HB5.out.size)).alloc (by have h1:=HB5.out.size;have h2:=HBW6.out.size;omega) _ |>.trans hb7)
         clear hown7 hb7 hg7 hnil7)
     go_roundw
     case rel =>
      refine ⟨i+1,p7,c7,_,by omega,rfl,by go_num,HO7,hdq ?_,HN7,HB7⟩
      have hil:i<cs'.length:=by rw [HCL.out];exact hlti
      have e:cs'[i]=⟨xnum,xl,xa,xn,xc,xf,⟨xfin,xb,xm,xd,xarcs⟩⟩:=by rw [<-HXE.out];simp [hil]
      rw [abj,HE.out,tsa hil,List.map_append,e];rfl
     case measure=>simp [intOf];omega
    ·obtain rfl:i=k:=by omega
     go_wp2;go_ret;refine ⟨cs',P,p,c,outs,HP.out,HST.out,fun j hj=>?_,rfl,HO.out.ss,?_,HN.out,?_⟩
     ·rw [HPP.out];simp only [Int.toNat_natCast];exact HPS.out.2.2 j hj
     ·rw [HE.out,tol (by rw [HCL.out];exact Nat.le_refl _)]
     ·have h1:=atv HKP.out HSA.out (B:=B) ⟨hcbB,by simp;omega⟩
      have h2:Below B w w2:=(HBA.out.mono hl4).trans h1;exact (h2.trans (HBW.out.mono (by omega))).trans (HB5.out.mono (by have:=HBW.out.size;omega))
end
end Go.Proofs.YtkiamgcpcneggaaGreat
