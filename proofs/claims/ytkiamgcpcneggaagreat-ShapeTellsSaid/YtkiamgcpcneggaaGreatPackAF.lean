import Derived.Test.YtkiamgcpcneggaaGreatPackAT
import Derived.Test.YtkiamgcpcneggaaGreatPackAA
set_option linter.all false
set_option maxRecDepth 100000
set_option maxHeartbeats 12800000
namespace Go.Proofs.YtkiamgcpcneggaaGreat
section
open Go.RowKit Tri Go.Sort

theorem ahead_ahead (w:World) (p q:Nat):Sort.ahead (Sort.ahead w p) q=Sort.ahead w (p+q):=by
 unfold Sort.ahead;simp [Nat.add_assoc]
theorem ajV (w:World) (q:Nat) (gs:Array Obj):w.grownBy (Sort.grow (Sort.ahead w q) gs) none:=⟨rfl,rfl,rfl,by rw [size_grow];exact Nat.le_add_right _ _,fun b hb _=>heap_grow_old (Sort.ahead w q) gs hb⟩
theorem ajW (bx mb cb M cc:Nat) (x y:Cz) (i j:Nat) (W:World) (hb:W.cell? ⟨bx,0,none⟩=some (.pointer (some ⟨mb,0,none⟩))) (h3:W.cell? ⟨mb,3,none⟩=some (.slice (some ⟨cb,0,none⟩) M cc)) (hi:i<M) (hj:j<M) (hM:M<=cc/\cc<=maxLen)
 (kI:∀t,t<5->W.cell? ⟨cb,i*5+t,none⟩=x.cells[t]?) (uk:∀t,t<5->W.cell? ⟨cb,j*5+t,none⟩=y.cells[t]?) (hx:x.Reads W) (hy:y.Reads W) {r:Bool} (hr:clt x y=r) :
 Calls Tryz.prog 117 #[.int .i64 (i:Int),.int .i64 (j:Int),.pointer (some ⟨bx,0,none⟩)] W fun e W'=>e=.returned (.bool r)/\∃q os,W'=Sort.grow (Sort.ahead W q) os:=by
 obtain ⟨cZ,xl,xa,xn,xc,xf,⟨nL,xb,xm,xd,dM⟩⟩:=x;obtain ⟨Cf,yl,ya,yn,yc,yf,⟨Cg,yb,ym,yd,QX⟩⟩:=y;obtain ⟨hM1,hM2⟩:=hM;unfold maxLen at hM2;have HX:Hid (Cz.Reads W.drew ⟨cZ,xl,xa,xn,xc,xf,⟨nL,xb,xm,xd,dM⟩⟩):=hdq hx;have HY:Hid (Cz.Reads W.drew ⟨Cf,yl,ya,yn,yc,yf,⟨Cg,yb,ym,yd,QX⟩⟩):=hdq hy;have HR:=hdq hr;have hmx:Tryz.prog.follows .mixedOrders=true:=krf;have dA:Hid (W.drew.cell? ⟨bx,0,none⟩=some (.pointer (some ⟨mb,0,none⟩))/\W.drew.cell? ⟨mb,3,none⟩=some (.slice (some ⟨cb,0,none⟩) M cc)/\W.drew.cell? ⟨cb,i*5,none⟩=some (.int .i64 (cZ:Int))/\W.drew.cell? ⟨cb,i*5+1,none⟩=some (.int .i64 (xl:Int))/\W.drew.cell? ⟨cb,i*5+2,none⟩=some (.slice xa xn xc)/\W.drew.cell? ⟨cb,i*5+3,none⟩=some (.bool nL)/\W.drew.cell? ⟨cb,i*5+4,none⟩=some (.slice xb xm xd)/\W.drew.cell? ⟨cb,j*5,none⟩=some (.int .i64 (Cf:Int))/\W.drew.cell? ⟨cb,j*5+1,none⟩=some (.int .i64 (yl:Int))/\W.drew.cell? ⟨cb,j*5+2,none⟩=some (.slice ya yn yc)/\W.drew.cell? ⟨cb,j*5+3,none⟩=some (.bool Cg)/\W.drew.cell? ⟨cb,j*5+4,none⟩=some (.slice yb ym yd)):=hdq ⟨hb,h3,kI 0 omg,kI 1 omg,kI 2 omg,kI 3 omg,kI 4 omg,uk 0 omg,uk 1 omg,uk 2 omg,uk 3 omg,uk 4 omg⟩
 have HS:Hid (∀(q:Nat) (gs:Array Obj),(fun W:World=>W.cell? ⟨bx,0,none⟩=some (.pointer (some ⟨mb,0,none⟩))/\W.cell? ⟨mb,3,none⟩=some (.slice (some ⟨cb,0,none⟩) M cc)/\W.cell? ⟨cb,i*5,none⟩=some (.int .i64 (cZ:Int))/\W.cell? ⟨cb,i*5+1,none⟩=some (.int .i64 (xl:Int))/\W.cell? ⟨cb,i*5+2,none⟩=some (.slice xa xn xc)/\W.cell? ⟨cb,i*5+3,none⟩=some (.bool nL)/\W.cell? ⟨cb,i*5+4,none⟩=some (.slice xb xm xd)/\W.cell? ⟨cb,j*5,none⟩=some (.int .i64 (Cf:Int))/\W.cell? ⟨cb,j*5+1,none⟩=some (.int .i64 (yl:Int))/\W.cell? ⟨cb,j*5+2,none⟩=some (.slice ya yn yc)/\W.cell? ⟨cb,j*5+3,none⟩=some (.bool Cg)/\W.cell? ⟨cb,j*5+4,none⟩=some (.slice yb ym yd)) (Sort.grow (Sort.ahead W.drew q) gs)):=hdq (fun q gs=>by
  have hg:=ajV W.drew q gs;obtain ⟨c1,c2,c3,c4,c5,c6,c7,c8,c9,c10,c11,c12⟩:=dA.out
  exact ⟨hg.cell c1 smp,hg.cell c2 smp,hg.cell c3 smp,hg.cell c4 smp,hg.cell c5 smp,hg.cell c6 smp,hg.cell c7 smp,hg.cell c8 smp,hg.cell c9 smp,hg.cell c10 smp,hg.cell c11 smp,hg.cell c12 smp⟩)
 have hiz:(i:Int)<(M:Int):=omg;have hjz:(j:Int)<(M:Int):=omg;have hi0:(0:Int)<=(i:Int):=omg;have hj0:(0:Int)<=(j:Int):=omg;clear hx hy hr hb h3 kI uk;go_enter Tryz.func117,Tryz.ntmps117;go_wp2_with fail;refine wp_region_held_drew (S:=(fun W=>W.cell? ⟨bx,0,none⟩=some (.pointer (some ⟨mb,0,none⟩))/\W.cell? ⟨mb,3,none⟩=some (.slice (some ⟨cb,0,none⟩) M cc)/\W.cell? ⟨cb,i*5,none⟩=some (.int .i64 (cZ:Int))/\W.cell? ⟨cb,i*5+1,none⟩=some (.int .i64 (xl:Int))/\W.cell? ⟨cb,i*5+2,none⟩=some (.slice xa xn xc)/\W.cell? ⟨cb,i*5+3,none⟩=some (.bool nL)/\W.cell? ⟨cb,i*5+4,none⟩=some (.slice xb xm xd)/\W.cell? ⟨cb,j*5,none⟩=some (.int .i64 (Cf:Int))/\W.cell? ⟨cb,j*5+1,none⟩=some (.int .i64 (yl:Int))/\W.cell? ⟨cb,j*5+2,none⟩=some (.slice ya yn yc)/\W.cell? ⟨cb,j*5+3,none⟩=some (.bool Cg)/\W.cell? ⟨cb,j*5+4,none⟩=some (.slice yb ym yd))) krf (by first|((first|exact hS2|exact dA.out))|((try dsimp only);(first|exact hS2|exact dA.out))) (fun hHeld=>?_);refine wpAnyH_take (i:=0) (v:=?atd) rfl krf krf krf (fun _ _ _ h=>h) (Or.inl ⟨by rfl,?aoY⟩) (by assumption) ?ate
 case aoY=>intro w hSw;(try dsimp only at hSw);go_simp;try with_reducible rfl
 simp only [Act.put,List.getElem_toArray,List.getElem_cons_zero,List.setIfInBounds_toArray,List.set_cons_succ,List.set_cons_zero];refine wpAnyH_take (i:=1) (v:=?atf) rfl krf krf krf (fun _ _ _ h=>h) (Or.inl ⟨by rfl,?aoZ⟩) (by assumption) ?atg
 case aoZ=>intro w hSw;(try dsimp only at hSw);go_simp;try with_reducible rfl
 simp only [Act.put,List.getElem_toArray,List.setIfInBounds_toArray];refine t_h 2 ?_;refine t_h 3 ?_;refine t_h 4 ?_;refine t_h 5 ?_;refine t_h 6 ?_;refine t_h 7 ?_;refine t_h 8 ?_;refine t_h 9 ?_;refine t_h 10 ?_;refine t_h 11 ?_;refine t_h 12 ?_;refine t_h 13 ?_;refine r_h 14 (fun K hK=>?_);go_simp;go_at_call 118;refine (ajC ⟨cZ,xl,xa,xn,xc,xf,⟨nL,xb,xm,xd,dM⟩⟩ ⟨Cf,yl,ya,yn,yc,yf,⟨Cg,yb,ym,yd,QX⟩⟩ _ HX.out HY.out HR.out).mono ?_;rintro e W2 ⟨rfl,q,gs,rfl⟩;have hS2:=HS.out q gs;go_wp2_with fail;refine k_h hK (by (try dsimp only);(first|exact hS2|exact dA.out)) (fun hHeld=>?_);clear hK K;refine t_h 15 ?_;refine wpAnyH_done krf ?_ _;go_wp2;go_ret;exact ⟨rfl,1+q,gs,by rw [<-ahead_ahead];rfl⟩
end
section
open Go.RowKit Tri Go.Sort

theorem ajX (x:Cz):clt x x=false:=by
 unfold clt;simp [kW]
theorem ajY {a b c:Cz} (h1:clt a b=true) (h2:clt b c=true):clt a c=true:=by
 unfold clt at *;simp only [Bool.or_eq_true,Bool.and_eq_true,decide_eq_true_eq] at *;rcases h1 with h1|⟨h1,h1'⟩<;>rcases h2 with h2|⟨h2,h2'⟩
 ·exact .inl omg
 ·exact .inl omg
 ·exact .inl omg
 ·exact .inr ⟨by omega,qK h1' h2'⟩
theorem ajZ {a b c:Cz} (h1:clt a b=false) (h2:clt b c=false):clt a c=false:=by
 unfold clt at *;simp only [Bool.or_eq_false_iff,Bool.and_eq_false_iff,decide_eq_false_iff_not] at *;obtain ⟨h1,h1'⟩:=h1;obtain ⟨h2,h2'⟩:=h2;refine ⟨by omega,?_⟩;by_cases e:a.long=c.long
 ·right;rcases h1' with h|h
  ·omega
  ·rcases h2' with h' | h'
   ·omega
   ·exact adV h h'
 ·exact .inl e
abbrev CkD (w:World) (cb:Nat):={ x:Cz // x.Reads w/\∀b off,x.fa=some ⟨b,off,none⟩->b≠cb }
instance {w:World} {cb:Nat}:Inhabited (CkD w cb):=⟨⟨Cz.no,⟨⟨rfl,Nat.le_refl _,by show 0<=maxLen;omega,fun z hz=>(by cases hz),.inl rfl⟩,by show 0<=1000;omega⟩,by intro b off e;cases e⟩⟩
def ckc {w:World} {cb:Nat} (x:CkD w cb):List Value:=x.1.cells
def JE {w:World} {cb:Nat} (x y:CkD w cb):Bool:=clt x.1 y.1
theorem aka (w:World) (cb:Nat):SWO (JE (w:=w) (cb:=cb)):=⟨fun x=>ajX x.1,fun _ _ _ h h'=>ajY h h',fun _ _ _ h h'=>ajZ h h'⟩
theorem akb {w:World} {cb:Nat} (x:CkD w cb):∀v∈ckc x,v.oneCell'=true:=by
 intro u hu;simp only [ckc,Cz.cells,List.mem_cons,List.not_mem_nil,or_false] at hu;rcases hu with rfl|rfl|rfl|rfl|rfl<;>rfl
theorem XJ {α:Type} [Inhabited α] {enc:α->List Value} {k blk off:Nat} {w W:World} {D:Array α} (h:AtK enc k w blk off D W):Kp blk w W/\W.os=w.os/\W.tape=w.tape/\W.output=w.output:=by
 obtain ⟨q,gs,rfl⟩:=h;refine ⟨⟨?_,fun b hb hne=>?_⟩,rfl,rfl,rfl⟩
 ·rw [size_grow];unfold putRowK putRow mapBlock;simp
 ·have hb':b<(putRowK enc k (Sort.ahead w q) blk off D).heap.size:=by
   unfold putRowK putRow mapBlock;simp;exact hb
  have e:=heap_grow_old (putRowK enc k (Sort.ahead w q) blk off D) gs hb';rw [e];unfold putRowK putRow mapBlock;simp only [Array.getElem?_modify];rw [if_neg (fun e=>hne e.symm)]
  try rfl
theorem akc {w W:World} {k:IntKind} {cb:Nat} {a:OAd} {n cap:Nat} {zs:LIn} (h:Sl k w a n cap zs) (hk:Kp cb w W) (hne:∀b off,a=some ⟨b,off,none⟩->b≠cb):Sl k W a n cap zs:=by
 obtain ⟨h1,h2,h3,h4,h5⟩:=h;refine ⟨h1,h2,h3,h4,?_⟩;rcases h5 with h5|⟨b,off,ha,hc⟩
 ·exact .inl h5
 ·exact .inr ⟨b,off,ha,fun i hi=>hk.cell (hc i hi) (hne b off ha)⟩
theorem OV {w W:World} {cb blk:Nat} {D:Array (CkD w cb)} (h:HoldsK ckc 5 W blk 0 D) {i t:Nat} (hi:i<D.size) (ht:t<5):W.cell? ⟨blk,i*5+t,none⟩=(D[i]!).1.cells[t]?:=by
 have hl:t<(ckc D[i]!).length:=ht;have h1:=(h (i*5+t) (by rw [size_flatK];omega)).1;rw [get_flatK ckc 5 D _ omg,show (i*5+t)/5=i by omega,show (i*5+t)%5=t by omega] at h1;rw [show i*5+t=0+(i*5+t) by omega,h1,getElem!_pos (ckc D[i]!) t hl];show some _=(ckc D[i]!)[t]?;rw [geg hl];rfl

theorem akd (bx mb cb cc B:Nat) (cs:List Cz) (w:World) (hb:w.cell? ⟨bx,0,none⟩=some (.pointer (some ⟨mb,0,none⟩))) (h3:w.cell? ⟨mb,3,none⟩=some (.slice (some ⟨cb,0,none⟩) cs.length cc)) (hne:bx≠cb/\mb≠cb)
 (hrow:w.ownsRow B 158 5 (.slice (some ⟨cb,0,none⟩) cs.length cc) cs.length (eG cs)) (hcs:∀x∈cs,x.Reads w/\∀b off,x.fa=some ⟨b,off,none⟩->b≠cb) (h1:1<=cs.length) (h7:cs.length<=7000) (hcc:cs.length<=cc/\cc<=maxLen) :
 Calls Tryz.prog 116 #[.iface 102 (.slice (some ⟨cb,0,none⟩) cs.length cc),.func (.func 117) #[] #[.pointer (some ⟨bx,0,none⟩)]] w fun e w' =>
  e=.returned (.tuple #[])/\∃cs':List Cz,cs'.Perm cs/\(cs'.Pairwise fun a b=>clt b a=false)/\Kp cb w w'/\(w'.os=w.os/\w'.tape=w.tape/\w'.output=w.output) /\
    ∀i,i<cs.length->∀t,t<5->w'.cell? ⟨cb,i*5+t,none⟩=(cs'.getD i Cz.no).cells[t]?:=by
 obtain ⟨d,hd⟩:∃d:Array (CkD w cb),d=(cs.attach.map fun x=>(⟨x.1,hcs x.1 x.2⟩:CkD w cb)).toArray:=⟨_,rfl⟩;have hds:d.size=cs.length:=by rw [hd];simp
 have hdl:d.toList.map (·.1)=cs:=by
  rw [hd];simp only [List.map_map];refine List.ext_getElem smp fun i h1 h2=>?_;simp
 have hdi:∀i,i<cs.length->(d[i]!).1=cs.getD i Cz.no:=by
  intro i hi;have e:(d.toList.map (·.1))[i]'(by simp [hds];exact hi)=cs[i]:=by simp only [hdl]
  rw [getElem!_pos d i omg];simp only [List.getElem_map,Array.getElem_toList] at e;rw [e];simp [hi]
 have hH:HoldsK ckc 5 w cb 0 d:=by
  intro t ht;rw [size_flatK,hds] at ht;rw [get_flatK ckc 5 d t (by rw [hds];exact ht)];have hi:t/5<cs.length:=omg;have hr:t%5<5:=Nat.mod_lt _ omg;refine ⟨?_,hrow.frozenAt _⟩;have hc:=OL cs (t/5) (t%5) hi hr;rw [show t/5*5+t%5=t by omega] at hc;rw [show (0:Nat)+t=t by omega,hrow.cellAt t ht,hc];have hl:t%5<(ckc d[t/5]!).length:=hr;rw [getElem!_pos (ckc d[t/5]!) (t%5) hl];show _=some ((ckc d[t/5]!)[t%5]);rw [<-geg hl];show _=(d[t/5]!).1.cells[t%5]?;rw [hdi _ hi]
 have hblk:=(hrow.lt cb rfl).2
 have hless:∀(D:Array (CkD w cb)) (W:World),D.size=d.size->AtK ckc 5 w cb 0 D W->∀i j:Nat,i<d.size->j<d.size ->
  Calls Tryz.prog 117 (#[.int .i64 i,.int .i64 j]++#[.pointer (some ⟨bx,0,none⟩)]) W fun e W'=>e=.returned (.bool (JE D[i]! D[j]!))/\∃q os,W'=Sort.grow (Sort.ahead W q) os:=by
  intro D W hs hA i j hi hj;have hW:=(AtK.holds hA hH hs hblk).1;have hK:=(XJ hA).1;have hrd:∀x:CkD w cb,x.1.Reads W:=fun x=>⟨akc x.2.1.1 hK x.2.2,x.2.1.2⟩;exact ajW bx mb cb cs.length cc (D[i]!).1 (D[j]!).1 i j W (hK.cell hb hne.1) (hK.cell h3 hne.2) omg omg hcc (fun t ht=>OV hW omg ht) (fun t ht=>OV hW omg ht) (hrd _) (hrd _) rfl
 have h:=ajN (enc:=ckc) (lt:=JE) (blk:=cb) (off:=0) (g:=117) (lb:=#[.pointer (some ⟨bx,0,none⟩)]) (w:=w) (fun _=>rfl) akb (aka w cb) (enters_of Tryz.func117 krf rfl) cc d omg omg hless hH hblk;rw [hds] at h;refine h.mono ?_;rintro e w' ⟨rfl,d',hp,hso,Ka,hat,hk⟩;have hsz:d'.size=cs.length:=Ka;have hW:=(AtK.holds hat hH omg hblk).1;refine ⟨rfl,d'.toList.map (·.1),?_,?_,hk,(XJ hat).2,fun i hi t ht=>?_⟩
 ·have h2:=hp.2.2;have e1:d'.extract 0 cs.length=d':=by rw [<-hsz];exact Array.extract_size
  have e2:d.extract 0 cs.length=d:=by rw [<-hds];exact Array.extract_size
  rw [e1,e2] at h2;have h4:=h2.map (fun x:CkD w cb=>x.1);rw [hdl] at h4;exact h4
 ·rw [List.pairwise_iff_getElem];intro i j hi hj hij;simp only [List.length_map,Array.length_toList] at hi hj;have h5:=hso i j (Nat.zero_le _) hij omg;rw [getElem!_pos d' i hi,getElem!_pos d' j hj] at h5;simpa [JE] using h5
 ·rw [OV hW omg ht]
  have e:(d'.toList.map (·.1)).getD i Cz.no=(d'[i]!).1:=by
   rw [getElem!_pos d' i omg];simp [show i<d'.size by omega]
  rw [e]
end
section
open Go.RowKit Tri Daw

structure nO (w:World) (Z:Nat) (p:OAd) (k c:Nat) (outs:List Sw):Prop where
 row:w.ownsRow Z 58 2 (.slice p k c) k (bT outs)
 arcs:∀x∈outs,w.ownsRow Z 95 2 x.s x.n (aL x.arcs)
 wfs:∀x∈outs,∀y∈x.arcs,(Lit.int .i64 y.1).wf=true/\(Lit.int .i64 y.2).wf=true
theorem nO.len {w:World} {Z k c:Nat} {p:OAd} {outs:List Sw} (h:nO w Z p k c outs):outs.length=k:=by
 have:=h.row.1;rw [yx] at this;omega
theorem nO.below {w w':World} {Z k c:Nat} {p:OAd} {outs:List Sw} (h:nO w Z p k c outs) (hb:Below w.heap.size w w'):nO w' Z p k c outs :=
 ⟨ownsRow_below h.row hb lrf,fun x hx=>ownsRow_below (h.arcs x hx) hb lrf,h.wfs⟩
theorem nO.add {w w':World} {Z k c c':Nat} {p p':OAd} {outs:List Sw} {y:Sw} (h:nO w Z p k c outs) (hg:w.grownBy w' (Value.slice p k c).ownBlock) (hr:w'.ownsRow Z 58 2 (.slice p' (k+1) c') (k+1) (bT (outs++[y]))) (hy:w.ownsRow Z 95 2 y.s y.n (aL y.arcs))
 (hw:∀z∈y.arcs,(Lit.int .i64 z.1).wf=true/\(Lit.int .i64 z.2).wf=true):nO w' Z p' (k+1) c' (outs++[y]):=by
 refine ⟨hr,fun x hx=>?_,fun x hx=>?_⟩
 ·rcases map1 hx with hx|hx
  ·exact (h.arcs x hx).kept hg (qd (h.arcs x hx) h.row mi.symm)
  ·rw [msg hx];exact hy.kept hg (qd hy h.row mi.symm)
 ·rcases map1 hx with hx|hx
  ·exact h.wfs x hx
  ·rw [msg hx];exact hw
theorem nO.good {w:World} {Z k c:Nat} {p:OAd} {outs:List Sw} (h:nO w Z p k c outs):∀x∈outs,x.Good w:=fun x hx=>Ars.of_owns (h.arcs x hx) (h.wfs x hx) (by
 have:=(h.arcs x hx).1
 rw [uC] at this;omega)
theorem nO.ss {w:World} {Z k c:Nat} {p:OAd} {outs:List Sw} (h:nO w Z p k c outs):Ss w p k c outs:=Ss.of_owns h.row h.good h.len

def OZ (P:Int->Int) (x:Cz):St:=⟨x.st.fin,x.st.arcs.map fun a=>(a.1,P a.2)⟩
theorem akv {cb:Nat} {w w':World} {B:Nat} (h:Kp cb w w') (ho:w'.os=w.os/\w'.tape=w.tape/\w'.output=w.output) (hB:B<=cb/\B<=w.heap.size):Below B w w':=⟨ho.1,ho.2.1,ho.2.2,h.size,fun k hk=>h.block k omg omg⟩

theorem akw {w W:World} {cb:Nat} {a:OAd} {n cap:Nat} {l:List (Int × Int)} (h:Ars w a n cap l) (hk:Kp cb w W) (hne:∀b off,a=some ⟨b,off,none⟩->b≠cb):Ars W a n cap l:=by
 obtain ⟨h1,h2,h3,h4,h5⟩:=h;refine ⟨h1,h2,h3,h4,?_⟩;rcases h5 with h5|⟨b,off,ha,hc⟩
 ·exact .inl h5
 ·exact .inr ⟨b,off,ha,fun i hi=>⟨hk.cell (hc i hi).1 (hne b off ha),hk.cell (hc i hi).2 (hne b off ha)⟩⟩

theorem akx (B g mb ob mp N cb cc M:Nat) (os:List Wd) (ns:LIn) (L:List St) (cs:List Cz) (w:World) (hM:Mr w B g mb ob mp N os ns L cs (.slice (some ⟨cb,0,none⟩) cs.length cc)) (hl:cs.length=M) (h1:1<=M) (h7:M<=7000) (hcc:M<=cc/\cc<=maxLen)
 (aB:∀j,j<M->(cs.getD j Cz.no).num=j) (hto:∀x∈cs,∀a∈x.st.arcs,0<=a.2/\a.2<(M:Int)) (hsm:∀x∈cs,x.st.n<=2000000) :
 Calls Tryz.prog 69 #[.pointer (some ⟨mb,0,none⟩)] w fun e w'=>∃(cs':List Cz) (P:Int->Int) (p:OAd) (c:Nat) (ys:List Sw),cs'.Perm cs/\(cs'.Pairwise fun a b=>clt b a=false)/\(∀k,k<M->P ((cs'.getD k Cz.no).num:Int)=(k:Int)) /\
  e=.returned (.slice p M c)/\Ss w' p M c ys/\sts ys=cs'.map (OZ P)/\(p=none->c=0)/\Below B w w':=by
 subst hl;obtain ⟨hl1,hl2,hl3,hl4⟩:=hM.lt;have apl:B<=cb:=(hM.row.lt cb rfl).1;have atn:cb<w.heap.size:=(hM.row.lt cb rfl).2;have hms:mb<w.heap.size:=omg;have rX:w.cell? ⟨mb,3,none⟩=some (.slice (some ⟨cb,0,none⟩) cs.length cc):=by rw [af hM.box];rfl
 have Ch:Below w.heap.size w (w.alloc (.cells #[.pointer (some ⟨mb,0,none⟩)] 155)):=(Below.refl _ w).alloc lrf _;have zY:=hM.below Ch;have hbx:(w.alloc (.cells #[.pointer (some ⟨mb,0,none⟩)] 155)).cell? ⟨w.heap.size,0,none⟩=some (.pointer (some ⟨mb,0,none⟩)):=by rw [af (han w _)];rfl
 have Ry:(w.alloc (.cells #[.pointer (some ⟨mb,0,none⟩)] 155)).cell? ⟨mb,3,none⟩=some (.slice (some ⟨cb,0,none⟩) cs.length cc):=by rw [af zY.box];rfl
 have hsort:=akd w.heap.size mb cb cc B cs _ hbx Ry ⟨by omega,by omega⟩ zY.row (fun x hx=>⟨⟨(zY.each x hx).first,(zY.each x hx).long⟩,fun b off e=>by have:=((zY.each x hx).far b off e).1;omega⟩) h1 h7 hcc;have apm:=hdq hsort;have HA:=hdq zY;have aN:=hdq hbx;have gX:=hdq Ry;have gp:=hdq Ch;have Rz:=hdq aB;have qD:=hdq hto;have jQ:=hdq hsm;have xD:=hdq hcc;have apn:=hcc.1;have apo:=hcc.2;unfold maxLen at apo;have hmk:=run_make_row' (P:=Tryz.prog) 51 3 (.int .i64 0) 8 Tryz.underlying51 nW rfl .i64 .i64 cs.length omg omg;obtain ⟨M,RA⟩:∃M,cs.length=M:=⟨_,rfl⟩;have Gf:=hdq RA;rw [RA] at hmk rX h1 h7 apn ⊢;clear hsort zY hbx Ry Ch aB hto hsm hcc RA hM;go_enter Tryz.func69,Tryz.ntmps69;go_wp2_with (go_at_call 116;have hsort:=apm.out;rw [Gf.out] at hsort;refine hsort.mono ?_;rintro e w2 ⟨rfl,cs',hperm,hsrt,hkp,hsame,hcells⟩;have HP:=hdq hperm;have HST:=hdq hsrt;have HKP:=hdq hkp;have JV:=hdq hsame;have HCE:=hdq hcells;have hb2:w2.cell? ⟨w.heap.size,0,none⟩=some (.pointer (some ⟨mb,0,none⟩)):=hkp.cell aN.out omg;have aaL:w2.cell? ⟨mb,3,none⟩=some (.slice (some ⟨cb,0,none⟩) M cc):=(by have h:=hkp.cell gX.out (show mb≠cb by omega);rw [Gf.out] at h;exact h);have hs2:w.heap.size<w2.heap.size:=(by have:=hkp.size;simp at this;omega);have apq:mb<w2.heap.size:=omg;clear hperm hsrt hkp hsame hcells hsort rX);have jT:Hid (cs'.length=M):=hdq (by rw [<-Gf.out];exact HP.out.length_eq)
 have Gg:∀j,j<M->(cs'.getD j Cz.no).num<M:=by
  intro j hj;have hm:cs'.getD j Cz.no∈cs:=HP.out.mem_iff.1 (nu (by rw [jT.out];exact hj));obtain ⟨i,hi,he⟩:=List.getElem_of_mem hm;have h:=Rz.out i hi;have e:cs.getD i Cz.no=cs[i]:=by simp [hi]
  rw [e,he] at h;rw [h,<-Gf.out];exact hi
 have aaM:∀i j,i<M->j<M->(cs'.getD i Cz.no).num=(cs'.getD j Cz.no).num->i=j:=by
  have hnd:(cs.map (·.num)).Nodup:=by
   rw [List.nodup_iff_pairwise_ne,List.pairwise_iff_getElem];intro i j hi hj hij;simp only [List.length_map] at hi hj;have e1:cs.getD i Cz.no=cs[i]:=by simp [hi]
   have e2:cs.getD j Cz.no=cs[j]:=by simp [hj]
   have h1:=Rz.out i hi;have h2:=Rz.out j hj;rw [e1] at h1;rw [e2] at h2;simp only [List.getElem_map,ne_eq];omega
  have hnd':(cs'.map (·.num)).Nodup:=(HP.out.map (·.num)).nodup_iff.2 hnd;intro i j hi hj he;have hl:=jT.out;have e1:cs'.getD i Cz.no=cs'[i]'omg:=by simp [show i<cs'.length by omega]
  have e2:cs'.getD j Cz.no=cs'[j]'omg:=by simp [show j<cs'.length by omega]
  rw [e1,e2] at he;exact (List.getElem_inj (xs:=cs'.map (·.num)) (h₀:=by simp;omega) (h₁:=by simp;omega) hnd').1 (by simpa using he)
 have jV:Hid (∀x∈cs',Sw.Good w2 x.st):=hdq (fun x hx=>by
  have hm:x∈cs:=HP.out.mem_iff.1 hx;have hc:=HA.out.each x hm
  exact akw hc.good HKP.out (fun b off e e'=>by
   rcases qd hc.arcs HA.out.row Yb with h|h
   ·rw [Sw.s,e] at h;cases h
   ·rw [Sw.s,e] at h;exact h (by rw [e'];rfl)))
 have uu:=hdq Gg;have Fu:=hdq aaM
 have HPB:Hid ((w2.alloc (.cells (madeCells #[.int .i64 0] M) 3)).ownsRow w2.heap.size 3 1 (.slice (some ⟨w2.heap.size,0,none⟩) M M) M (ay (List.replicate M 0))):=hdq (by
  have h:=World.ownsRow_lit (base:=w2.heap.size) (e:=3) (size:=1) w2 (madeCells #[.int .i64 0] M) M lrf (by unfold maxLen;omega) (by simp [madeCells])
  have e:(madeCells #[Value.int .i64 0] M).toList=ay (List.replicate M 0):=by
   apply List.ext_getElem
   ·simp [madeCells,ay]
   ·intro i h1 h2;simp [madeCells,ay,Nat.mod_one]
  rw [e] at h;exact h)
 have bM:∀o,Hid (Below w2.heap.size w2 (w2.alloc o)):=fun o=>hdq ((Below.refl _ w2).alloc lrf o);clear Gg aaM hmk;go_loopw [27] (fun ix wr=>∃(k:Nat) (ps:LIn),k<=M/\ix=.int .i64 (k:Int)/\Hid (wr.ownsRow w2.heap.size 3 1 (.slice (some ⟨w2.heap.size,0,none⟩) M M) M (ay ps))/\Hid (ps.length=M/\(∀z∈ps,(Lit.int .i64 z).wf=true)/\∀j,j<k->ps.getD (cs'.getD j Cz.no).num 0=(j:Int))/\Hid (Below w2.heap.size w2 wr)) (fun ix _=>M-(intOf ix).toNat)
 case atStart=>exact ⟨0,_,Nat.zero_le _,rfl,HPB,hdq ⟨by simp,fun z hz=>by rw [(List.mem_replicate.1 hz).2];decide,fun j hj=>by omega⟩,bM _⟩
 case round =>
  obtain ⟨k,ps,hk,rfl,HRW,eB,ai⟩:=hrel;by_cases hlt:k<M
  ·have hcc:=fun t (ht:t<5)=>HCE.out k hlt t ht;obtain ⟨x,hx⟩:∃x,cs'.getD k Cz.no=x:=⟨_,rfl⟩;have hnm:=uu.out k hlt;rw [hx] at hcc hnm;have ag:=hdq hx;obtain ⟨cZ,xl,xa,xn,xc,xf,⟨nL,xb,xm,xd,dM⟩⟩:=x;simp only at hnm;have su:cb<w2.heap.size:=omg;have hc0:wr.cell? ⟨cb,k*5,none⟩=some (.int .i64 (cZ:Int)):=by rw [ai.out.cell (p:=⟨cb,k*5,none⟩) su];exact hcc 0 omg
   have hc1:wr.cell? ⟨cb,k*5+1,none⟩=some (.int .i64 (xl:Int)):=by rw [ai.out.cell (p:=⟨cb,k*5+1,none⟩) su];exact hcc 1 omg
   have hc2:wr.cell? ⟨cb,k*5+2,none⟩=some (.slice xa xn xc):=by rw [ai.out.cell (p:=⟨cb,k*5+2,none⟩) su];exact hcc 2 omg
   have hc3:wr.cell? ⟨cb,k*5+3,none⟩=some (.bool nL):=by rw [ai.out.cell (p:=⟨cb,k*5+3,none⟩) su];exact hcc 3 omg
   have hc4:wr.cell? ⟨cb,k*5+4,none⟩=some (.slice xb xm xd):=by rw [ai.out.cell (p:=⟨cb,k*5+4,none⟩) su];exact hcc 4 omg
   have hpc:wr.cell? ⟨w2.heap.size,cZ,none⟩=some (.int .i64 (ps.getD cZ 0)):=by rw [HRW.out.cellAt cZ omg];simp [ay,eB.out.1,hnm]
   have hpf:wr.frozen? ⟨w2.heap.size,cZ,none⟩=false:=HRW.out.frozenAt _;have hps:w2.heap.size<wr.heap.size:=(HRW.out.lt _ rfl).2;have hkz:(k:Int)<(M:Int):=omg;have hnz:(cZ:Int)<(M:Int):=omg;have hn0:(0:Int)<=(cZ:Int):=omg;have zI:∀o,Hid (((wr.setCell ⟨w2.heap.size,cZ,none⟩ (.int .i64 (k:Int))).alloc o).ownsRow w2.heap.size 3 1 (.slice (some ⟨w2.heap.size,0,none⟩) M M) M ((ay ps).set cZ (.int .i64 (k:Int)))):=fun o=>hdq ((HRW.out.stored cZ (.int .i64 (k:Int))).1.alloc o);have Fz:∀o,Hid (Below w2.heap.size w2 ((wr.setCell ⟨w2.heap.size,cZ,none⟩ (.int .i64 (k:Int))).alloc o)):=fun o=>hdq ((ai.out.setCell (p:=⟨w2.heap.size,cZ,none⟩) lrf _).alloc (by have h1:=ai.out.size;have h2:=(dC wr ⟨w2.heap.size,cZ,none⟩ (.int .i64 (k:Int))).size;omega) o);clear hcc hx;go_wp2;go_roundw
   case rel =>
    refine ⟨k+1,ps.set cZ (k:Int),by omega,by go_num,hdq ?_,hdq ⟨by rw [List.length_set];exact eB.out.1,fun z hz=>?_,fun j hj=>?_⟩,Fz _⟩
    ·have e:ay (ps.set cZ (k:Int))=(ay ps).set cZ (.int .i64 (k:Int)):=by simp [ay,List.map_set]
     rw [e];exact (zI _).out
    ·rcases List.mem_or_eq_of_mem_set hz with hz|rfl
     ·exact eB.out.2.1 z hz
     ·apply WalkArith.wf_i64<;>omega
    ·by_cases hjk:j=k
     ·subst hjk;rw [ag.out];simp [eB.out.1,hnm]
     ·have hne:cZ≠(cs'.getD j Cz.no).num:=fun e=>hjk (Fu.out j k omg hlt (by rw [ag.out];exact e.symm));rw [gdq,List.getElem?_set_ne hne,<-gdq];exact eB.out.2.2 j omg
   case measure=>simp [intOf];omega
  ·obtain rfl:k=M:=omg;have atp:wr.cell? ⟨mb,3,none⟩=some (.slice (some ⟨cb,0,none⟩) k cc):=by rw [ai.out.cell (p:=⟨mb,3,none⟩) apq];exact aaL
   have hbr:wr.cell? ⟨w.heap.size,0,none⟩=some (.pointer (some ⟨mb,0,none⟩)):=by rw [ai.out.cell (p:=⟨w.heap.size,0,none⟩) hs2];exact hb2
   obtain ⟨P,hP⟩:∃P:Int->Int,P=fun t=>ps.getD t.toNat 0:=⟨_,rfl⟩;have Gh:=hdq hP;clear hP aaL hb2;go_wp2;generalize wr=w5 at *;go_loopw [6,43] (fun sv ix wr=>∃(i:Nat) (p:OAd) (c:Nat) (outs:List Sw),i<=k/\sv=.slice p i c/\ix=.int .i64 (i:Int)/\Hid (nO wr w5.heap.size p i c outs)/\Hid (sts outs=(cs'.take i).map (OZ P))/\Hid (p=none->c=0)/\Hid (Below w5.heap.size w5 wr)) (fun _ ix _=>k-(intOf ix).toNat)
   case atStart=>exact ⟨0,none,0,[],Nat.zero_le _,rfl,rfl,hdq ⟨World.ownsRow_nil _ _ _ _,by simp,by simp⟩,hdq (by simp [sts]),hdq (fun _=>rfl),Below.refl _ _⟩
   case round =>
    obtain ⟨i,p,c,outs,hi,rfl,rfl,HO,HE,HN,eU⟩:=hrel;by_cases bB:i<k
    ·have hcc:=fun t (ht:t<5)=>HCE.out i bB t ht;obtain ⟨x,hx⟩:∃x,cs'.getD i Cz.no=x:=⟨_,rfl⟩;have hxm:x∈cs':=by rw [<-hx];exact nu (by rw [jT.out];exact bB)
     have hgd:=jV.out x hxm;have kI:x∈cs:=HP.out.mem_iff.1 hxm;have hto:=qD.out x kI;have hsm:=jQ.out x kI;have hwf:=(HA.out.each x kI).wfs;rw [Gf.out] at hto;rw [hx] at hcc;have ag:=hdq hx;obtain ⟨cZ,xl,xa,xn,xc,xf,⟨nL,xb,xm,xd,dM⟩⟩:=x;simp only at hgd hto hsm hwf;have zZ:Hid (Below w2.heap.size w2 wr):=hdq (ai.out.trans (eU.out.mono ai.out.size));have su:cb<w2.heap.size:=omg;have hc0:wr.cell? ⟨cb,i*5,none⟩=some (.int .i64 (cZ:Int)):=by rw [zZ.out.cell (p:=⟨cb,i*5,none⟩) su];exact hcc 0 omg
     have hc1:wr.cell? ⟨cb,i*5+1,none⟩=some (.int .i64 (xl:Int)):=by rw [zZ.out.cell (p:=⟨cb,i*5+1,none⟩) su];exact hcc 1 omg
     have hc2:wr.cell? ⟨cb,i*5+2,none⟩=some (.slice xa xn xc):=by rw [zZ.out.cell (p:=⟨cb,i*5+2,none⟩) su];exact hcc 2 omg
     have hc3:wr.cell? ⟨cb,i*5+3,none⟩=some (.bool nL):=by rw [zZ.out.cell (p:=⟨cb,i*5+3,none⟩) su];exact hcc 3 omg
     have hc4:wr.cell? ⟨cb,i*5+4,none⟩=some (.slice xb xm xd):=by rw [zZ.out.cell (p:=⟨cb,i*5+4,none⟩) su];exact hcc 4 omg
     have hkz:(i:Int)<(k:Int):=omg;have gW:∀o,Hid (Sw.Good (wr.alloc o) ⟨nL,xb,xm,xd,dM⟩):=fun o=>hdq (Sw.Good.below hgd (zZ.out.alloc zZ.out.size o) lrf);have HSP:∀o,Hid (Sl .i64 (wr.alloc o) (some ⟨w2.heap.size,0,none⟩) k k ps):=fun o=>hdq ((Sl.of_owns HRW.out eB.out.2.1 eB.out.1).below (eU.out.alloc eU.out.size o) lrf);have HT6:Hid (∀a∈dM,0<=a.2/\a.2<(k:Int)/\ps.getD a.2.toNat 0=P a.2):=hdq (fun a ha=>⟨(hto a ha).1,(hto a ha).2,by rw [Gh.out]⟩);have HS6:=hdq hsm
     have tY:Hid (∀y∈dM.map (fun a=>(a.1,P a.2)),(Lit.int .i64 y.1).wf=true/\(Lit.int .i64 y.2).wf=true):=hdq (fun y hy=>by
      obtain ⟨a,ha,rfl⟩:=List.mem_map.1 hy;refine ⟨(hwf a ha).1,?_⟩;have h1:=hto a ha;rw [Gh.out];simp only [];have h2:a.2.toNat<ps.length:=by rw [eB.out.1];omega
      rw [gdq,geg h2,Option.getD_some]
      exact eB.out.2.1 _ (List.getElem_mem _))
     have apv:∀o,Hid (Below wr.heap.size wr (wr.alloc o)):=fun o=>hdq ((Below.refl _ wr).alloc lrf o);clear hcc hx hgd hto hsm hwf hxm kI
     go_wp2_with first
      | (go_at_call 113
         refine (OU ⟨nL,xb,xm,xd,dM⟩ (some ⟨w2.heap.size,0,none⟩) k k ps P _ (gW _).out (HSP _).out HT6.out HS6.out).mono ?_;rintro e w6 ⟨gl,rfl,hgl,hown6,hb6⟩;have RB:Below wr.heap.size wr w6:=(apv _).out.trans (hb6.mono smp);have RD:=hdq RB;have jq:=hdq (HO.out.below RB);have apw:Hid (w6.ownsRow w5.heap.size 95 2 (.slice (some ⟨gl,0,none⟩) xm xm) xm (aL (dM.map fun a=>(a.1,P a.2)))):=hdq (Joins.ownsRow_le hown6 (by have:=eU.out.size;simp;omega))
         clear hown6 hb6 RB hgl)
      | (at_builtin
         refine Nc rfq (.tmp 47) (.tmp 52) rfq w5.heap.size _ i outs rfq (jq.out.row.alloc _) w6.heap.size (⟨nL,some ⟨gl,0,none⟩,xm,xm,dM.map (fun (a:Int × Int)=>((a.1,P a.2):Int × Int))⟩:Sw) rfq (pU _ _ _ _ _).1 (pU _ _ _ _ _).2 (i+1) rfl omg (by have h1:=eU.out.size;have h2:=RD.out.size;simp;omega) ?_;intro p7 c7 w7 bH az oI iB;have aU:=hdq (nO.add (jq.out.below ((Below.refl _ w6).alloc lrf _)) oI bH (apw.out.alloc _) tY.out);have qG:=hdq iB;have lL:Hid (Below w5.heap.size w5 w7):=hdq ((eU.out.trans (RD.out.mono eU.out.size)).alloc (by have h1:=eU.out.size;have h2:=RD.out.size;omega) _ |>.trans az)
         clear bH az oI iB)
     go_roundw
     case rel =>
      refine ⟨i+1,p7,c7,_,by omega,rfl,by go_num,aU,hdq ?_,qG,lL⟩;have hil:i<cs'.length:=by rw [jT.out];exact bB
      have e:cs'[i]=⟨cZ,xl,xa,xn,xc,xf,⟨nL,xb,xm,xd,dM⟩⟩:=by rw [<-ag.out];simp [hil]
      rw [MU,HE.out,tsa hil,List.map_append,e];rfl
     case measure=>simp [intOf];omega
    ·obtain rfl:i=k:=omg;go_wp2;go_ret;refine ⟨cs',P,p,c,outs,HP.out,HST.out,fun j hj=>?_,rfl,HO.out.ss,?_,HN.out,?_⟩
     ·rw [Gh.out];simp only [Int.toNat_natCast];exact eB.out.2.2 j hj
     ·rw [HE.out,tol (by rw [jT.out];exact Nat.le_refl _)]
     ·have h1:=akv HKP.out JV.out (B:=B) ⟨apl,by simp;omega⟩;have h2:Below B w w2:=(gp.out.mono hl4).trans h1;exact (h2.trans (ai.out.mono omg)).trans (eU.out.mono (by have:=ai.out.size;omega))
end
end Go.Proofs.YtkiamgcpcneggaaGreat
