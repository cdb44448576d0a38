import Derived.Test.YtkiamgcpcneggaaGreatPackJ
import Derived.Test.YtkiamgcpcneggaaGreatRuleShelf
set_option linter.all false
set_option maxRecDepth 100000
set_option maxHeartbeats 12800000
namespace Go.Proofs.YtkiamgcpcneggaaGreat
section
open Go.RowKit Go.Sort

abbrev GRw (w:World):Type:={ x:Rw // x.Good w }
instance (w:World):Inhabited (GRw w):=⟨⟨Rw.no,Rw.no_good w⟩⟩
def GRw.enc {w:World} (x:GRw w):List Value:=x.1.cells

theorem agF {a b c:aj} (h1:eF a b=false) (h2:eF b c=false):eF a c=false:=by
 cases h:eF a c with
 | false=>rfl
 | true =>
   cases h3:eF c b with
   | true=>rw [Uw h h3] at h1;cases h1
   | false=>have:=aei h2 h3;subst this;rw [h] at h1;exact h1
end
section
open Go.RowKit Go.Sort

theorem Nu {α:Type} [Inhabited α] {enc:α->List Value} {W:World} {blk off m:Nat} {dk:Array α} {os:Array Obj}:W.grownBy (sortWorldK enc 3 W blk off m dk os) (some blk):=by
 refine ⟨rfl,rfl,rfl,?_,fun i hi hne=>?_⟩
 ·unfold sortWorldK putRowK;rw [Sort.size_grow,Sort.size_putRow];show W.heap.size<=W.heap.size+_;omega
 ·unfold sortWorldK Sort.grow putRowK;show ((Sort.putRow id (Sort.ahead W m) blk off _).heap++os)[i]?=_;rw [Array.getElem?_append_left (by rw [Sort.size_putRow];show i<W.heap.size;omega)];unfold Sort.putRow Sort.mapBlock;show (W.heap.modify blk _)[i]?=_;rw [Array.getElem?_modify,if_neg (fun e=>hne (by rw [e]))]

abbrev FRw (W:World) (blk:Nat):Type:={ x:Rw // ∀V,W.grownBy V (some blk)->x.Good V }
instance (W:World) (blk:Nat):Inhabited (FRw W blk):=⟨⟨Rw.no,fun V _=>Rw.no_good V⟩⟩
def FRw.enc {W:World} {blk:Nat} (x:FRw W blk):List Value:=x.1.cells

theorem agG {W:World} {B blk n cap:Nat} {xs:List Rw} (hg:∀x∈xs,∀V,W.grownBy V (some blk)->x.Good V) (hn:xs.length=n)
 (ho:W.ownsRow B 74 3 (.slice (some ⟨blk,0,none⟩) n cap) n (aZ xs)) :
 HoldsK (FRw.enc (W:=W) (blk:=blk)) 3 W blk 0 (xs.attachWith (fun x=>∀V,W.grownBy V (some blk)->x.Good V) hg).toArray:=by
 obtain ⟨d,hd⟩:∃d:Array (FRw W blk),d=(xs.attachWith (fun x=>∀V,W.grownBy V (some blk)->x.Good V) hg).toArray:=⟨_,rfl⟩;rw [<-hd];have hds:d.size=n:=by rw [hd];simp [hn]
 have hdv:∀j,j<d.size->(d[j]!).1=xs.getD j Rw.no:=by
  intro j hj;have tL:j<xs.length:=omg;rw [getElem!_pos d j hj];subst hd;simp [tL]
 intro j hj;rw [size_flatK] at hj;have hq:j/3<d.size:=omg;have h3:j%3<3:=Nat.mod_lt _ omg;have PH:j=j/3*3+j%3:=omg;rw [get_flatK _ _ _ _ hj];refine ⟨?_,ho.frozenAt (0+j)⟩;have hc:=ho.cellAt j omg;rw [Nat.zero_add,hc];have hat:=Aw xs (j/3) (j%3) omg h3;rw [<-PH] at hat;rw [hat,show FRw.enc d[j/3]! = (d[j/3]!).1.cells from rfl,hdv _ hq];rw [geg (by simp [Rw.cells];omega)];simp only [id_eq];rw [getElem!_pos _ _ (by simp [Rw.cells];omega)]

theorem agH {W:World} {blk:Nat} {cf:aj->aj->Int} (h:∀a b,decide (cf a b<0)=eF a b):SWO (ltOf fun x y:FRw W blk=>cf x.1.r y.1.r) where
 irrefl x:=by show decide (cf _ _<0)=_;rw [h];exact aeh _
 trans x y z h1 h2:=by
  have h1':decide (cf x.1.r y.1.r<0)=true:=h1;have h2':decide (cf y.1.r z.1.r<0)=true:=h2;show decide (cf _ _<0)=_;rw [h] at *;exact Uw h1' h2'
 ntrans x y z h1 h2:=by
  have h1':decide (cf x.1.r y.1.r<0)=false:=h1;have h2':decide (cf y.1.r z.1.r<0)=false:=h2;show decide (cf _ _<0)=_;rw [h] at *;exact agF h1' h2'
theorem agI {w:World} {B b n cap:Nat} {xs:List Rw} {cur:Array Value} (h:Rs w (some ⟨b,0,none⟩) n cap xs) (hb:B<=b) (hh:w.heap[b]?=some (.cells cur 74 (0,0))) (hs:cur.size=cap*3) :
 w.ownsRow B 74 3 (.slice (some ⟨b,0,none⟩) n cap) n (aZ xs):=by
 have hl:=h.1;have hnc:=h.2.1;refine ⟨by rw [Av,hl],.inr ⟨b,cap,cur,rfl,hb,hh,hnc,h.2.2.1,hs,?_⟩⟩;refine List.ext_getElem? fun t=>?_;by_cases ht:t<n*3
 ·rw [List.getElem?_take_of_lt ht,Array.getElem?_toList];obtain ⟨i,j,hi,hj,rfl⟩:∃i j,i<n/\j<3/\t=i*3+j:=⟨t/3,t%3,by omega,by omega,by omega⟩;rw [Aw xs i j omg hj];obtain ⟨b',off',e,hc⟩:=h.2.2.2.2.resolve_left omg;simp only [sij,Addr.mk.injEq,and_true] at e;obtain ⟨rfl,rfl⟩:=e;obtain ⟨c1,c2,c3⟩:=hc i hi;simp only [World.cell?,hh] at c1 c2 c3;have e0:∀q:Nat,0+i*3+q=i*3+q:=fun q=>by omega
  rcases (by omega:j=0\/j=1\/j=2) with rfl|rfl|rfl
  ·simpa [Rw.cells] using c1
  ·rw [e0] at c2;simpa [Rw.cells] using c2
  ·rw [e0] at c3;simpa [Rw.cells] using c3
 ·rw [List.getElem?_eq_none (by simp;omega),List.getElem?_eq_none (by rw [Av,hl];omega)]
theorem agJ {α:Type} [Inhabited α] {enc:α->List Value} {k blk off m:Nat} {w:World} {d:Array α} {os:Array Obj} {cur:Array Value} {t:TypeId} {fr:Nat × Nat} (h:w.heap[blk]?=some (.cells cur t fr)) :
 ∃cur',(sortWorldK enc k w blk off m d os).heap[blk]?=some (.cells cur' t fr)/\cur'.size=cur.size:=by
 have hlt:=(hltq h);refine ⟨putCells id off (flatK enc k d) cur,?_,by simp [putCells]⟩;unfold sortWorldK grow;show ((putRowK enc k (Sort.ahead w m) blk off d).heap++os)[blk]?=_
 have h1:(putRowK enc k (Sort.ahead w m) blk off d).heap[blk]?=some (.cells (putCells id off (flatK enc k d) cur) t fr):=by
  unfold putRowK putRow mapBlock;show (Array.modify w.heap blk _)[blk]?=_;rw [Array.getElem?_modify,if_pos rfl,h];rfl
 rw [Array.getElem?_append_left (hltq h1)];exact h1
theorem agK {W:World} {B blk n cap:Nat} (g:Nat) (cf:aj->aj->Int) (hO:SWO (ltOf fun x y:FRw W blk=>cf x.1.r y.1.r)) (eg:∀args w,(callFunc g args).run Tryz.prog w=.ok (.enter g args) w)
 (hcmp:∀(x y:Rw) (V:World),x.Good V->y.Good V->Calls Tryz.prog g #[x.v,y.v] V fun e V'=>e=.returned (.int .i64 (cf x.r y.r))/\∃q os,V'=grow (V.drewN q) os)
 (xs:List Rw) (hg:∀x∈xs,∀V,W.grownBy V (some blk)->x.Good V) (hn:xs.length=n) (Bu:n<=20000)
 (ho:W.ownsRow B 74 3 (.slice (some ⟨blk,0,none⟩) n cap) n (aZ xs)) (hblk:blk<W.heap.size) (hcap:n<=cap/\cap<=maxLen) :
 Calls Tryz.prog 134 #[.slice (some ⟨blk,0,none⟩) n cap,.func (.func g) #[] #[]] W fun e w'=>e=.returned (.tuple #[])/\∃ys,Rs w' (some ⟨blk,0,none⟩) n cap ys /\
  (aA ys).Perm (aA xs)/\(aA ys).Pairwise (fun a b=>¬cf b a<0)/\(∀y∈ys,y∈xs)/\W.grownBy w' (some blk)/\w'.ownsRow B 74 3 (.slice (some ⟨blk,0,none⟩) n cap) n (aZ ys):=by
 obtain ⟨d,hd⟩:∃d:Array (FRw W blk),d=(xs.attachWith (fun x=>∀V,W.grownBy V (some blk)->x.Good V) hg).toArray:=⟨_,rfl⟩;have hds:d.size=n:=by rw [hd];simp [hn]
 have hH:=agG hg hn ho;rw [<-hd] at hH
 have amU:CmpLays Tryz.prog g #[] (FRw.enc (W:=W) (blk:=blk)) 3 (fun x y:FRw W blk=>cf x.1.r y.1.r) blk 0 d.size W:=fun m os dk _ x y=>by
  exact hcmp x.1 y.1 _ (x.2 _ Nu) (y.2 _ Nu)
 have hS:=AnyQ.slices_SortFunc Tryz.sortR 3 Tryz.isAgg74 Tryz.sizeOf74 (FRw.enc (W:=W) (blk:=blk)) (fun _=>rfl) (fun x v hv=>MF [x.1] v (by simpa [aZ,FRw.enc] using hv)) (fun x y:FRw W blk=>cf x.1.r y.1.r) hO g #[] blk 0 cap d W eg amU hH hblk omg;rw [hds] at hS;change Calls Tryz.prog 134 _ _ _ at hS;refine hS.mono fun e w' hh'=>?_;obtain ⟨he,d',q,os,hp,hs,hw⟩:=hh';have Ka:d'.size=n:=by rw [hp.1,hds]
 have hperm:d'.toList.Perm d.toList:=by
  have:=hp.2.2;rw [Array.extract_eq_self_of_le omg,Array.extract_eq_self_of_le omg] at this;exact this
 have hdl:d.toList.map (fun x=>x.1)=xs:=by rw [hd];simp
 have hB:W.grownBy (sortWorldK FRw.enc 3 W blk 0 q d' os) (some blk):=Nu;have hHo:=holdsK_sortWorldK (FRw.enc (W:=W) (blk:=blk)) 3 W blk 0 q d d' os hblk hH omg
 have Zc:Rs w' (some ⟨blk,0,none⟩) n cap (d'.toList.map (fun x=>x.1)):=by
  refine ⟨by simp [Ka],hcap.1,hcap.2,fun y hy=>?_,.inr ⟨blk,0,rfl,fun i hi=>?_⟩⟩
  ·obtain ⟨x,_,rfl⟩:=List.mem_map.1 hy;rw [hw];exact x.2 _ hB
  ·have hi':i<d'.size:=omg;have e:(d'.toList.map (fun x=>x.1)).getD i Rw.no=(d'[i]!).1:=by rw [getElem!_pos d' i hi'];simp [hi']
   rw [e,hw]
   have hc:∀c,c<3->(sortWorldK FRw.enc 3 W blk 0 q d' os).cell? ⟨blk,0+i*3+c,none⟩=(d'[i]!).1.cells[c]?:=fun c hc3=>by
    rw [(hHo.cell hi' hc3).1,geg (by simp [Rw.cells];omega)];rw [getElem!_pos _ c (by simp [FRw.enc,Rw.cells];omega)];rfl
   exact ⟨hc 0 omg,hc 1 omg,hc 2 omg⟩
 refine ⟨he,d'.toList.map (fun x=>x.1),Zc,?_,?_,?_,?_,?_⟩
 ·unfold aA;rw [<-hdl];exact (hperm.map _).map _
 ·unfold aA;rw [List.map_map,List.pairwise_map,List.pairwise_iff_getElem];intro i j hi hj hij;have h:=hs i j (Nat.zero_le _) hij (by simpa [hds,Ka] using hj);rw [getElem!_pos d' j (by simpa using hj),getElem!_pos d' i (by simpa using hi)] at h;simpa [ltOf] using h
 ·intro y hy;rw [<-hdl];obtain ⟨x,hx,rfl⟩:=List.mem_map.1 hy;exact List.mem_map.2 ⟨x,hperm.mem_iff.1 hx,rfl⟩
 ·rw [hw];exact hB
 ·rcases ho.2 with h8|⟨g,cap',cur,hv,hgb,hh,h1,h2,h3,_⟩
  ·cases h8.1
  ·simp only [Value.slice.injEq,sij,Addr.mk.injEq,and_true,true_and] at hv;obtain ⟨rfl,rfl⟩:=hv;obtain ⟨cur',hc1,hc2⟩:=agJ (enc:=FRw.enc (W:=W) (blk:=blk)) (k:=3) (off:=0) (m:=q) (d:=d') (os:=os) hh;exact agI Zc hgb (by rw [hw];exact hc1) (by rw [hc2,h3])

end
end Go.Proofs.YtkiamgcpcneggaaGreat
