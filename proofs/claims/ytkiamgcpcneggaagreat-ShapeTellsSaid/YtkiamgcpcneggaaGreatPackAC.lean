import Derived.Test.YtkiamgcpcneggaaGreatPackD
import Derived.Shelf.GgSortFunc.SmallK
import Derived.Shelf.SlSortFuncK.AtK
import Derived.Shelf.SlSortFuncK.PivotK
import Derived.Shelf.SlSortFuncK.PartitionK
import Derived.Shelf.SlSortFuncK.HeapSortK
import Derived.Shelf.SlSortFuncK.PartialInsertionK
import Derived.Shelf.SlSortFuncK.BreakPatternsK
import Derived.Sort.Walk13
import Derived.Sort.AssemblyPlain
import Derived.Test.YtkiamgcpcneggaaGreatChecked
import Derived.WalkLawsBesides
import Derived.BigGuardPart
import Derived.OpenShut
set_option linter.all false
set_option maxRecDepth 100000
set_option maxHeartbeats 12800000
namespace Go.Proofs.YtkiamgcpcneggaaGreat
section
open Go.RowKit Go.Lib Go.Sort

variable {P:Program} {α:Type} [Inhabited α] {enc:α->List Value} {k blk off n g sf:Nat} {lb sb:Array Value} {lt:α->α->Bool} {w W wr w1:World} {D D':Array α}

structure Kp (blk:Nat) (W W':World):Prop where
 size:W.heap.size<=W'.heap.size
 block:∀b,b<W.heap.size->b≠blk->W'.heap[b]?=W.heap[b]?
theorem Kp.refl (W:World):Kp blk W W:=⟨Nat.le_refl _,fun _ _ _=>rfl⟩
theorem Kp.trans {W1 W2 W3:World} (h:Kp blk W1 W2) (h':Kp blk W2 W3):Kp blk W1 W3:=⟨Nat.le_trans h.size h'.size,fun b hb hne=>(h'.block b (Nat.lt_of_lt_of_le hb h.size) hne).trans (h.block b hb hne)⟩
theorem Kp.cell {W W':World} (h:Kp blk W W') {b o:Nat} {v:Value} (hc:W.cell? ⟨b,o,none⟩=some v) (hne:b≠blk):W'.cell? ⟨b,o,none⟩=some v :=
 (World.cell?_of_block (w:=W) (h.block b (bQ hc) hne)).trans hc
theorem Kp.alloc (W:World) (o:Obj):Kp blk W (W.alloc o):=⟨by simp,fun b hb _=>by rw [alloc_eq_grow];exact heap_grow_old W _ hb⟩
theorem Kp.grow (W:World) (q:Nat) (os:Array Obj):Kp blk W (Sort.grow (Sort.ahead W q) os):=⟨by rw [size_grow];exact Nat.le_add_right _ _,fun b hb _=>heap_grow_old (Sort.ahead W q) os hb⟩
theorem Kp.setCells:∀(l:List Value) (W:World) (o:Nat),Kp blk W (W.setCells blk o l)
 | [],W,_=>Kp.refl W
 | v::l,W,o=>by
   rw [World.setCells];refine Kp.trans ⟨by simp [World.setCell],fun b _ hne=>Below.heap_setCell _ _ _ _ hne⟩ (Kp.setCells l (W.setCell ⟨blk,o,none⟩ v) (o+1))

structure gG (P:Program) (enc:α->List Value) (k:Nat) (lt:α->α->Bool) (g:Nat) (lb:Array Value) (sf:Nat) (sb:Array Value) (blk off n:Nat) (w:World):Prop where
 hk:∀x,(enc x).length=k
 eg:∀args w,(callFunc g args).run P w=.ok (.enter g args) w
 less:∀(D:Array α) (W:World),D.size=n->AtK enc k w blk off D W->∀i j:Nat,i<n->j<n ->
  Calls P g (#[.int .i64 i,.int .i64 j]++lb) W fun e W'=>e=.returned (.bool (lt D[i]! D[j]!))/\∃q os,W'=Sort.grow (Sort.ahead W q) os
 swap:SwapSwapsK P sf sb enc k blk off n
 row:∃d0:Array α,d0.size=n/\HoldsK enc k w blk off d0
 old:blk<w.heap.size
 few:n<4611686018427387904

def Post (enc:α->List Value) (k blk off n:Nat) (w W:World) (D:Array α) (wr:World):Prop:=D.size=n/\AtK enc k w blk off D wr/\Kp blk W wr
def Mid (enc:α->List Value) (k:Nat) (g:Nat) (lb:Array Value) (sf:Nat) (sb:Array Value) (blk off n:Nat) (w W:World) (D:Array α) (wr:World):Prop :=
 Post enc k blk off n w W D wr/\W.heap.size≠blk/\wr.cell? ⟨W.heap.size,0,none⟩=some (.func (.func g) #[] lb)/\wr.cell? ⟨W.heap.size,1,none⟩=some (.func (.func sf) #[] sb)
theorem AtK.le (h:AtK enc k w blk off D W):w.heap.size<=W.heap.size:=by
 obtain ⟨q,os,rfl⟩:=h;rw [size_grow,size_putRowK];exact Nat.le_add_right _ _
theorem AtK.refl (h:HoldsK enc k w blk off D):AtK enc k w blk off D w:=⟨0,#[],by rw [grow_empty,ahead_zero,putRowK_self enc k w blk off D h]⟩
theorem gG.same (S:gG P enc k lt g lb sf sb blk off n w) (hD:D.size=n) (h:AtK enc k w blk off D W) (q:Nat) (os:Array Obj):AtK enc k w blk off D (Sort.grow (Sort.ahead W q) os):=by
 obtain ⟨d0,hs,h0⟩:=S.row;exact AtK.same h h0 (hD.trans hs.symm) S.old ⟨q,os,rfl⟩
theorem gG.holds (S:gG P enc k lt g lb sf sb blk off n w) (hD:D.size=n) (h:AtK enc k w blk off D W):HoldsK enc k W blk off D:=by
 obtain ⟨d0,hs,h0⟩:=S.row;exact (AtK.holds h h0 (hD.trans hs.symm) S.old).1
theorem gG.apart (S:gG P enc k lt g lb sf sb blk off n w) (h:AtK enc k w blk off D W):W.heap.size≠blk:=by
 have:=AtK.le h;have:=S.old;omega
theorem Mid.start (S:gG P enc k lt g lb sf sb blk off n w) (h:AtK enc k w blk off D W) (hD:D.size=n) (T:TypeId):Mid enc k g lb sf sb blk off n w W D (W.alloc (.cells #[.func (.func g) #[] lb,.func (.func sf) #[] sb] T)):=by
 refine ⟨⟨hD,?_,Kp.alloc W _⟩,S.apart h,by simp,by simp⟩;have:=S.same hD h 0 #[.cells #[.func (.func g) #[] lb,.func (.func sf) #[] sb] T];rw [ahead_zero] at this;rw [alloc_eq_grow];exact this
theorem Mid.at (h:Mid enc k g lb sf sb blk off n w W D wr):AtK enc k w blk off D wr:=h.1.2.1
theorem Mid.size (h:Mid enc k g lb sf sb blk off n w W D wr):D.size=n:=h.1.1
theorem Mid.fn (h:Mid enc k g lb sf sb blk off n w W D wr):wr.cell? ⟨W.heap.size,0,none⟩=some (.func (.func g) #[] lb):=h.2.2.1
theorem Mid.sw (h:Mid enc k g lb sf sb blk off n w W D wr):wr.cell? ⟨W.heap.size,1,none⟩=some (.func (.func sf) #[] sb):=h.2.2.2
theorem Mid.next (h:Mid enc k g lb sf sb blk off n w W D wr) (hp:Post enc k blk off n w wr D' w1):Mid enc k g lb sf sb blk off n w W D' w1 :=
 ⟨⟨hp.1,hp.2.1,h.1.2.2.trans hp.2.2⟩,h.2.1,hp.2.2.cell h.2.2.1 h.2.1,hp.2.2.cell h.2.2.2 h.2.1⟩
theorem Mid.less (S:gG P enc k lt g lb sf sb blk off n w) (h:Mid enc k g lb sf sb blk off n w W D wr) (i j:Nat) (hi:i<n) (hj:j<n) {I J:Int} (hI:I=(i:Int)) (hJ:J=(j:Int)) {r:Bool} (hr:lt D[i]! D[j]! = r) :
 Calls P g (#[.int .i64 I,.int .i64 J]++lb) wr fun e w'=>e=.returned (.bool r)/\Mid enc k g lb sf sb blk off n w W D w':=by
 subst hI hJ hr;refine (S.less D wr h.size h.at i j hi hj).mono ?_;rintro e w' ⟨rfl,q,os,rfl⟩;exact ⟨rfl,h.next ⟨h.size,S.same h.size h.at q os,Kp.grow wr q os⟩⟩
theorem Mid.swap (S:gG P enc k lt g lb sf sb blk off n w) (h:Mid enc k g lb sf sb blk off n w W D wr) (i j:Nat) (hi:i<n) (hj:j<n) {I J:Int} (hI:I=(i:Int)) (hJ:J=(j:Int)) :
 ∃w',(callFunc sf (#[.int .i64 I,.int .i64 J]++sb)).run P wr=.ok (.value (.tuple #[])) w'/\Mid enc k g lb sf sb blk off n w W (swp D i j) w':=by
 subst hI hJ;have hD:=h.size;refine ⟨_,S.swap wr D (S.holds hD h.at) hD i j hi hj,h.next ⟨by rw [size_swp];exact hD,?_,(Kp.setCells _ _ _).trans (Kp.setCells _ _ _)⟩⟩;obtain ⟨q,os,rfl⟩:=h.at;refine ⟨q,os,?_⟩;rw [<-putRowK_grow enc k (Sort.ahead w q) os blk off D S.old,putRowK_swp enc k S.hk _ blk off D i j omg omg,putRowK_grow enc k (Sort.ahead w q) os blk off _ S.old]
end
section
open Go.RowKit Go.Lib Go.Sort

variable {α:Type} [Inhabited α] {enc:α->List Value} {k blk off n g sf:Nat} {lb sb:Array Value} {lt:α->α->Bool} {w:World}

theorem ajD (S:gG Tryz.prog enc k lt g lb sf sb blk off n w) (a b:Nat) (D:Array α) (W:World) (hA:AtK enc k w blk off D W) (hD:D.size=n) (hab:a<=b) (hb:b<=n) :
 Calls Tryz.prog 183 #[.agg #[.func (.func g) #[] lb,.func (.func sf) #[] sb],.int .i64 (a:Int),.int .i64 (b:Int)] W fun e w'=>e=.returned (.tuple #[])/\Post enc k blk off n w W (insertionSort lt D a b) w':=by
 have HS:=hdq S;have eg:=S.eg;have hn:=S.few;have HST:=hdq (Mid.start S hA hD 213);clear S hA hD;go_enter Tryz.func183,Tryz.ntmps183;go_wp2;go_loopw [6] (fun vi wr=>∃(i:Nat) (dk:Array α),vi=.int .i64 (i:Int)/\a<i/\i<=b+1/\Hid (Mid enc k g lb sf sb blk off n w W dk wr)/\Hid (insOuter lt a b i dk=insOuter lt a b (a+1) D)) (fun vi _=>b+1-(intOf vi).toNat)
 case atStart=>exact ⟨a+1,D,by go_num,by omega,by omega,HST,hdq rfl⟩
 case round =>
  obtain ⟨i,dk,rfl,hai,hib,HM,HO⟩:=hrel;by_cases hlt:i<b
  ·have hltz:(i:Int)<(b:Int):=omg;go_wp2;generalize wr=wo at *;go_loopw [7] (fun vj wr=>∃(j:Nat) (dj:Array α),vj=.int .i64 (j:Int)/\a<=j/\j<=i/\Hid (Mid enc k g lb sf sb blk off n w W dj wr)/\Hid (insInner lt a j dj=insInner lt a i dk)) (fun vj _=>(intOf vj).toNat)
   case atStart=>exact ⟨i,dk,rfl,by omega,Nat.le_refl _,HM,hdq rfl⟩
   case round =>
    obtain ⟨j,dj,rfl,haj,hji,HJ,HI⟩:=hrel;have c0:=HJ.out.fn;by_cases hja:a<j
    ·have hjaz:(a:Int)<(j:Int):=omg
     cases hlv:lt dj[j]! dj[j-1]! with
     | true =>
       have dY:=hdq hlv;clear hlv;go_wp2_with (go_at_fn g;refine (Mid.less HS.out HJ.out j (j-1) omg omg rfl omg dY.out).mono ?_;rintro e w2 ⟨rfl,hm⟩;have dI:=hdq hm;have c1:=hm.sw;obtain ⟨w3,hs,rX⟩:=Mid.swap HS.out hm j (j-1) omg omg (I:=(j:Int)) (J:=(j:Int)-1) rfl omg;have gX:=hdq rX;clear hm rX);go_roundw
       case rel=>exact ⟨j-1,swp dj j (j-1),by go_num,by omega,by omega,gX,hdq (by rw [<-HI.out,insInner_go lt a j dj hja dY.out])⟩
       case measure=>simp [intOf];omega
     | false =>
       have dY:=hdq hlv;clear hlv;go_wp2_with (go_at_fn g;refine (Mid.less HS.out HJ.out j (j-1) omg omg rfl omg dY.out).mono ?_;rintro e w2 ⟨rfl,hm⟩;have dI:=hdq hm;clear hm);go_roundw
       case rel=>exact ⟨i+1,dj,by go_num,by omega,by omega,dI,hdq (by rw [<-HO.out,insOuter_go _ _ _ _ _ hlt,<-HI.out,insInner_stop _ _ _ _ (.inr dY.out)])⟩
       case measure=>simp [intOf];omega
    ·have hjaz:¬(a:Int)<(j:Int):=omg;go_wp2;go_roundw
     case rel=>exact ⟨i+1,dj,by go_num,by omega,by omega,HJ,hdq (by rw [<-HO.out,insOuter_go _ _ _ _ _ hlt,<-HI.out,insInner_stop _ _ _ _ (.inl omg)])⟩
     case measure=>simp [intOf];omega
  ·have hltz:¬(i:Int)<(b:Int):=omg;go_wp2;go_end0;refine ⟨rfl,?_⟩;have:=HM.out.1;unfold insertionSort;rw [<-HO.out,insOuter_stop _ _ _ _ _ hlt];exact this
end
section
open Go.RowKit Go.Lib Go.Sort

variable {α:Type} [Inhabited α] {enc:α->List Value} {k blk off n g sf:Nat} {lb sb:Array Value} {lt:α->α->Bool} {w:World}

theorem XF (S:gG Tryz.prog enc k lt g lb sf sb blk off n w) (lo hi first:Nat) (D:Array α) (W:World) (hA:AtK enc k w blk off D W) (hD:D.size=n) (hlo:lo<=hi) (hb:first+hi<=n) :
 Calls Tryz.prog 201 #[.agg #[.func (.func g) #[] lb,.func (.func sf) #[] sb],.int .i64 (lo:Int),.int .i64 (hi:Int),.int .i64 (first:Int)] W fun e w'=>e=.returned (.tuple #[])/\Post enc k blk off n w W (siftDown lt hi first lo D) w':=by
 have HS:=hdq S;have eg:=S.eg;have hn:=S.few;have HST:=hdq (Mid.start S hA hD 213);clear S hA hD;go_enter Tryz.func201,Tryz.ntmps201;go_wp2;go_loopg [8] (hi-lo) (fun kx s8 wr=>∃(root:Nat) (dk:Array α),s8=.int .i64 (root:Int)/\root<=hi/\hi-root<=kx/\Hid (Mid enc k g lb sf sb blk off n w W dk wr)/\Hid (siftDown lt hi first root dk=siftDown lt hi first lo D))
 case atStart=>exact ⟨lo,D,rfl,hlo,Nat.le_refl _,HST,hdq rfl⟩
 case round =>
  obtain ⟨root,dk,rfl,hr,hkx,HM,HE⟩:=hrel;have c0:=HM.out.fn;have d0:=HM.out.sw;by_cases h0:hi<=2*root+1
  ·have h0z:(hi:Int)<=2*(root:Int)+1:=omg;go_wp2;go_end0;refine ⟨rfl,?_⟩;rw [<-HE.out,sd_end lt dk h0];exact HM.out.1
  ·have h0z:¬((hi:Int)<=2*(root:Int)+1):=omg;by_cases h1:2*root+2<hi
   ·have h1z:2*(root:Int)+1+1<(hi:Int):=omg
    cases hL:lt dk[first+(2*root+1)]! dk[first+(2*root+2)]! with
    | true =>
      have HL:=hdq hL;clear hL
      cases hG:lt dk[first+root]! dk[first+(2*root+2)]! with
      | true =>
        have HG:=hdq hG;clear hG;go_wp2_with (first|(go_at_fn g;refine (Mid.less HS.out df.out (first+root) (first+(2*root+2)) omg omg (I:=(first:Int)+(root:Int)) (J:=(first:Int)+(2*(root:Int)+1+1)) omg omg HG.out).mono ?_;rintro e w_HM2 ⟨rfl,hm_HM2⟩;have dI:=hdq hm_HM2;have c_HM2:=hm_HM2.fn;have d_HM2:=hm_HM2.sw;obtain ⟨w_HM3,hs_HM3,hm_HM3⟩:=Mid.swap HS.out hm_HM2 (first+root) (first+(2*root+2)) omg omg (I:=(first:Int)+(root:Int)) (J:=(first:Int)+(2*(root:Int)+1+1)) omg omg;have gX:=hdq hm_HM3;clear hm_HM3;clear hm_HM2)|(go_at_fn g;refine (Mid.less HS.out HM.out (first+(2*root+1)) (first+(2*root+2)) omg omg (I:=(first:Int)+(2*(root:Int)+1)) (J:=(first:Int)+(2*(root:Int)+1)+1) omg omg HL.out).mono ?_;rintro e w_HM1 ⟨rfl,hm_HM1⟩;have df:=hdq hm_HM1;have c_HM1:=hm_HM1.fn;have d_HM1:=hm_HM1.sw;clear hm_HM1));go_roundg (hi-(2*root+2))
        case measure=>omega
        case rel=>exact ⟨2*root+2,swp dk (first+root) (first+(2*root+2)),by go_num,by omega,Nat.le_refl _,gX,hdq (by rw [<-HE.out,sd_right_go lt dk h1 HL.out HG.out])⟩
      | false =>
        have HG:=hdq hG;clear hG;go_wp2_with (first|(go_at_fn g;refine (Mid.less HS.out df.out (first+root) (first+(2*root+2)) omg omg (I:=(first:Int)+(root:Int)) (J:=(first:Int)+(2*(root:Int)+1+1)) omg omg HG.out).mono ?_;rintro e w_HM2 ⟨rfl,hm_HM2⟩;have dI:=hdq hm_HM2;have c_HM2:=hm_HM2.fn;have d_HM2:=hm_HM2.sw;clear hm_HM2)|(go_at_fn g;refine (Mid.less HS.out HM.out (first+(2*root+1)) (first+(2*root+2)) omg omg (I:=(first:Int)+(2*(root:Int)+1)) (J:=(first:Int)+(2*(root:Int)+1)+1) omg omg HL.out).mono ?_;rintro e w_HM1 ⟨rfl,hm_HM1⟩;have df:=hdq hm_HM1;have c_HM1:=hm_HM1.fn;have d_HM1:=hm_HM1.sw;clear hm_HM1))
        (try simp only [Exit.inBlock,Exit.then]);refine bodyPost_ret (results_none rfl _ _ _) rfl ?_
        refine ⟨rfl,?_⟩;rw [<-HE.out,sd_right_stop lt dk h1 HL.out HG.out];exact dI.out.1
    | false =>
      have HL:=hdq hL;clear hL
      cases hG:lt dk[first+root]! dk[first+(2*root+1)]! with
      | true =>
        have HG:=hdq hG;clear hG;go_wp2_with (first|(go_at_fn g;refine (Mid.less HS.out df.out (first+root) (first+(2*root+1)) omg omg (I:=(first:Int)+(root:Int)) (J:=(first:Int)+(2*(root:Int)+1)) omg omg HG.out).mono ?_;rintro e w_HM2 ⟨rfl,hm_HM2⟩;have dI:=hdq hm_HM2;have c_HM2:=hm_HM2.fn;have d_HM2:=hm_HM2.sw;obtain ⟨w_HM3,hs_HM3,hm_HM3⟩:=Mid.swap HS.out hm_HM2 (first+root) (first+(2*root+1)) omg omg (I:=(first:Int)+(root:Int)) (J:=(first:Int)+(2*(root:Int)+1)) omg omg;have gX:=hdq hm_HM3;clear hm_HM3;clear hm_HM2)|(go_at_fn g;refine (Mid.less HS.out HM.out (first+(2*root+1)) (first+(2*root+2)) omg omg (I:=(first:Int)+(2*(root:Int)+1)) (J:=(first:Int)+(2*(root:Int)+1)+1) omg omg HL.out).mono ?_;rintro e w_HM1 ⟨rfl,hm_HM1⟩;have df:=hdq hm_HM1;have c_HM1:=hm_HM1.fn;have d_HM1:=hm_HM1.sw;clear hm_HM1));go_roundg (hi-(2*root+1))
        case measure=>omega
        case rel=>exact ⟨2*root+1,swp dk (first+root) (first+(2*root+1)),by go_num,by omega,Nat.le_refl _,gX,hdq (by rw [<-HE.out,sd_left_go lt dk omg (fun _=>HL.out) HG.out])⟩
      | false =>
        have HG:=hdq hG;clear hG;go_wp2_with (first|(go_at_fn g;refine (Mid.less HS.out df.out (first+root) (first+(2*root+1)) omg omg (I:=(first:Int)+(root:Int)) (J:=(first:Int)+(2*(root:Int)+1)) omg omg HG.out).mono ?_;rintro e w_HM2 ⟨rfl,hm_HM2⟩;have dI:=hdq hm_HM2;have c_HM2:=hm_HM2.fn;have d_HM2:=hm_HM2.sw;clear hm_HM2)|(go_at_fn g;refine (Mid.less HS.out HM.out (first+(2*root+1)) (first+(2*root+2)) omg omg (I:=(first:Int)+(2*(root:Int)+1)) (J:=(first:Int)+(2*(root:Int)+1)+1) omg omg HL.out).mono ?_;rintro e w_HM1 ⟨rfl,hm_HM1⟩;have df:=hdq hm_HM1;have c_HM1:=hm_HM1.fn;have d_HM1:=hm_HM1.sw;clear hm_HM1))
        (try simp only [Exit.inBlock,Exit.then]);refine bodyPost_ret (results_none rfl _ _ _) rfl ?_
        refine ⟨rfl,?_⟩;rw [<-HE.out,sd_left_stop lt dk omg (fun _=>HL.out) HG.out];exact dI.out.1
   ·have h1z:¬(2*(root:Int)+1+1<(hi:Int)):=omg
    cases hG:lt dk[first+root]! dk[first+(2*root+1)]! with
    | true =>
      have HG:=hdq hG;clear hG;go_wp2_with ((go_at_fn g;refine (Mid.less HS.out HM.out (first+root) (first+(2*root+1)) omg omg (I:=(first:Int)+(root:Int)) (J:=(first:Int)+(2*(root:Int)+1)) omg omg HG.out).mono ?_;rintro e w_HM2 ⟨rfl,hm_HM2⟩;have dI:=hdq hm_HM2;have c_HM2:=hm_HM2.fn;have d_HM2:=hm_HM2.sw;obtain ⟨w_HM3,hs_HM3,hm_HM3⟩:=Mid.swap HS.out hm_HM2 (first+root) (first+(2*root+1)) omg omg (I:=(first:Int)+(root:Int)) (J:=(first:Int)+(2*(root:Int)+1)) omg omg;have gX:=hdq hm_HM3;clear hm_HM3;clear hm_HM2));go_roundg (hi-(2*root+1))
      case measure=>omega
      case rel=>exact ⟨2*root+1,swp dk (first+root) (first+(2*root+1)),by go_num,by omega,Nat.le_refl _,gX,hdq (by rw [<-HE.out,sd_left_go lt dk omg (fun h=>absurd h h1) HG.out])⟩
    | false =>
      have HG:=hdq hG;clear hG;go_wp2_with ((go_at_fn g;refine (Mid.less HS.out HM.out (first+root) (first+(2*root+1)) omg omg (I:=(first:Int)+(root:Int)) (J:=(first:Int)+(2*(root:Int)+1)) omg omg HG.out).mono ?_;rintro e w_HM2 ⟨rfl,hm_HM2⟩;have dI:=hdq hm_HM2;have c_HM2:=hm_HM2.fn;have d_HM2:=hm_HM2.sw;clear hm_HM2))
      (try simp only [Exit.inBlock,Exit.then]);refine bodyPost_ret (results_none rfl _ _ _) rfl ?_
      refine ⟨rfl,?_⟩;rw [<-HE.out,sd_left_stop lt dk omg (fun h=>absurd h h1) HG.out];exact dI.out.1

theorem ajE (S:gG Tryz.prog enc k lt g lb sf sb blk off n w) (a b:Nat) (D:Array α) (W:World) (hA:AtK enc k w blk off D W) (hD:D.size=n) (hab:a<=b) (hb:b<=n) :
 Calls Tryz.prog 184 #[.agg #[.func (.func g) #[] lb,.func (.func sf) #[] sb],.int .i64 (a:Int),.int .i64 (b:Int)] W fun e w'=>e=.returned (.tuple #[])/\Post enc k blk off n w W (heapSort lt D a b) w':=by
 have HS:=hdq S;have eg:=S.eg;have hn:=S.few;have HST:=hdq (Mid.start S hA hD 213);have ecast:((b-a:Nat):Int)=(b:Int)-(a:Int):=omg;clear S hA hD;go_enter Tryz.func184,Tryz.ntmps184;go_wp2;go_loopg [9] ((b-a-1)/2+1) (fun kx s9 wr=>s9=.int .i64 ((kx:Int)-1)/\kx<=(b-a-1)/2+1/\∃(dk:Array α),Hid (Mid enc k g lb sf sb blk off n w W dk wr)/\Hid (heapBuild lt (b-a) a kx dk=heapBuild lt (b-a) a ((b-a-1)/2+1) D))
 case atStart=>exact ⟨by rw [half_start hab],Nat.le_refl _,D,HST,hdq rfl⟩
 case round =>
  obtain ⟨rfl,hkk,dk,HM,HE⟩:=hrel;have c0:=HM.out.fn;have d0:=HM.out.sw
  cases gk with
  | zero =>
    have HB:Hid (dk=heapBuild lt (b-a) a ((b-a-1)/2+1) D):=hdq HE.out;clear HE hkk;go_wp2;generalize wr=wo at *;go_loopg [10] (b-a) (fun kx s10 wr=>s10=.int .i64 ((kx:Int)-1)/\kx<=b-a/\∃(dj:Array α),Hid (Mid enc k g lb sf sb blk off n w W dj wr)/\Hid (heapPop lt a kx dj=heapPop lt a (b-a) dk))
    case atStart=>exact ⟨by rw [ecast],Nat.le_refl _,dk,HM,hdq rfl⟩
    case round =>
     clear c0 d0;obtain ⟨rfl,hkk,dj,HJ,HE2⟩:=hrel;have c0:=HJ.out.fn;have d0:=HJ.out.sw
     cases gk with
     | zero =>
       go_wp2;go_end0;refine ⟨rfl,?_⟩;unfold heapSort;rw [<-HB.out,<-HE2.out];exact HJ.out.1
     | succ kx =>
       obtain ⟨w2,hs,hm2⟩:=Mid.swap HS.out HJ.out a (a+kx) omg omg (I:=(a:Int)) (J:=(a:Int)+(kx:Int)) rfl omg;have dI:=hdq hm2;have c2:=hm2.fn;have d2:=hm2.sw;have HC:=hdq (XF HS.out 0 kx a (swp dj a (a+kx)) w2 hm2.at hm2.size (Nat.zero_le _) omg);clear hm2;go_wp2_with (go_at_call 201;refine HC.out.mono ?_;rintro e w3 ⟨rfl,hp⟩;have gX:=hdq (dI.out.next hp);clear hp);go_roundg kx
       case measure=>omega
       case rel=>exact ⟨by simp,by omega,_,gX,hdq HE2.out⟩
  | succ kx =>
    have HC:=hdq (XF HS.out kx (b-a) a dk wr HM.out.at HM.out.size omg omg);rw [ecast] at HC;go_wp2_with (go_at_call 201;refine HC.out.mono ?_;rintro e w3 ⟨rfl,hp⟩;have gX:=hdq (HM.out.next hp);clear hp);go_roundg kx
    case measure=>omega
    case rel=>exact ⟨by simp,by omega,_,gX,hdq HE.out⟩
end
section
open Go.RowKit Go.Lib Go.Sort

variable {α:Type} [Inhabited α] {enc:α->List Value} {k blk off n g sf:Nat} {lb sb:Array Value} {lt:α->α->Bool} {w W wr w1:World} {D:Array α} {s c c1:Nat}

structure kP (enc:α->List Value) (k blk off n:Nat) (w W:World) (D:Array α) (s c:Nat) (wr:World):Prop where
 at':AtK enc k w blk off D wr
 size:W.heap.size<=wr.heap.size
 block:∀b,b<W.heap.size->b≠blk->b≠s->wr.heap[b]?=W.heap[b]?
 num:wr.heap[s]?=some (.cells #[.int .i64 (c:Int)] 3 (0,0))
theorem kP.trans (h:kP enc k blk off n w W D s c wr) (h':kP enc k blk off n w wr D s c1 w1):kP enc k blk off n w W D s c1 w1 :=
 ⟨h'.at',Nat.le_trans h.size h'.size,fun b hb h1 h2=>(h'.block b (Nat.lt_of_lt_of_le hb h.size) h1 h2).trans (h.block b hb h1 h2),h'.num⟩
theorem kP.cell (h:kP enc k blk off n w W D s c wr) {b o:Nat} {v:Value} (hc:W.cell? ⟨b,o,none⟩=some v) (h1:b≠blk) (h2:b≠s):wr.cell? ⟨b,o,none⟩=some v :=
 (World.cell?_of_block (w:=W) (h.block b (bQ hc) h1 h2)).trans hc
theorem Mid.counts (h:Mid enc k g lb sf sb blk off n w W D wr) (hs:W.heap[s]?=some (.cells #[.int .i64 (c:Int)] 3 (0,0))) (hne:s≠blk):kP enc k blk off n w W D s c wr :=
 ⟨h.at,h.1.2.2.size,fun b hb h1 _=>h.1.2.2.block b hb h1,(h.1.2.2.block s (hltq hs) hne).trans hs⟩
theorem kP.read (h:kP enc k blk off n w W D s c wr):wr.cell? ⟨s,0,none⟩=some (.int .i64 (c:Int))/\wr.frozen? ⟨s,0,none⟩=false:=⟨by rw [cell_of_row _ _ _ _ _ _ h.num];rfl,frozen_of_row _ _ _ _ _ h.num⟩
theorem kP.counted (hA:AtK enc k w blk off D W) (hs:W.heap[s]?=some (.cells #[.int .i64 (c:Int)] 3 (0,0))) (hn:w.heap.size<=s) (m:Int) (hm:m=(c1:Int)):kP enc k blk off n w W D s c1 (W.setCell ⟨s,0,none⟩ (.int .i64 m)):=by
 subst hm;refine ⟨?_,by simp [World.setCell],fun b _ _ h=>heap_setCell_other _ _ _ _ h,?_⟩
 ·exact SWK.setCell_new (show SWK enc k w blk off D W from hA) s 0 _ hn
 ·rw [heap_setCell_same W s 0 _ _ _ hs];rfl

theorem OO (S:gG Tryz.prog enc k lt g lb sf sb blk off n w) (a b:Nat) (D:Array α) (W:World) (hA:AtK enc k w blk off D W) (hD:D.size=n) (ha:a<n) (hb:b<n) (hs:W.heap[s]?=some (.cells #[.int .i64 (c:Int)] 3 (0,0))) (hw:w.heap.size<=s) (hc:c<1000) {r:Nat × Nat × Nat} (hr:order2 lt D a b c=r) :
 Calls Tryz.prog 211 #[.agg #[.func (.func g) #[] lb,.func (.func sf) #[] sb],.int .i64 (a:Int),.int .i64 (b:Int),.pointer (some ⟨s,0,none⟩)] W fun e w'=>e=.returned (.tuple #[.int .i64 (r.1:Int),.int .i64 (r.2.1:Int)])/\kP enc k blk off n w W D s r.2.2 w':=by
 subst hr;have HS:=hdq S;have eg:=S.eg;have hn:=S.few;have HW:=hdq hw;have hm0:=Mid.start S hA hD 213;have HST:=hdq hm0;have c0:=hm0.fn;have HN:=hdq hs;have FP:=hdq (show s≠blk by have:=S.old;omega);clear S hA hD hs hw hm0
 cases hlv:lt D[b]! D[a]! with
 | true =>
   have e:order2 lt D a b c=(b,a,c+1):=by unfold order2;rw [if_pos hlv]
   rw [e];have dY:=hdq hlv;clear hlv e;go_enter Tryz.func211,Tryz.ntmps211;go_wp2_with (go_at_fn g;refine (Mid.less HS.out HST.out b a hb ha rfl rfl dY.out).mono ?_;rintro e w2 ⟨rfl,hm⟩;have HM:=hdq (hm.counts HN.out FP.out);obtain ⟨hs3,hs4⟩:=HM.out.read;clear hm);go_ret2;exact ⟨rfl,HM.out.trans (kP.counted HM.out.at' HM.out.num HW.out _ omg)⟩
 | false =>
   have e:order2 lt D a b c=(a,b,c):=by unfold order2;rw [if_neg (by rw [hlv];simp)]
   rw [e];have dY:=hdq hlv;clear hlv e;go_enter Tryz.func211,Tryz.ntmps211;go_wp2_with (go_at_fn g;refine (Mid.less HS.out HST.out b a hb ha rfl rfl dY.out).mono ?_;rintro e w2 ⟨rfl,hm⟩;have HM:=hdq (hm.counts HN.out FP.out);clear hm);go_ret2;exact ⟨rfl,HM.out⟩
theorem order2_lt {a b:Nat} (ha:a<n) (hb:b<n):(order2 lt D a b c).1<n/\(order2 lt D a b c).2.1<n:=by
 unfold order2;split<;>simp [ha,hb]

def uK (enc:α->List Value) (k:Nat) (g:Nat) (lb:Array Value) (sf:Nat) (sb:Array Value) (blk off n:Nat) (w W:World) (D:Array α) (s c:Nat) (wr:World):Prop :=
 kP enc k blk off n w W D s c wr/\(W.heap.size≠blk/\W.heap.size≠s)/\wr.cell? ⟨W.heap.size,0,none⟩=some (.func (.func g) #[] lb)/\wr.cell? ⟨W.heap.size,1,none⟩=some (.func (.func sf) #[] sb)
theorem uK.start (S:gG Tryz.prog enc k lt g lb sf sb blk off n w) (hA:AtK enc k w blk off D W) (hD:D.size=n) (hs:W.heap[s]?=some (.cells #[.int .i64 (c:Int)] 3 (0,0))) (hw:w.heap.size<=s) (T:TypeId):uK enc k g lb sf sb blk off n w W D s c (W.alloc (.cells #[.func (.func g) #[] lb,.func (.func sf) #[] sb] T)):=by
 have hm:=Mid.start S hA hD T;have h1:=(hltq hs);exact ⟨hm.counts hs (by have:=S.old;omega),⟨hm.2.1,by omega⟩,hm.fn,hm.sw⟩
theorem uK.next (h:uK enc k g lb sf sb blk off n w W D s c wr) (hp:kP enc k blk off n w wr D s c1 w1):uK enc k g lb sf sb blk off n w W D s c1 w1 :=
 ⟨h.1.trans hp,h.2.1,hp.cell h.2.2.1 h.2.1.1 h.2.1.2,hp.cell h.2.2.2 h.2.1.1 h.2.1.2⟩

theorem OP (S:gG Tryz.prog enc k lt g lb sf sb blk off n w) (i j m:Nat) (D:Array α) (W:World) (hA:AtK enc k w blk off D W) (hD:D.size=n) (hi:i<n) (hj:j<n) (hm:m<n) (hs:W.heap[s]?=some (.cells #[.int .i64 (c:Int)] 3 (0,0))) (hw:w.heap.size<=s) (hc:c<900) {r:Nat × Nat} (hr:median lt D i j m c=r) {I J M:Int} (hI:I=(i:Int)) (hJ:J=(j:Int)) (hM:M=(m:Int)) :
 Calls Tryz.prog 205 #[.agg #[.func (.func g) #[] lb,.func (.func sf) #[] sb],.int .i64 I,.int .i64 J,.int .i64 M,.pointer (some ⟨s,0,none⟩)] W fun e w'=>e=.returned (.int .i64 (r.1:Int))/\kP enc k blk off n w W D s r.2 w':=by
 subst hI hJ hM;have HS:=hdq S;have HW:=hdq hw;have HD:=hdq hD;have hm0:=uK.start S hA hD hs hw 213;have HST:=hdq hm0;have c0:=hm0.2.2.1;have d0:=hm0.2.2.2;obtain ⟨⟨x1,y1,s1⟩,hr1⟩:∃p,order2 lt D i j c=p:=⟨_,rfl⟩;obtain ⟨⟨x2,y2,s2⟩,hr2⟩:∃p,order2 lt D y1 m s1=p:=⟨_,rfl⟩;obtain ⟨⟨x3,y3,s3⟩,hr3⟩:∃p,order2 lt D x1 x2 s2=p:=⟨_,rfl⟩;have h1:=order2_lt (lt:=lt) (D:=D) (c:=c) hi hj;have k1:=order2_count lt D i j c;rw [hr1] at h1 k1;have h2:=order2_lt (lt:=lt) (D:=D) (c:=s1) h1.2 hm;have k2:=order2_count lt D y1 m s1;rw [hr2] at h2 k2;have k3:=order2_count lt D x1 x2 s2;rw [hr3] at k3;have HR:Hid (r=(y3,s3)):=by show _=_;rw [<-hr];unfold median;simp only [hr1,hr2,hr3]
 have HR1:=hdq hr1;have HR2:=hdq hr2;have HR3:=hdq hr3;have H1:=hdq h1;have H2:=hdq h2;simp only at k1 k2 k3;have HC:=hdq (show s1<1000/\s2<1000/\c<1000 by omega);clear S hA hD hs hw hm0 hr hr1 hr2 hr3 h1 h2 k1 k2 k3;go_enter Tryz.func205,Tryz.ntmps205;go_wp2_with first|(go_at_call 211;refine (OO HS.out x1 x2 D w3 dI.out.1.at' HD.out H1.out.1 H2.out.1 dI.out.1.num HW.out HC.out.2.1 HR3.out).mono ?_;rintro e w4 ⟨rfl,hp⟩;have gX:=hdq (dI.out.next hp);clear hp)|(go_at_call 211;refine (OO HS.out y1 m D w2 df.out.1.at' HD.out H1.out.2 hm df.out.1.num HW.out HC.out.1 HR2.out).mono ?_;rintro e w3 ⟨rfl,hp⟩;have dI:=hdq (df.out.next hp);have c2:=dI.out.2.2.1;have d2:=dI.out.2.2.2;clear hp)|(go_at_call 211;refine (OO HS.out i j D _ HST.out.1.at' HD.out hi hj HST.out.1.num HW.out HC.out.2.2 HR1.out).mono ?_;rintro e w2 ⟨rfl,hp⟩;have df:=hdq (HST.out.next hp);have c1:=df.out.2.2.1;have d1:=df.out.2.2.2;clear hp)
 go_ret;rw [HR.out];exact ⟨rfl,gX.out.1⟩

theorem OQ (S:gG Tryz.prog enc k lt g lb sf sb blk off n w) (i:Nat) (D:Array α) (W:World) (hA:AtK enc k w blk off D W) (hD:D.size=n) (h0:0<i) (hi:i+1<n) (hs:W.heap[s]?=some (.cells #[.int .i64 (c:Int)] 3 (0,0))) (hw:w.heap.size<=s) (hc:c<900) {r:Nat × Nat} (hr:medianAdjacent lt D i c=r) {I:Int} (hI:I=(i:Int)) :
 Calls Tryz.prog 204 #[.agg #[.func (.func g) #[] lb,.func (.func sf) #[] sb],.int .i64 I,.pointer (some ⟨s,0,none⟩)] W fun e w'=>e=.returned (.int .i64 (r.1:Int))/\kP enc k blk off n w W D s r.2 w':=by
 subst hI;have hn:=S.few;have hm0:=uK.start S hA hD hs hw 213;have HST:=hdq hm0;have c0:=hm0.2.2.1;have d0:=hm0.2.2.2;have hcall:=OP S (i-1) i (i+1) D _ hm0.1.at' hD omg omg hi hm0.1.num hw hc hr (I:=(i:Int)-1) (J:=(i:Int)) (M:=(i:Int)+1) omg rfl omg;have HC:=hdq hcall;clear S hA hD hs hw hm0 hr hcall;go_enter Tryz.func204,Tryz.ntmps204;go_wp2_with (go_at_call 205;refine HC.out.mono ?_;rintro e w2 ⟨rfl,hp⟩;have HM:=hdq (HST.out.next hp);clear hp);go_ret;exact ⟨rfl,HM.out.1⟩
theorem OT {a b c' x:Nat} (ha:a<n) (hb:b<n) (hc:c'<n):(median lt D a b c' x).1<n:=by
 unfold median;simp only [];have h1:=order2_lt (lt:=lt) (D:=D) (c:=x) ha hb;have h2:=order2_lt (lt:=lt) (D:=D) (c:=(order2 lt D a b x).2.2) h1.2 hc;exact (order2_lt (lt:=lt) (D:=D) h1.1 h2.1).2
theorem XG (r:Nat):(r=0/\hintCode (hintOf r)=1)\/(r≠0/\r=12/\hintCode (hintOf r)=2)\/(r≠0/\r≠12/\hintCode (hintOf r)=0):=by
 unfold hintOf;by_cases h0:r=0
 ·exact .inl ⟨h0,by rw [if_pos h0];rfl⟩
 ·by_cases h1:r=12
  ·exact .inr (.inl ⟨h0,h1,by rw [if_neg h0,if_pos h1];rfl⟩)
  ·exact .inr (.inr ⟨h0,h1,by rw [if_neg h0,if_neg h1];rfl⟩)
theorem XH {r:Nat} (h:r<2000):(((r:Int)==0)=decide (r=0))/\(((r:Int)==12)=decide (r=12)):=by
 constructor
 ·by_cases h0:r=0
  ·subst h0;rfl
  ·rw [decide_eq_false h0];simpa using h0
 ·by_cases h0:r=12
  ·subst h0;rfl
  ·rw [decide_eq_false h0];simp;omega

theorem ajF (S:gG Tryz.prog enc k lt g lb sf sb blk off n w) (a b:Nat) (D:Array α) (W:World) (hA:AtK enc k w blk off D W) (hD:D.size=n) (hab:a<b) (hb:b<=n) :
 Calls Tryz.prog 186 #[.agg #[.func (.func g) #[] lb,.func (.func sf) #[] sb],.int .i64 (a:Int),.int .i64 (b:Int)] W fun e w'=>e=.returned (.tuple #[.int .i64 ((choosePivot lt D a b).1:Int),.int .i64 (hintCode (choosePivot lt D a b).2)])/\Post enc k blk off n w W D w':=by
 have HS:=hdq S;have HD:=hdq hD;have hn:=S.few;have hle:=AtK.le hA;have hold:=S.old;obtain ⟨q,hq⟩:∃q,(b-a)/4=q:=⟨_,rfl⟩;obtain ⟨m,hm⟩:∃m,b-a=m:=⟨_,rfl⟩;rw [hm] at hq;have hq4:4*q<=m/\m<4*q+4:=omg;have hmz:(b:Int)-(a:Int)=(m:Int):=omg;have hqz:((m:Int)).tdiv 4=(q:Int):=by rw [<-hq];rfl
 have hm0:=Mid.start S hA hD 213;obtain ⟨W1,hW1⟩:∃W1,W.alloc (.cells #[.func (.func g) #[] lb,.func (.func sf) #[] sb] 213)=W1:=⟨_,rfl⟩;have hsz1:W1.heap.size=W.heap.size+1:=by rw [<-hW1];simp
 rw [hW1] at hm0;have hA2:=S.same hD hm0.at 0 #[.cells #[.int .i64 0] 3];rw [ahead_zero,<-alloc_eq_grow] at hA2;have hk2:Kp blk W1 (W1.alloc (.cells #[.int .i64 0] 3)):=Kp.alloc _ _;have aB:(W1.alloc (.cells #[.int .i64 0] 3)).heap[W.heap.size+1]?=some (.cells #[.int .i64 ((0:Nat):Int)] 3 (0,0)):=by rw [<-hsz1];exact han _ _
 have hM2:uK enc k g lb sf sb blk off n w W D (W.heap.size+1) 0 (W1.alloc (.cells #[.int .i64 0] 3)) :=
  ⟨⟨hA2,by simp;omega,fun b hb h1 _=>(hk2.block b omg h1).trans (hm0.1.2.2.block b hb h1),aB⟩,⟨hm0.2.1,by omega⟩,hk2.cell hm0.fn hm0.2.1,hk2.cell hm0.sw hm0.2.1⟩
 have HM:=hdq hM2;have c0:=hM2.2.2.1;have d0:=hM2.2.2.2;have jd:=hdq (show w.heap.size<=W.heap.size+1 by omega);have xu:Hid (∀{c:Nat} {wr:World},uK enc k g lb sf sb blk off n w W D (W.heap.size+1) c wr->Post enc k blk off n w W D wr):=fun {c wr} h=>⟨HD.out,h.1.at',⟨h.1.size,fun b hb h1=>h.1.block b hb h1 omg⟩⟩;rw [choosePivot_eq];clear S hA hD hle hold hm0 hA2 hk2 aB hM2;by_cases h8:m<8
 ·have h8z:(m:Int)<8:=omg;have hraw:rawPivot lt D a b=(a+q*2,0):=by unfold rawPivot;rw [hm,if_neg omg,hq]
  rw [hraw];obtain ⟨hs3,-⟩:=HM.out.1.read;clear hraw;go_enter Tryz.func186,Tryz.ntmps186;go_wp2;go_ret2;refine ⟨?_,xu.out HM.out⟩;rw [show ((a+q*2:Nat):Int)=(a:Int)+(q:Int)*2 by omega];rfl
 ·have h8z:¬(m:Int)<8:=omg;by_cases h50:m<50
  ·have h50z:(m:Int)<50:=omg;obtain ⟨⟨p,r⟩,hp⟩:∃p,median lt D (a+q*1) (a+q*2) (a+q*3) 0=p:=⟨_,rfl⟩;have hraw:rawPivot lt D a b=(p,r):=by unfold rawPivot;rw [hm,if_pos omg,if_neg omg,hq,hp]
   have hcount:=median_count lt D (a+q*1) (a+q*2) (a+q*3) 0;rw [hp] at hcount;simp only at hcount;rw [hraw];have HP:=hdq hp;obtain ⟨ht0,ht1⟩:=XH (r:=r) omg;have hcase:=XG r;obtain ⟨hcode,hh⟩:∃x,hintCode (hintOf r)=x:=⟨_,rfl⟩;rw [hh] at hcase;simp only [hh];clear hraw hp hh;rcases hcase with ⟨h0,rfl⟩|⟨h0,h1,rfl⟩|⟨h0,h1,rfl⟩;all_goals (first|rw [decide_eq_true h0] at ht0|rw [decide_eq_false h0] at ht0);all_goals (first|rw [decide_eq_true h1] at ht1|rw [decide_eq_false h1] at ht1|skip);all_goals clear hcount
   all_goals
    go_enter Tryz.func186,Tryz.ntmps186;go_wp2_with (go_at_call 205;refine (OP HS.out (a+q*1) (a+q*2) (a+q*3) D _ HM.out.1.at' HD.out omg omg omg HM.out.1.num jd.out omg HP.out omg omg omg).mono ?_;rintro e w2 ⟨rfl,hp⟩;have dI:=hdq (HM.out.next hp);obtain ⟨hs3,-⟩:=dI.out.1.read;clear hp);go_ret2;exact ⟨rfl,xu.out dI.out⟩
  ·have h50z:¬(m:Int)<50:=omg;obtain ⟨⟨p1,r1⟩,hp1⟩:∃p,medianAdjacent lt D (a+q*1) 0=p:=⟨_,rfl⟩;obtain ⟨⟨p2,r2⟩,hp2⟩:∃p,medianAdjacent lt D (a+q*2) r1=p:=⟨_,rfl⟩;obtain ⟨⟨p3,r3⟩,hp3⟩:∃p,medianAdjacent lt D (a+q*3) r2=p:=⟨_,rfl⟩;obtain ⟨⟨p,r⟩,hp⟩:∃p,median lt D p1 p2 p3 r3=p:=⟨_,rfl⟩;have hraw:rawPivot lt D a b=(p,r):=by unfold rawPivot;rw [hm,if_pos omg,if_pos omg,hq];simp only [hp1,hp2,hp3,hp]
   have k1:=medianAdjacent_count lt D (a+q*1) 0;have k2:=medianAdjacent_count lt D (a+q*2) r1;have k3:=medianAdjacent_count lt D (a+q*3) r2;have k4:=median_count lt D p1 p2 p3 r3;have l1:(medianAdjacent lt D (a+q*1) 0).1<n:=OT omg omg omg;have l2:(medianAdjacent lt D (a+q*2) r1).1<n:=OT omg omg omg;have l3:(medianAdjacent lt D (a+q*3) r2).1<n:=OT omg omg omg;rw [hp1] at k1 l1;rw [hp2] at k2 l2;rw [hp3] at k3 l3;rw [hp] at k4;simp only at k1 k2 k3 k4 l1 l2 l3;rw [hraw];have kK:=hdq hp1;have eO:=hdq hp2;have jC:=hdq hp3;have HP:=hdq hp;have HL:=hdq (And.intro l1 (And.intro l2 l3));have HK:=hdq (show r1<900/\r2<900/\r3<900 by omega);obtain ⟨ht0,ht1⟩:=XH (r:=r) omg;have hcase:=XG r;obtain ⟨hcode,hh⟩:∃x,hintCode (hintOf r)=x:=⟨_,rfl⟩;rw [hh] at hcase;simp only [hh];clear hraw hp hp1 hp2 hp3 hh k1 k2 k3 k4 l1 l2 l3;rcases hcase with ⟨h0,rfl⟩|⟨h0,h1,rfl⟩|⟨h0,h1,rfl⟩;all_goals (first|rw [decide_eq_true h0] at ht0|rw [decide_eq_false h0] at ht0);all_goals (first|rw [decide_eq_true h1] at ht1|rw [decide_eq_false h1] at ht1|skip)
   all_goals
    go_enter Tryz.func186,Tryz.ntmps186;go_wp2_with first|(go_at_call 205;refine (OP HS.out p1 p2 p3 D _ gX.out.1.at' HD.out HL.out.1 HL.out.2.1 HL.out.2.2 gX.out.1.num jd.out HK.out.2.2 HP.out rfl rfl rfl).mono ?_;rintro e w5 ⟨rfl,hp⟩;have KI:=hdq (gX.out.next hp);obtain ⟨hs3,-⟩:=KI.out.1.read;clear hp)|(go_at_call 204;refine (OQ HS.out (a+q*3) D _ dI.out.1.at' HD.out omg omg dI.out.1.num jd.out HK.out.2.1 jC.out omg).mono ?_;rintro e w4 ⟨rfl,hp⟩;have gX:=hdq (dI.out.next hp);have c3:=gX.out.2.2.1;have d3:=gX.out.2.2.2;clear hp)|(go_at_call 204;refine (OQ HS.out (a+q*2) D _ df.out.1.at' HD.out omg omg df.out.1.num jd.out HK.out.1 eO.out omg).mono ?_;rintro e w3 ⟨rfl,hp⟩;have dI:=hdq (df.out.next hp);have c2:=dI.out.2.2.1;have d2:=dI.out.2.2.2;clear hp)|(go_at_call 204;refine (OQ HS.out (a+q*1) D _ HM.out.1.at' HD.out omg omg HM.out.1.num jd.out omg kK.out omg).mono ?_;rintro e w2 ⟨rfl,hp⟩;have df:=hdq (HM.out.next hp);have c1:=df.out.2.2.1;have d1:=df.out.2.2.2;clear hp)
    go_ret2;exact ⟨rfl,xu.out KI.out⟩
end
section
open Go.RowKit Go.Lib Go.Sort

variable {α:Type} [Inhabited α] {enc:α->List Value} {k blk off n g sf:Nat} {lb sb:Array Value} {lt:α->α->Bool} {w:World}

theorem ajG (S:gG Tryz.prog enc k lt g lb sf sb blk off n w) (a b pivot:Nat) (D:Array α) (W:World) (hA:AtK enc k w blk off D W) (hD:D.size=n) (hap:a<=pivot) (hpb:pivot<b) (hb:b<=n) {r:Nat × Array α} (hr:partitionEqual lt D a b pivot=r) :
 Calls Tryz.prog 189 #[.agg #[.func (.func g) #[] lb,.func (.func sf) #[] sb],.int .i64 (a:Int),.int .i64 (b:Int),.int .i64 (pivot:Int)] W fun e w'=>e=.returned (.int .i64 (r.1:Int))/\Post enc k blk off n w W r.2 w':=by
 have HS:=hdq S;have eg:=S.eg;have hn:=S.few;have hm0:=Mid.start S hA hD 213;have HST:=hdq hm0;have c0:=hm0.fn;have d0:=hm0.sw;obtain ⟨w1,hs1,hm1⟩:=Mid.swap S hm0 a pivot omg omg (I:=(a:Int)) (J:=(pivot:Int)) rfl rfl;have df:=hdq hm1;have c1:=hm1.fn;have d1:=hm1.sw;have HR:Hid (partEqLoop lt a (a+1) (b-1) (swp D a pivot)=r):=hdq hr;clear S hA hD hm0 hm1 hr;go_enter Tryz.func189,Tryz.ntmps189;go_wp2;go_loopw [9,10] (fun vi vj wr=>∃(i j:Nat) (dk:Array α),vi=.int .i64 (i:Int)/\vj=.int .i64 (j:Int)/\a<i/\i<=j+1/\j<b/\Hid (Mid enc k g lb sf sb blk off n w W dk wr)/\Hid (partEqLoop lt a i j dk=r)) (fun vi vj _=>(intOf vj).toNat+1-(intOf vi).toNat)
 case atStart=>exact ⟨a+1,b-1,swp D a pivot,by go_num,by go_num,by omega,by omega,by omega,df,HR⟩
 case round =>
  obtain ⟨i,j,dk,rfl,rfl,hai,hij,hjb,HM,HE⟩:=hrel;clear c0 d0 hs1 c1 d1;go_wp2;generalize wr=wq at *;go_loopw [9] (fun vi wr=>∃(ix:Nat),vi=.int .i64 (ix:Int)/\i<=ix/\ix<=j+1/\Hid (Mid enc k g lb sf sb blk off n w W dk wr)/\Hid (scanUp (fun x=>!lt dk[a]! x) dk (j) ix=scanUp (fun x=>!lt dk[a]! x) dk (j) (i))) (fun vi _=>(j)+1-(intOf vi).toNat)
  case atStart=>exact ⟨i,by go_num,Nat.le_refl _,hij,HM,hdq rfl⟩
  case round =>
   obtain ⟨ix,rfl,aoD,QY,vG,zR⟩:=hrel;have cux:=vG.out.fn;by_cases hlex:ix<=j
   ·have QZ:(ix:Int)<=((j:Nat):Int):=omg
    cases rY:lt dk[a]! dk[ix]! with
    | false =>
      have vH:=hdq rY;clear rY;go_wp2_with (go_at_fn g;refine (Mid.less HS.out vG.out (a) (ix) omg omg (I:=(a:Int)) (J:=(ix:Int)) omg omg vH.out).mono ?_;rintro e w_HUxa ⟨rfl,hm_HUxa⟩;have zS:=hdq hm_HUxa;have c_HUxa:=hm_HUxa.fn;have d_HUxa:=hm_HUxa.sw;clear hm_HUxa);go_roundw
      case rel=>exact ⟨ix+1,by go_num,by omega,by omega,zS,hdq ((scanUp_go (fun x=>!lt dk[a]! x) dk (j) ix hlex (by simp [vH.out])).symm.trans zR.out)⟩
      case measure=>simp [intOf];omega
    | true =>
      have rZ:Hid (ix=scanUp (fun x=>!lt dk[a]! x) dk (j) (i)):=hdq ((scanUp_end (fun x=>!lt dk[a]! x) dk (j) ix (.inr (by simp [rY]))).symm.trans zR.out);have vH:=hdq rY;clear rY;go_wp2_with (go_at_fn g;refine (Mid.less HS.out vG.out (a) (ix) omg omg (I:=(a:Int)) (J:=(ix:Int)) omg omg vH.out).mono ?_;rintro e w_HUxa ⟨rfl,hm_HUxa⟩;have zS:=hdq hm_HUxa;have c_HUxa:=hm_HUxa.fn;have d_HUxa:=hm_HUxa.sw;clear hm_HUxa);generalize wr=Ra at *;go_loopw [10] (fun vj wr=>∃(jx:Nat),vj=.int .i64 (jx:Int)/\jx<=j/\ix<=jx+1/\Hid (Mid enc k g lb sf sb blk off n w W dk wr)/\Hid (scanDown (fun x=>lt dk[a]! x) dk ix jx=scanDown (fun x=>lt dk[a]! x) dk ix (j))) (fun vj _=>(intOf vj).toNat)
      case atStart=>exact ⟨j,by go_num,Nat.le_refl _,QY,zS,hdq rfl⟩
      case round =>
       obtain ⟨jx,rfl,aoF,aoG,jU,zT⟩:=hrel;have Rb:=jU.out.fn;have Rc:=jU.out.sw;by_cases zU:ix<=jx
       ·have Re:(ix:Int)<=(jx:Int):=omg
        cases si:lt dk[a]! dk[jx]! with
        | true =>
          have vI:=hdq si;clear si;go_wp2_with (go_at_fn g;refine (Mid.less HS.out jU.out (a) (jx) omg omg (I:=(a:Int)) (J:=(jx:Int)) omg omg vI.out).mono ?_;rintro e w_HVxa ⟨rfl,hm_HVxa⟩;have FQ:=hdq hm_HVxa;have c_HVxa:=hm_HVxa.fn;have d_HVxa:=hm_HVxa.sw;clear hm_HVxa);go_roundw
          case rel=>exact ⟨jx-1,by go_num,by omega,by omega,FQ,hdq ((scanDown_go (fun x=>lt dk[a]! x) dk ix jx zU omg (by simp [vI.out])).symm.trans zT.out)⟩
          case measure=>simp [intOf];omega
        | false =>
          have pg:Hid (jx=scanDown (fun x=>lt dk[a]! x) dk ix (j)):=hdq ((scanDown_end (fun x=>lt dk[a]! x) dk ix jx (.inr (by simp [si]))).symm.trans zT.out);have vI:=hdq si;clear si;have aoH:=scans_lt lt a (i) (j) dk omg rZ.out pg.out zU;have FR:¬((ix:Int)>(jx:Int)):=omg;have aoI:¬((jx:Int)<(ix:Int)):=omg;go_wp2_with (go_at_fn g;refine (Mid.less HS.out jU.out (a) (jx) omg omg (I:=(a:Int)) (J:=(jx:Int)) omg omg vI.out).mono ?_;rintro e w_HVxa ⟨rfl,hm_HVxa⟩;have FQ:=hdq hm_HVxa;have c_HVxa:=hm_HVxa.fn;have d_HVxa:=hm_HVxa.sw;obtain ⟨w_HX,hs_HX,hm_HX⟩:=Mid.swap HS.out hm_HVxa (ix) (jx) omg omg (I:=(ix:Int)) (J:=(jx:Int)) omg omg;have HX:=hdq hm_HX;have c_HX:=hm_HX.fn;have d_HX:=hm_HX.sw;clear hm_HX;clear hm_HVxa);go_roundw
          case rel=>exact ⟨ix+1,jx-1,swp dk ix jx,by go_num,by go_num,by omega,by omega,by omega,HX,hdq (by rw [<-HE.out,partEq_go lt a i j dk rZ.out pg.out omg])⟩
          case measure=>simp [intOf];omega
       ·have Re:¬(ix:Int)<=(jx:Int):=omg;have pg:Hid (jx=scanDown (fun x=>lt dk[a]! x) dk ix (j)):=hdq ((scanDown_end (fun x=>lt dk[a]! x) dk ix jx (.inl zU)).symm.trans zT.out);have FR:(ix:Int)>(jx:Int):=omg;go_wp2;go_ret;rw [<-HE.out,partEq_break lt a i j dk rZ.out pg.out omg];exact ⟨rfl,jU.out.1⟩
   ·have QZ:¬(ix:Int)<=((j:Nat):Int):=omg;have rZ:Hid (ix=scanUp (fun x=>!lt dk[a]! x) dk (j) (i)):=hdq ((scanUp_end (fun x=>!lt dk[a]! x) dk (j) ix (.inl hlex)).symm.trans zR.out);go_wp2;generalize wr=Ra at *;go_loopw [10] (fun vj wr=>vj=.int .i64 ((j:Nat):Int)/\Hid (Mid enc k g lb sf sb blk off n w W dk wr)) (fun vj _=>0)
    case atStart=>exact ⟨by go_num,vG⟩
    case round =>
     obtain ⟨rfl,jU⟩:=hrel;have Rb:=jU.out.fn;have Rc:=jU.out.sw;have pg:Hid (j=scanDown (fun x=>lt dk[a]! x) dk ix (j)):=hdq (scanDown_end (fun x=>lt dk[a]! x) dk ix (j) (.inl hlex)).symm;have FR:(ix:Int)>((j:Nat):Int):=omg;go_wp2;go_ret;rw [<-HE.out,partEq_break lt a i j dk rZ.out pg.out omg];exact ⟨rfl,jU.out.1⟩

theorem ajH (S:gG Tryz.prog enc k lt g lb sf sb blk off n w) (a b pivot:Nat) (D:Array α) (W:World) (hA:AtK enc k w blk off D W) (hD:D.size=n) (hap:a<=pivot) (hpb:pivot<b) (hb:b<=n) {r:Nat × Bool × Array α} (hr:partition lt D a b pivot=r) :
 Calls Tryz.prog 190 #[.agg #[.func (.func g) #[] lb,.func (.func sf) #[] sb],.int .i64 (a:Int),.int .i64 (b:Int),.int .i64 (pivot:Int)] W fun e w'=>e=.returned (.tuple #[.int .i64 (r.1:Int),.bool r.2.1])/\Post enc k blk off n w W r.2.2 w':=by
 have HS:=hdq S;have eg:=S.eg;have hn:=S.few;have hm0:=Mid.start S hA hD 213;have c0:=hm0.fn;have d0:=hm0.sw;obtain ⟨w1,hs1,hm1⟩:=Mid.swap S hm0 a pivot omg omg (I:=(a:Int)) (J:=(pivot:Int)) rfl rfl;obtain ⟨D1,hD1⟩:∃D1,D1=swp D a pivot:=⟨_,rfl⟩;rw [<-hD1] at hm1;have df:=hdq hm1;have HD1:=hdq hD1;have c1:=hm1.fn;have d1:=hm1.sw;have HR:=hdq hr;obtain ⟨i0,hi0⟩:∃i0,i0=a+1:=⟨_,rfl⟩;obtain ⟨j0,hj0⟩:∃j0,j0=b-1:=⟨_,rfl⟩;have HI0:=hdq hi0;have BX:=hdq hj0;have aoJ:i0<=j0+1:=omg;have asJ:a<i0:=omg;have asK:j0<b:=omg;have asL:(a:Int)+1=(i0:Int):=omg;have asM:(b:Int)-1=(j0:Int):=omg;clear S hA hD hm0 hm1 hr hD1 hi0 hj0;go_enter Tryz.func190,Tryz.ntmps190;go_wp2;clear hs1 c0 d0;go_loopw [10] (fun vi wr=>∃(ix:Nat),vi=.int .i64 (ix:Int)/\i0<=ix/\ix<=j0+1/\Hid (Mid enc k g lb sf sb blk off n w W D1 wr)/\Hid (scanUp (fun x=>lt x D1[a]!) D1 (j0) ix=scanUp (fun x=>lt x D1[a]!) D1 (j0) (i0))) (fun vi _=>(j0)+1-(intOf vi).toNat)
 case atStart=>exact ⟨i0,by go_num,Nat.le_refl _,aoJ,df,hdq rfl⟩
 case round =>
  obtain ⟨ix,rfl,aoD,QY,vG,zR⟩:=hrel;have cux:=vG.out.fn;by_cases hlex:ix<=j0
  ·have QZ:(ix:Int)<=((j0:Nat):Int):=omg
   cases rY:lt D1[ix]! D1[a]! with
   | true =>
     have vH:=hdq rY;clear rY;go_wp2_with (go_at_fn g;refine (Mid.less HS.out vG.out (ix) (a) omg omg (I:=(ix:Int)) (J:=(a:Int)) omg omg vH.out).mono ?_;rintro e w_HUxa ⟨rfl,hm_HUxa⟩;have zS:=hdq hm_HUxa;have c_HUxa:=hm_HUxa.fn;have d_HUxa:=hm_HUxa.sw;clear hm_HUxa);go_roundw
     case rel=>exact ⟨ix+1,by go_num,by omega,by omega,zS,hdq ((scanUp_go (fun x=>lt x D1[a]!) D1 (j0) ix hlex (by simp [vH.out])).symm.trans zR.out)⟩
     case measure=>simp [intOf];omega
   | false =>
     have rZ:Hid (ix=scanUp (fun x=>lt x D1[a]!) D1 (j0) (i0)):=hdq ((scanUp_end (fun x=>lt x D1[a]!) D1 (j0) ix (.inr (by simp [rY]))).symm.trans zR.out);have vH:=hdq rY;clear rY;go_wp2_with (go_at_fn g;refine (Mid.less HS.out vG.out (ix) (a) omg omg (I:=(ix:Int)) (J:=(a:Int)) omg omg vH.out).mono ?_;rintro e w_HUxa ⟨rfl,hm_HUxa⟩;have zS:=hdq hm_HUxa;have c_HUxa:=hm_HUxa.fn;have d_HUxa:=hm_HUxa.sw;clear hm_HUxa);generalize wr=Ra at *;go_loopw [11] (fun vj wr=>∃(jx:Nat),vj=.int .i64 (jx:Int)/\jx<=j0/\ix<=jx+1/\Hid (Mid enc k g lb sf sb blk off n w W D1 wr)/\Hid (scanDown (fun x=>!lt x D1[a]!) D1 ix jx=scanDown (fun x=>!lt x D1[a]!) D1 ix (j0))) (fun vj _=>(intOf vj).toNat)
     case atStart=>exact ⟨j0,by go_num,Nat.le_refl _,QY,zS,hdq rfl⟩
     case round =>
      obtain ⟨jx,rfl,aoF,aoG,jU,zT⟩:=hrel;have Rb:=jU.out.fn;have Rc:=jU.out.sw;by_cases zU:ix<=jx
      ·have Re:(ix:Int)<=(jx:Int):=omg
       cases si:lt D1[jx]! D1[a]! with
       | false =>
         have vI:=hdq si;clear si;go_wp2_with (go_at_fn g;refine (Mid.less HS.out jU.out (jx) (a) omg omg (I:=(jx:Int)) (J:=(a:Int)) omg omg vI.out).mono ?_;rintro e w_HVxa ⟨rfl,hm_HVxa⟩;have FQ:=hdq hm_HVxa;have c_HVxa:=hm_HVxa.fn;have d_HVxa:=hm_HVxa.sw;clear hm_HVxa);go_roundw
         case rel=>exact ⟨jx-1,by go_num,by omega,by omega,FQ,hdq ((scanDown_go (fun x=>!lt x D1[a]!) D1 ix jx zU omg (by simp [vI.out])).symm.trans zT.out)⟩
         case measure=>simp [intOf];omega
       | true =>
         have pg:Hid (jx=scanDown (fun x=>!lt x D1[a]!) D1 ix (j0)):=hdq ((scanDown_end (fun x=>!lt x D1[a]!) D1 ix jx (.inr (by simp [si]))).symm.trans zT.out);have vI:=hdq si;clear si;have aoH:=part_scans_lt lt a (i0) (j0) D1 omg rZ.out pg.out zU;have FR:¬((ix:Int)>(jx:Int)):=omg;have aoI:¬((jx:Int)<(ix:Int)):=omg;have HF:=hdq (part_first_go lt D a b pivot HI0.out BX.out HD1.out rZ.out pg.out omg);obtain ⟨R,hR⟩:∃R,partLoop lt a (ix+1) (jx-1) (swp D1 ix jx)=R:=⟨_,rfl⟩;rw [hR] at HF;have HRR:=hdq hR;clear hR;go_wp2_with (go_at_fn g;refine (Mid.less HS.out jU.out (jx) (a) omg omg (I:=(jx:Int)) (J:=(a:Int)) omg omg vI.out).mono ?_;rintro e w_HVxa ⟨rfl,hm_HVxa⟩;have FQ:=hdq hm_HVxa;have c_HVxa:=hm_HVxa.fn;have d_HVxa:=hm_HVxa.sw;obtain ⟨w_HX,hs_HX,hm_HX⟩:=Mid.swap HS.out hm_HVxa (ix) (jx) omg omg (I:=(ix:Int)) (J:=(jx:Int)) omg omg;have HX:=hdq hm_HX;have c_HX:=hm_HX.fn;have d_HX:=hm_HX.sw;clear hm_HX;clear hm_HVxa);generalize wr=wp at *;have hgd:decide (jx<ix)=false:=decide_eq_false omg;rw [hgd];go_loopw [10,11] (fun vi vj wr=>∃(i j:Nat) (dk:Array α),vi=.int .i64 (i:Int)/\vj=.int .i64 (j:Int)/\a<i/\i<=j+1/\j<b/\Hid (Mid enc k g lb sf sb blk off n w W dk wr)/\Hid (partLoop lt a i j dk=R)) (fun vi vj _=>(intOf vj).toNat+1-(intOf vi).toNat)
         case atStart=>exact ⟨ix+1,jx-1,swp D1 ix jx,by go_num,by go_num,by omega,by omega,by omega,HX,HRR⟩
         case round =>
          obtain ⟨i,j,dk,rfl,rfl,hai,hij,hjb,HM,HE⟩:=hrel;clear hs_HX c_HX d_HX;go_wp2;generalize wr=wq at *;go_loopw [10] (fun vi wr=>∃(iy:Nat),vi=.int .i64 (iy:Int)/\i<=iy/\iy<=j+1/\Hid (Mid enc k g lb sf sb blk off n w W dk wr)/\Hid (scanUp (fun x=>lt x dk[a]!) dk (j) iy=scanUp (fun x=>lt x dk[a]!) dk (j) (i))) (fun vi _=>(j)+1-(intOf vi).toNat)
          case atStart=>exact ⟨i,by go_num,Nat.le_refl _,hij,HM,hdq rfl⟩
          case round =>
           obtain ⟨iy,rfl,asN,aoK,KJ,Rf⟩:=hrel;have cuy:=KJ.out.fn;by_cases Rh:iy<=j
           ·have aoL:(iy:Int)<=((j:Nat):Int):=omg
            cases FT:lt dk[iy]! dk[a]! with
            | true =>
              have KL:=hdq FT;clear FT;go_wp2_with (go_at_fn g;refine (Mid.less HS.out KJ.out (iy) (a) omg omg (I:=(iy:Int)) (J:=(a:Int)) omg omg KL.out).mono ?_;rintro e w_HUya ⟨rfl,hm_HUya⟩;have Ri:=hdq hm_HUya;have c_HUya:=hm_HUya.fn;have d_HUya:=hm_HUya.sw;clear hm_HUya);go_roundw
              case rel=>exact ⟨iy+1,by go_num,by omega,by omega,Ri,hdq ((scanUp_go (fun x=>lt x dk[a]!) dk (j) iy Rh (by simp [KL.out])).symm.trans Rf.out)⟩
              case measure=>simp [intOf];omega
            | false =>
              have FU:Hid (iy=scanUp (fun x=>lt x dk[a]!) dk (j) (i)):=hdq ((scanUp_end (fun x=>lt x dk[a]!) dk (j) iy (.inr (by simp [FT]))).symm.trans Rf.out);have KL:=hdq FT;clear FT;go_wp2_with (go_at_fn g;refine (Mid.less HS.out KJ.out (iy) (a) omg omg (I:=(iy:Int)) (J:=(a:Int)) omg omg KL.out).mono ?_;rintro e w_HUya ⟨rfl,hm_HUya⟩;have Ri:=hdq hm_HUya;have c_HUya:=hm_HUya.fn;have d_HUya:=hm_HUya.sw;clear hm_HUya);generalize wr=woy at *;go_loopw [11] (fun vj wr=>∃(jy:Nat),vj=.int .i64 (jy:Int)/\jy<=j/\iy<=jy+1/\Hid (Mid enc k g lb sf sb blk off n w W dk wr)/\Hid (scanDown (fun x=>!lt x dk[a]!) dk iy jy=scanDown (fun x=>!lt x dk[a]!) dk iy (j))) (fun vj _=>(intOf vj).toNat)
              case atStart=>exact ⟨j,by go_num,Nat.le_refl _,aoK,Ri,hdq rfl⟩
              case round =>
               obtain ⟨jy,rfl,asP,asQ,vJ,Rj⟩:=hrel;have cvy:=vJ.out.fn;have dvy:=vJ.out.sw;by_cases Rk:iy<=jy
               ·have aoP:(iy:Int)<=(jy:Int):=omg
                cases FV:lt dk[jy]! dk[a]! with
                | false =>
                  have KM:=hdq FV;clear FV;go_wp2_with (go_at_fn g;refine (Mid.less HS.out vJ.out (jy) (a) omg omg (I:=(jy:Int)) (J:=(a:Int)) omg omg KM.out).mono ?_;rintro e w_HVya ⟨rfl,hm_HVya⟩;have aay:=hdq hm_HVya;have c_HVya:=hm_HVya.fn;have d_HVya:=hm_HVya.sw;clear hm_HVya);go_roundw
                  case rel=>exact ⟨jy-1,by go_num,by omega,by omega,aay,hdq ((scanDown_go (fun x=>!lt x dk[a]!) dk iy jy Rk omg (by simp [KM.out])).symm.trans Rj.out)⟩
                  case measure=>simp [intOf];omega
                | true =>
                  have Ci:Hid (jy=scanDown (fun x=>!lt x dk[a]!) dk iy (j)):=hdq ((scanDown_end (fun x=>!lt x dk[a]!) dk iy jy (.inr (by simp [FV]))).symm.trans Rj.out);have KM:=hdq FV;clear FV;have asR:=part_scans_lt lt a (i) (j) dk omg FU.out Ci.out Rk;have aaz:¬((iy:Int)>(jy:Int)):=omg;have asS:¬((jy:Int)<(iy:Int)):=omg;go_wp2_with (go_at_fn g;refine (Mid.less HS.out vJ.out (jy) (a) omg omg (I:=(jy:Int)) (J:=(a:Int)) omg omg KM.out).mono ?_;rintro e w_HVya ⟨rfl,hm_HVya⟩;have aay:=hdq hm_HVya;have c_HVya:=hm_HVya.fn;have d_HVya:=hm_HVya.sw;obtain ⟨w_HY,hs_HY,hm_HY⟩:=Mid.swap HS.out hm_HVya (iy) (jy) omg omg (I:=(iy:Int)) (J:=(jy:Int)) omg omg;have HY:=hdq hm_HY;have c_HY:=hm_HY.fn;have d_HY:=hm_HY.sw;clear hm_HY;clear hm_HVya);go_roundw
                  case rel=>exact ⟨iy+1,jy-1,swp dk iy jy,by go_num,by go_num,by omega,by omega,by omega,HY,hdq (by rw [<-HE.out,part_go lt a i j dk FU.out Ci.out omg])⟩
                  case measure=>simp [intOf];omega
               ·have aoP:¬(iy:Int)<=(jy:Int):=omg;have Ci:Hid (jy=scanDown (fun x=>!lt x dk[a]!) dk iy (j)):=hdq ((scanDown_end (fun x=>!lt x dk[a]!) dk iy jy (.inl Rk)).symm.trans Rj.out);have aaz:(iy:Int)>(jy:Int):=omg;obtain ⟨w_HY,hs_HY,hm_HY⟩:=Mid.swap HS.out vJ.out (jy) (a) omg omg (I:=(jy:Int)) (J:=(a:Int)) omg omg;have HY:=hdq hm_HY;have c_HY:=hm_HY.fn;have d_HY:=hm_HY.sw;clear hm_HY;go_wp2;go_ret2;rw [<-HR.out,HF.out,<-HE.out,part_break lt a i j dk FU.out Ci.out omg];exact ⟨rfl,HY.out.1⟩
           ·have aoL:¬(iy:Int)<=((j:Nat):Int):=omg;have FU:Hid (iy=scanUp (fun x=>lt x dk[a]!) dk (j) (i)):=hdq ((scanUp_end (fun x=>lt x dk[a]!) dk (j) iy (.inl Rh)).symm.trans Rf.out);go_wp2;generalize wr=woy at *;go_loopw [11] (fun vj wr=>vj=.int .i64 ((j:Nat):Int)/\Hid (Mid enc k g lb sf sb blk off n w W dk wr)) (fun vj _=>0)
            case atStart=>exact ⟨by go_num,KJ⟩
            case round =>
             obtain ⟨rfl,vJ⟩:=hrel;have cvy:=vJ.out.fn;have dvy:=vJ.out.sw;have Ci:Hid (j=scanDown (fun x=>!lt x dk[a]!) dk iy (j)):=hdq (scanDown_end (fun x=>!lt x dk[a]!) dk iy (j) (.inl Rh)).symm;have aaz:(iy:Int)>((j:Nat):Int):=omg;obtain ⟨w_HY,hs_HY,hm_HY⟩:=Mid.swap HS.out vJ.out (j) (a) omg omg (I:=(j:Int)) (J:=(a:Int)) omg omg;have HY:=hdq hm_HY;have c_HY:=hm_HY.fn;have d_HY:=hm_HY.sw;clear hm_HY;go_wp2;go_ret2;rw [<-HR.out,HF.out,<-HE.out,part_break lt a i j dk FU.out Ci.out omg];exact ⟨rfl,HY.out.1⟩
      ·have Re:¬(ix:Int)<=(jx:Int):=omg;have pg:Hid (jx=scanDown (fun x=>!lt x D1[a]!) D1 ix (j0)):=hdq ((scanDown_end (fun x=>!lt x D1[a]!) D1 ix jx (.inl zU)).symm.trans zT.out);have FR:(ix:Int)>(jx:Int):=omg;obtain ⟨w_HX,hs_HX,hm_HX⟩:=Mid.swap HS.out jU.out (jx) (a) omg omg (I:=(jx:Int)) (J:=(a:Int)) omg omg;have HX:=hdq hm_HX;have c_HX:=hm_HX.fn;have d_HX:=hm_HX.sw;clear hm_HX;go_wp2;go_ret2;rw [<-HR.out,part_first_break lt D a b pivot HI0.out BX.out HD1.out rZ.out pg.out omg];exact ⟨rfl,HX.out.1⟩
  ·have QZ:¬(ix:Int)<=((j0:Nat):Int):=omg;have rZ:Hid (ix=scanUp (fun x=>lt x D1[a]!) D1 (j0) (i0)):=hdq ((scanUp_end (fun x=>lt x D1[a]!) D1 (j0) ix (.inl hlex)).symm.trans zR.out);go_wp2;generalize wr=Ra at *;go_loopw [11] (fun vj wr=>vj=.int .i64 ((j0:Nat):Int)/\Hid (Mid enc k g lb sf sb blk off n w W D1 wr)) (fun vj _=>0)
   case atStart=>exact ⟨by go_num,vG⟩
   case round =>
    obtain ⟨rfl,jU⟩:=hrel;have Rb:=jU.out.fn;have Rc:=jU.out.sw;have pg:Hid (j0=scanDown (fun x=>!lt x D1[a]!) D1 ix (j0)):=hdq (scanDown_end (fun x=>!lt x D1[a]!) D1 ix (j0) (.inl hlex)).symm;have FR:(ix:Int)>((j0:Nat):Int):=omg;obtain ⟨w_HX,hs_HX,hm_HX⟩:=Mid.swap HS.out jU.out (j0) (a) omg omg (I:=(j0:Int)) (J:=(a:Int)) omg omg;have HX:=hdq hm_HX;have c_HX:=hm_HX.fn;have d_HX:=hm_HX.sw;clear hm_HX;go_wp2;go_ret2;rw [<-HR.out,part_first_break lt D a b pivot HI0.out BX.out HD1.out rZ.out pg.out omg];exact ⟨rfl,HX.out.1⟩
end
end Go.Proofs.YtkiamgcpcneggaaGreat
