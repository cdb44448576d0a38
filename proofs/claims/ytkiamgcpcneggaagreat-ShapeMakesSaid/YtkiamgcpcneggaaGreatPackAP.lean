import Derived.Test.YtkiamgcpcneggaaGreatPackAO
set_option linter.all false
set_option maxRecDepth 100000
set_option maxHeartbeats 12800000
namespace Go.Proofs.YtkiamgcpcneggaaGreat
section
open Go.RowKit

def Front (a:Option Addr) (n:Nat):Prop:=n=0\/∃b,a=some ⟨b,0,none⟩
theorem Front.of_owns {w:World} {B:Nat} {T:TypeId} {size:Nat} {a:Option Addr} {n cap m:Nat} {l:List Value} (h:w.ownsRow B T size (.slice a n cap) m l):Front a n:=by
 rcases h.2 with ⟨h1,_⟩|⟨g,c,cur,h1,_⟩
 ·cases h1;exact .inl rfl
 ·cases h1;exact .inr ⟨g,rfl⟩
def High (B:Nat) (a:Option Addr) (n:Nat):Prop:=n=0\/∃b o,a=some ⟨b,o,none⟩/\B<=b
theorem High.of_owns {w:World} {B:Nat} {T:TypeId} {size:Nat} {a:Option Addr} {n cap m:Nat} {l:List Value} (h:w.ownsRow B T size (.slice a n cap) m l):High B a n:=by
 rcases h.2 with ⟨h1,_⟩|⟨g,c,cur,h1,h2,_⟩
 ·cases h1;exact .inl rfl
 ·cases h1;exact .inr ⟨g,0,rfl,h2⟩
theorem High.mono {B B':Nat} {a:Option Addr} {n:Nat} (h:High B a n) (hB:B'<=B):High B' a n:=by
 rcases h with h|⟨b,o,h1,h2⟩
 ·exact .inl h
 ·exact .inr ⟨b,o,h1,by omega⟩
theorem Sl.high {k:IntKind} {w w':World} {a:Option Addr} {n cap B:Nat} {zs:List Int} (h:Sl k w a n cap zs) (hh:High B a n) (hc:∀b,B<=b->b<w.heap.size->w'.heap[b]?=w.heap[b]?):Sl k w' a n cap zs:=by
 obtain ⟨h1,h2,h3,h4,h5⟩:=h;refine ⟨h1,h2,h3,h4,?_⟩;rcases h5 with h5|⟨b,off,ha,hcell⟩
 ·exact .inl h5
 ·rcases Nat.eq_zero_or_pos n with h0|hp
  ·exact .inl h0
  ·refine .inr ⟨b,off,ha,fun i hi=>?_⟩;rcases hh with hh|⟨b',o',hb',hB⟩
   ·omega
   ·rw [ha] at hb';cases hb';have e:=hcell i hi;have hlt:=ay e;rw [World.cell?] at e ⊢;rw [hc b hB hlt];exact e
theorem Sl.apart {w w':World} {a:Option Addr} {n cap:Nat} {zs:List Int} {k:Option Nat} (h:Sl .i64 w a n cap zs) (hf:Front a n) (hg:w.grownBy w' k) (hk:∀b,k=some b->∀z:Int,w.cell? ⟨b,0,none⟩≠some (.int .i64 z)):Sl .i64 w' a n cap zs:=by
 obtain ⟨h1,h2,h3,h4,h5⟩:=h;refine ⟨h1,h2,h3,h4,?_⟩;rcases h5 with h5|⟨b,off,ha,hc⟩
 ·exact .inl h5
 ·rcases Nat.eq_zero_or_pos n with h0|hp
  ·exact .inl h0
  ·refine .inr ⟨b,off,ha,fun i hi=>?_⟩;rcases hf with hf|⟨b',hb'⟩
   ·omega
   ·rw [ha] at hb';simp only [sij,Addr.mk.injEq,and_true] at hb';obtain ⟨rfl,rfl⟩:=hb';have hne:k≠some b:=fun e=>hk b e _ (by have h9:=hc 0 hp;rw [Nat.zero_add] at h9;exact h9)
    exact hg.cell (hc i hi) (fun e=>hne e.symm)
namespace Img
theorem yw (b:List Int):(dTake b).1<=2000000:=by
 unfold dTake take;split
 ·rename_i h;split at h
  ·split at h
   ·cases h;omega
   ·cases h
  ·cases h
 ·exact Nat.zero_le _
end Img

def IntsAt (n:Nat) (b0:List Int) (k:Nat) (pre bb:List Int) (ok:Bool):Prop :=
 pre.length=k/\(∀z∈pre,0<=z/\z<=2000000)/\Img.dInts n b0=if ok=true then (pre++(Img.dInts (n-k) bb).1,(Img.dInts (n-k) bb).2.1,(Img.dInts (n-k) bb).2.2) else (pre,bb,false)
theorem IntsAt.next {n:Nat} {b0:List Int} {k:Nat} {pre bb:List Int} (h:IntsAt n b0 k pre bb true) (hk:k<n):IntsAt n b0 (k+1) (pre++[((Img.dTake bb).1:Int)]) (Img.dTake bb).2.1 (Img.dTake bb).2.2:=by
 obtain ⟨h1,h2,h3⟩:=h;refine ⟨by simp [h1],?_,?_⟩
 ·intro z hz;rcases map1 hz with hz|hz
  ·exact h2 z hz
  ·simp only [List.mem_singleton] at hz;subst hz;have:=Img.yw bb;omega
 ·rw [h3,if_pos rfl,show n-k=(n-(k+1))+1 from by omega,Img.dInts]
  cases (Img.dTake bb).2.2<;>simp
theorem IntsAt.done {n:Nat} {b0:List Int} {k:Nat} {pre bb:List Int} {ok:Bool} (h:IntsAt n b0 k pre bb ok) (hk:k=n\/ok=false):Img.dInts n b0=(pre,bb,ok):=by
 obtain ⟨h1,h2,h3⟩:=h;rw [h3]
 cases ok with
 | false=>rfl
 | true =>
   rcases hk with rfl|hk
   ·rw [if_pos rfl,Nat.sub_self,Img.dInts];simp
   ·cases hk

end
section
open Go.RowKit

theorem Sl.cutN {k:IntKind} {w:World} {a:Option Addr} {n cap:Nat} {zs:List Int} (h:Sl k w a n cap zs) (j:Nat) (hj:j<=n):Sl k w a j cap (zs.take j):=by
 obtain ⟨h1,h2,h3,h4,h5⟩:=h;refine ⟨by simp;omega,by omega,h3,fun z hz=>h4 z (List.mem_of_mem_take hz),?_⟩
 rcases h5 with h5|⟨b,off,ha,hc⟩
 ·exact .inl (by omega)
 ·refine .inr ⟨b,off,ha,fun i hi=>?_⟩;rw [hc i (by omega)]
  simp [hi]
theorem Sl.from {k:IntKind} {w:World} {a:Option Addr} {n cap:Nat} {zs:List Int} (h:Sl k w a n cap zs) (j:Nat) (hj:j<=n):Sl k w (Option.map (fun x=>x.add j) a) (n-j) (cap-j) (zs.drop j):=by
 obtain ⟨h1,h2,h3,h4,h5⟩:=h;refine ⟨by simp;omega,by omega,by omega,fun z hz=>h4 z (List.mem_of_mem_drop hz),?_⟩
 rcases h5 with h5|⟨b,off,ha,hc⟩
 ·exact .inl (by omega)
 ·refine .inr ⟨b,off+j,by rw [ha];simp [Addr.add],fun i hi=>?_⟩
  rw [Nat.add_assoc,hc (j+i) (by omega)]
  simp [Nat.add_comm]
theorem Sl.fromIf {k:IntKind} {w:World} {a:Option Addr} {n cap:Nat} {zs:List Int} (h:Sl k w a n cap zs) (j:Nat) (hj:j<=n):Sl k w (if cap=j then a else Option.map (fun x=>x.add j) a) (n-j) (cap-j) (zs.drop j):=by
 split
 ·rename_i hc;obtain ⟨h1,h2,h3,h4,h5⟩:=h;exact ⟨by simp;omega,by omega,by omega,fun z hz=>h4 z (List.mem_of_mem_drop hz),.inl (by omega)⟩
 ·exact h.from j hj
theorem Low.fromIf {B:Nat} {a:Option Addr} {n:Nat} (h:Low B a n) {cap:Nat} (j:Nat) (hj:j<=n) (hc:n<=cap):Low B (if cap=j then a else Option.map (fun x=>x.add j) a) (n-j):=by
 split
 ·exact .inl (by omega)
 ·rcases h with h|⟨b,o,rfl,hb⟩
  ·exact .inl (by omega)
  ·exact .inr ⟨b,o+j,by simp [Addr.add],hb⟩
theorem add_zero (a:Option Addr):Option.map (fun x=>x.add 0) a=a:=by
 cases a<;>simp [Addr.add]

def formPanic:List PanicEntry:=[{ v:=.iface 33 (.int .i64 150),recovered:=false }]
structure Tk (w:World) (B tb:Nat) (b:List Int) (a:Option Addr) (n cap:Nat):Prop where
 box:w.heap[tb]?=some (.cells #[.slice a n cap] 86 (0,0))
 sl:Sl .u8 w a n cap b
 low:Low B a n
 le:B<=tb
theorem Tk.lt {w:World} {B tb:Nat} {b:List Int} {a:Option Addr} {n cap:Nat} (h:Tk w B tb b a n cap):tb<w.heap.size:=(hltq h.box)
theorem Tk.cell {w:World} {B tb:Nat} {b:List Int} {a:Option Addr} {n cap:Nat} (h:Tk w B tb b a n cap):w.cell? ⟨tb,0,none⟩=some (.slice a n cap):=by
 rw [cell_of_row w tb 0 _ _ _ h.box];rfl
theorem Tk.frozen {w:World} {B tb:Nat} {b:List Int} {a:Option Addr} {n cap:Nat} (h:Tk w B tb b a n cap):w.frozen? ⟨tb,0,none⟩=false:=by
 have hb:=h.box;simp [World.frozen?,hb]
theorem Tk.keep {w w':World} {B tb:Nat} {b:List Int} {a:Option Addr} {n cap:Nat} (h:Tk w B tb b a n cap) (hb:∀k,k<=tb->w'.heap[k]?=w.heap[k]?):Tk w' B tb b a n cap:=by
 refine ⟨(hb tb lrf).trans h.box,?_,h.low,h.le⟩;obtain ⟨h1,h2,h3,h4,h5⟩:=h.sl;refine ⟨h1,h2,h3,h4,?_⟩;rcases h5 with h5|⟨b',off,ha,hc⟩
 ·exact .inl h5
 ·rcases h.low with hl|⟨b2,o2,hl,hlt⟩
  ·exact .inl hl
  ·rw [ha] at hl;cases hl;refine .inr ⟨b',off,ha,fun i hi=>?_⟩;rw [World.cell?,hb b' (by have:=h.le;omega)]
   exact hc i hi
theorem Tk.below {w w':World} {B tb C:Nat} {b:List Int} {a:Option Addr} {n cap:Nat} (h:Tk w B tb b a n cap) (hb:Below C w w') (hC:tb<C):Tk w' B tb b a n cap :=
 h.keep (fun k hk=>hb.block k (by omega))
theorem Tk.store {w:World} {B tb:Nat} {b b':List Int} {a a':Option Addr} {n n' cap cap':Nat} (h:Tk w B tb b a n cap) (hs:Sl .u8 w a' n' cap' b') (hl:Low B a' n'):Tk (w.setCell ⟨tb,0,none⟩ (.slice a' n' cap')) B tb b' a' n' cap':=by
 refine ⟨by rw [heap_setCell_same _ _ _ _ _ _ h.box];rfl,?_,hl,h.le⟩
 obtain ⟨h1,h2,h3,h4,h5⟩:=hs;refine ⟨h1,h2,h3,h4,?_⟩;rcases h5 with h5|⟨b1,off,ha,hc⟩
 ·exact .inl h5
 ·rcases hl with hl|⟨b2,o2,hl,hlt⟩
  ·exact .inl hl
  ·rw [ha] at hl;cases hl;refine .inr ⟨b1,off,ha,fun i hi=>?_⟩;rw [World.cell?,heap_setCell_other _ _ _ _ (by have:=h.le;show b1≠tb;omega)]
   exact hc i hi
theorem aj {a b c:World} {r:Option Nat} (h:a.grownBy b r) (k:b.grownBy c r):a.grownBy c r :=
 ⟨k.os.trans h.os,k.tape.trans h.tape,k.output.trans h.output,Nat.le_trans h.size k.size,fun i hi hn=>(k.block i (Nat.lt_of_lt_of_le hi h.size) hn).trans (h.block i hi hn)⟩
theorem rz {w w':World} (r:Option Nat) (h:Below w.heap.size w w'):w.grownBy w' r:=⟨h.os,h.tape,h.output,h.size,fun k hk _=>h.block k hk⟩
theorem jw {a b c:World} {r r':Option Nat} (h:a.grownBy b r) (k:b.grownBy c r') (hr:∀g,r'=some g->a.heap.size<=g):a.grownBy c r :=
 ⟨k.os.trans h.os,k.tape.trans h.tape,k.output.trans h.output,Nat.le_trans h.size k.size,fun i hi hn=>(k.block i (Nat.lt_of_lt_of_le hi h.size) (fun e=>by have:=hr i e.symm;omega)).trans (h.block i hi hn)⟩
theorem se {a b:World} {r:Option Nat} (h:a.grownBy b r):a.grownBy b.drew r:=⟨h.os,h.tape,h.output,h.size,h.block⟩
theorem aiw {a b:World} {r:Option Nat} (h:a.grownBy b r) (o:Obj):a.grownBy (b.alloc o) r:=aj h (World.grownBy_alloc b o r)
theorem qj {w w':World} {tb B:Nat} (h:w.grownBy w' (some tb)) (hB:B<=tb) (hw:B<=w.heap.size):Below B w w' :=
 ⟨h.os,h.tape,h.output,h.size,fun k hk=>h.block k (by omega) (by simp;omega)⟩

theorem VTakeIs.form {w':World} {e:Ending} {r:Option (Nat × List Int)} (h:VTakeIs w' e r):∃x a' n' c' er,e=.returned (.tuple #[.int .u64 x,.slice a' n' c',.int .i64 er])/\((r=Option.none/\er=130)\/∃(m:Nat) (l:List Int),r=Option.some (m,l)/\x=(m:Int)/\er=0):=by
 rcases h with ⟨m,l,a',n',c',h1,h2,h3⟩|⟨h1,h2⟩
 ·exact ⟨_,a',n',c',0,h2,.inr ⟨m,l,h1,rfl,rfl⟩⟩
 ·exact ⟨0,Option.none,0,0,130,h2,.inl ⟨h1,rfl⟩⟩

def NumP (B tb:Nat) (w':World) (e:Ending) (r:Option (Nat × List Int)):Prop :=
 (r=none/\e=.panicked formPanic)\/∃x l a n c,r=some (x,l)/\e=.returned (.int .u64 ((x:Nat):Int))/\Tk w' B tb l a n c

theorem dv (B tb:Nat) (a:Option Addr) (n cap:Nat) (b:List Int) (w:World) (ht:Tk w B tb b a n cap) :
 Calls Tryz.prog 101 #[.pointer (some ⟨tb,0,none⟩)] w fun e w'=>NumP B tb w' e (Var.take b)/\w.grownBy w' (some tb):=by
 have hmx:Tryz.prog.follows .mixedOrders=true:=by kernel_rfl
 have HT:=hdq ht;have hnc:=ht.sl.2.1;have hcm:=ht.sl.2.2.1;unfold maxLen at hcm;have HLB:Hid (b.length=n):=ht.sl.1;have hcell:=ht.cell;obtain ⟨m,hm⟩:∃m,m=min 10 n:=⟨_,rfl⟩;have hm10:m<=10:=by omega
 have hmn:m<=n:=by omega
 have q1:min (10:Int) (n:Int)=(m:Int):=by omega
 have q2:(if (10:Int)<(n:Int) then (10:Int) else (n:Int))=(m:Int):=by split<;>omega
 have q3:(if (n:Int)<(10:Int) then (n:Int) else (10:Int))=(m:Int):=by split<;>omega
 have HMT:Hid (b.take m=b.take 10):=by
  show _=_;rw [hm];rcases Nat.le_total 10 n with h|h
  ·rw [Nat.min_eq_left h]
  ·rw [Nat.min_eq_right h,tol (by rw [HLB.out];exact Nat.le_refl _),tol (by rw [HLB.out];exact h)]
 have hmc:(m:Int)<=(cap:Int):=by omega
 have hma:=add_zero a;have HD:Hid (w.grownBy w.drew (some tb)):=se (World.grownBy.refl w _);have HS:Hid (Sl .u8 w.drew a m cap (b.take m)):=(ht.sl.cutN m hmn).drew;clear ht hm;go_enter Tryz.func101,Tryz.ntmps101;go_wp2;refine wp_region_held_drew (S:=(fun W=>W.cell? ⟨tb,0,none⟩=some (.slice a n cap))) (by kernel_rfl) (by first|(first|exact C1.out|exact hcell)|((try dsimp only);first|exact C1.out|exact hcell)) (fun hHeld=>?_)
 refine t_h 0 ?_;refine t_h 1 ?_;refine t_h 2 ?_;refine t_h 3 ?_;refine t_h 4 ?_;refine t_h 5 ?_;refine t_h 6 ?_;refine t_h 7 ?_;refine t_h 8 ?_;refine r_h 9 (fun K hK=>?_);go_simp;refine k_h hK (by first|(first|exact C1.out|exact hcell)|(dsimp only;first|exact C1.out|exact hcell)) (fun hHeld=>?_)
 clear hK K;refine t_h 10 ?_;refine r_h 11 (fun K hK=>?_);go_simp;refine (auh a m cap _ _ HS.out (by omega)).mono ?_
 rintro e w1 ⟨hv,hb1⟩;have G1:Hid (w.grownBy w1 (some tb)):=aj HD.out (rz _ hb1);have T1:Hid (Tk w1 B tb b a n cap):=HT.out.below (C:=w.heap.size) (show Below w.heap.size w w1 from ⟨hb1.os,hb1.tape,hb1.output,hb1.size,hb1.block⟩) HT.out.lt;have C1:=hdq T1.out.cell;clear hb1;obtain ⟨x,ax,nx,cx,er,rfl,hx⟩:=hv.form;rw [HMT.out] at hx;have V1:=hdq hx;clear hv hx;refine k_h hK (by first|(first|exact C1.out|exact hcell)|(dsimp only;first|exact C1.out|exact hcell)) (fun hHeld=>?_)
 clear hK K;refine t_h 12 ?_;refine t_h 13 ?_;refine t_h 14 ?_;refine t_h 15 ?_;refine t_h 16 ?_;refine t_h 17 ?_;refine t_h 18 ?_;refine wpAnyH_done (by kernel_rfl) ?_ _
 clear HS HD hcell;obtain (⟨hr,rfl⟩|⟨x,l,hr,rfl,rfl⟩):=V1.out
 ·have HR:=hdq (Img.aek hr);clear hr V1;go_wp2;exact ⟨rfl,.inl ⟨HR.out,rfl⟩,G1.out⟩
 ·obtain ⟨hr1,hx64,hl1⟩:=Img.ael hr;have HR:=hdq hr1;obtain ⟨k,hk⟩:∃k,(Var.enc x).length=k:=⟨_,rfl⟩;rw [hk,HLB.out] at hl1;have HK:=hdq hk;have hk10:k<=10:=by rw [<-hk];exact Var.ic hx64
  have hkp:0<k:=by rw [<-hk];exact Var.kr x
  have HC:=hdq (axh x k hx64 hk);have hcell:=C1.out;have D1:Hid (w.grownBy w1.drew (some tb)):=se G1.out;have hkc:(k:Int)<=(n:Int):=by omega
  clear hr hr1 hk V1;go_wp2;refine wp_region_held_drew (S:=(fun _=>True)) (by kernel_rfl) (by first|(trivial)|((try dsimp only);trivial)) (fun hHeld=>?_)
  refine t_h 0 ?_;refine t_h 1 ?_;refine t_h 2 ?_;refine t_h 3 ?_;refine t_h 5 ?_;refine em 4 6 (fun K hK=>?_) (fun K hK=>?_)
  ·go_simp;refine k_h hK (by trivial) (fun hHeld=>?_)
   clear hK K;refine r_h 6 (fun K hK=>?_);go_simp;refine (HC.out _).mono ?_;rintro e w2 ⟨rfl,hb2⟩;have G2:Hid (w.grownBy w2 (some tb)):=aj D1.out (rz _ hb2);have T2:Hid (Tk w2 B tb b a n cap):=T1.out.below (C:=w1.heap.size) (show Below w1.heap.size w1 w2 from ⟨hb2.os,hb2.tape,hb2.output,hb2.size,hb2.block⟩) T1.out.lt;have hc2:=T2.out.cell;have hz2:w2.frozen? ⟨tb,0,none⟩=false:=T2.out.frozen;clear hb2;refine k_h hK (by trivial) (fun hHeld=>?_)
   clear hK K;refine t_h 7 ?_;refine t_h 8 ?_;refine t_h 9 ?_;refine r_h 10 (fun K hK=>?_);go_simp;refine k_h hK (by trivial) (fun hHeld=>?_)
   clear hK K;refine wpAnyH_done (by kernel_rfl) ?_ _
   have T3:=hdq (T2.out.store (T2.out.sl.fromIf k (by omega)) (T2.out.low.fromIf k (by omega) (by omega)))
   have G3:Hid (w.grownBy (w2.setCell ⟨tb,0,none⟩ (.slice (if cap=k then a else Option.map (fun x=>x.add k) a) (n-k) (cap-k))) (some tb)):=aj G2.out ⟨rfl,rfl,rfl,by simp,fun i _ hi=>heap_setCell_other _ _ _ _ (fun e=>hi (by rw [e]))⟩
   obtain ⟨W3,hW3⟩:∃W,W=w2.setCell ⟨tb,0,none⟩ (.slice (if cap=k then a else Option.map (fun x=>x.add k) a) (n-k) (cap-k)):=⟨_,rfl⟩
   rw [<-hW3] at T3 G3 ⊢;clear hW3 hc2 hz2 T2 G2 hHeld;rw [HK.out] at HR;go_wp2
   all_goals
    go_ret;exact ⟨.inr ⟨x,_,_,_,_,HR.out,rfl,T3.out⟩,G3.out⟩
  ·go_simp;refine (HC.out _).mono ?_;rintro e w2 ⟨rfl,hb2⟩;have G2:Hid (w.grownBy w2 (some tb)):=aj D1.out (rz _ hb2);have T2:Hid (Tk w2 B tb b a n cap):=T1.out.below (C:=w1.heap.size) (show Below w1.heap.size w1 w2 from ⟨hb2.os,hb2.tape,hb2.output,hb2.size,hb2.block⟩) T1.out.lt;have hc2:=T2.out.cell;have hz2:w2.frozen? ⟨tb,0,none⟩=false:=T2.out.frozen;clear hb2;refine k_h hK (by trivial) (fun hHeld=>?_)
   clear hK K;refine r_h 4 (fun K hK=>?_);go_simp;refine k_h hK (by trivial) (fun hHeld=>?_)
   clear hK K;refine t_h 7 ?_;refine t_h 8 ?_;refine t_h 9 ?_;refine r_h 10 (fun K hK=>?_);go_simp;refine k_h hK (by trivial) (fun hHeld=>?_)
   clear hK K;refine wpAnyH_done (by kernel_rfl) ?_ _
   have T3:=hdq (T2.out.store (T2.out.sl.fromIf k (by omega)) (T2.out.low.fromIf k (by omega) (by omega)))
   have G3:Hid (w.grownBy (w2.setCell ⟨tb,0,none⟩ (.slice (if cap=k then a else Option.map (fun x=>x.add k) a) (n-k) (cap-k))) (some tb)):=aj G2.out ⟨rfl,rfl,rfl,by simp,fun i _ hi=>heap_setCell_other _ _ _ _ (fun e=>hi (by rw [e]))⟩
   obtain ⟨W3,hW3⟩:∃W,W=w2.setCell ⟨tb,0,none⟩ (.slice (if cap=k then a else Option.map (fun x=>x.add k) a) (n-k) (cap-k)):=⟨_,rfl⟩
   rw [<-hW3] at T3 G3 ⊢;clear hW3 hc2 hz2 T2 G2 hHeld;rw [HK.out] at HR;go_wp2
   all_goals
    go_ret;exact ⟨.inr ⟨x,_,_,_,_,HR.out,rfl,T3.out⟩,G3.out⟩

end
section
open Go.RowKit

theorem gm {a b c:World} {r:Option Nat} (h:a.grownBy b r) (k:Below a.heap.size b c):a.grownBy c r :=
 ⟨k.os.trans h.os,k.tape.trans h.tape,k.output.trans h.output,Nat.le_trans h.size k.size,fun i hi hn=>(k.block i hi).trans (h.block i hi hn)⟩
theorem qk {w:World} {base tb size n:Nat} {e:TypeId} {v:Value} {l:List Value} (h:w.ownsRow base e size v n l) (ht:tb<base):v.ownBlock=none\/v.ownBlock≠some tb:=by
 rcases h.2 with ⟨rfl,_⟩|⟨g,c,cur,rfl,hg,_⟩
 ·exact .inl rfl
 ·exact .inr (by simp [Value.ownBlock];omega)

def CountP (B tb:Nat) (w':World) (e:Ending) (r:Option (Nat × List Int)):Prop :=
 (r=none/\e=.panicked formPanic)\/∃x l a n c,r=some (x,l)/\e=.returned (.int .i64 ((x:Nat):Int))/\Tk w' B tb l a n c
theorem Img.take_le {M:Nat} {b l:List Int} {x:Nat} (h:Img.take M b=some (x,l)):x<=M:=by
 rw [Img.take] at h;split at h
 ·split at h
  ·rename_i h2;cases h;exact h2
  ·cases h
 ·cases h

theorem yx (M:Nat) (hM:M<=1000000) (B tb:Nat) (a:Option Addr) (n cap:Nat) (b:List Int) (w:World) (ht:Tk w B tb b a n cap) :
 Calls Tryz.prog 100 #[.pointer (some ⟨tb,0,none⟩),.int .i64 (M:Int)] w fun e w'=>CountP B tb w' e (Img.take M b)/\w.grownBy w' (some tb):=by
 have HC:=hdq (dv B tb a n cap b w ht);have hMu:IntKind.u64.wrap (M:Int)=(M:Int):=by rw [lw];omega
 clear ht;go_enter Tryz.func100,Tryz.ntmps100;go_wp2_with fail;refine HC.out.mono ?_;rintro e w1 ⟨(⟨hr,rfl⟩|⟨x,l,a1,n1,c1,hr,rfl,ht1⟩),hg⟩
 ·exact ⟨rfl,.inl ⟨by rw [Img.take,hr],rfl⟩,hg⟩
 ·have HR:=hdq hr;have T1:=hdq ht1;have G1:=hdq hg;clear hr ht1 hg HC;by_cases hx:x<=M
  ·have hgt:¬(M:Int)<(x:Int):=by omega
   have hxi:IntKind.i64.wrap (x:Int)=(x:Int):=Img.km (by omega)
   go_wp2;go_ret;exact ⟨.inr ⟨x,l,a1,n1,c1,by rw [Img.take,HR.out];simp [hx],rfl,T1.out⟩,G1.out⟩
  ·have hgt:(M:Int)<(x:Int):=by omega
   go_wp2;exact ⟨rfl,.inl ⟨by rw [Img.take,HR.out];simp [hx],rfl⟩,G1.out⟩

def SideP (B tb E:Nat) (w':World) (e:Ending) (r:Option (List Int × List Int)):Prop :=
 (r=none/\e=.panicked formPanic)\/∃xs l la ln lc a n c,r=some (xs,l)/\e=.returned (.slice la ln lc)/\Sl .i64 w' la ln lc xs/\High E la ln/\Front la ln/\Tk w' B tb l a n c
def IntsQ (n:Nat) (b0:List Int) (k:Nat) (pre bb:List Int):Prop :=
 pre.length=k/\(∀z∈pre,(Lit.int .i64 z).wf=true)/\Img.qInts n b0=(Img.qInts (n-k) bb).map (fun x=>(pre++x.1,x.2))
theorem IntsQ.start (n:Nat) (b0:List Int):IntsQ n b0 0 [] b0:=by
 refine ⟨rfl,by simp,?_⟩
 rw [Nat.sub_zero];cases Img.qInts n b0<;>simp
theorem ajw (x:Int):(Lit.int .i64 (IntKind.i64.wrap x)).wf=true:=by
 apply WalkArith.wf_i64;rw [IntKind.wrap_i64];omega
theorem IntsQ.next {n:Nat} {b0:List Int} {k:Nat} {pre bb r:List Int} {s:Nat} (h:IntsQ n b0 k pre bb) (hk:k<n) (hs:Var.take bb=some (s,r)):IntsQ n b0 (k+1) (pre++[IntKind.i64.wrap (s:Int)]) r:=by
 obtain ⟨h1,h2,h3⟩:=h;refine ⟨by simp [h1],?_,?_⟩
 ·intro z hz;rcases map1 hz with hz|hz
  ·exact h2 z hz
  ·simp only [List.mem_singleton] at hz;subst hz;exact ajw _
 ·rw [h3,show n-k=(n-(k+1))+1 from by omega,Img.qInts,hs]
  simp only;cases Img.qInts (n-(k+1)) r<;>simp
theorem IntsQ.none {n:Nat} {b0:List Int} {k:Nat} {pre bb:List Int} (h:IntsQ n b0 k pre bb) (hk:k<n) (hs:Var.take bb=Option.none):Img.qInts n b0=Option.none:=by
 obtain ⟨h1,h2,h3⟩:=h;rw [h3,show n-k=(n-(k+1))+1 from by omega,Img.qInts,hs]
 rfl
theorem IntsQ.done {n:Nat} {b0:List Int} {pre bb:List Int} (h:IntsQ n b0 n pre bb):Img.qInts n b0=some (pre,bb):=by
 obtain ⟨h1,h2,h3⟩:=h;rw [h3,Nat.sub_self,Img.qInts];simp

theorem ql (B tb:Nat) (a:Option Addr) (n cap:Nat) (b:List Int) (w:World) (ht:Tk w B tb b a n cap) :
 Calls Tryz.prog 103 #[.pointer (some ⟨tb,0,none⟩)] w fun e w'=>SideP B tb w.heap.size w' e (Img.qSide b)/\w.grownBy w' (some tb):=by
 have HC:=hdq (yx 8 (by omega) B tb a n cap b w ht)
 have HTB:=hdq ht.lt;clear ht;go_enter Tryz.func103,Tryz.ntmps103;go_wp2_with fail;refine HC.out.mono ?_;rintro e w1 ⟨(⟨hr,rfl⟩|⟨N,b0,a1,n1,c1,hr,rfl,ht1⟩),hg⟩
 ·exact ⟨rfl,.inl ⟨by rw [Img.qSide,hr],rfl⟩,hg⟩
 ·have HQ:Hid (Img.qSide b=Img.qInts N b0):=by show _=_;rw [Img.qSide,hr]
  have hN:=Img.take_le hr;have T1:=hdq ht1;have G1:=hdq hg;clear hr ht1 hg HC;go_wp2;go_loopw [3,6] (fun lv kv wr=>∃(k c nb cb:Nat) (ao ab:Option Addr) (pre bb:List Int),lv=.slice ao k c/\kv=.int .i64 (k:Int)/\k<=N/\Hid (IntsQ N b0 k pre bb)/\Hid (Tk wr B tb bb ab nb cb)/\Hid (wr.ownsRow w.heap.size 3 1 (.slice ao k c) k (ah pre))/\Hid (w.grownBy wr (some tb))) (fun _ kv _=>N-(intOf kv).toNat)
  case atStart=>exact ⟨0,0,n1,c1,none,a1,[],b0,rfl,rfl,Nat.zero_le _,IntsQ.start _ _,T1.out,World.ownsRow_nil _ _ _ _,G1.out⟩
  case round =>
   obtain ⟨k,c,nb,cb,ao,ab,pre,bb,rfl,rfl,hk,HI,HX,HOW,HG⟩:=hrel;by_cases hlt:k<N
   ·have hki:(k:Int)<(N:Int):=by omega
    have HCT:=hdq (dv B tb ab nb cb bb wr HX.out);go_wp2_with fail;refine HCT.out.mono ?_;rintro e w3 ⟨(⟨hr,rfl⟩|⟨s,r,a3,n3,c3,hr,rfl,ht3⟩),hg⟩
    ·exact ⟨rfl,.inl ⟨by rw [HQ.out];exact HI.out.none hlt hr,rfl⟩,aj HG.out hg⟩
    ·have HNX:=hdq (HI.out.next hlt hr)
     have T3:=hdq ht3;have G3:Hid (w.grownBy w3 (some tb)):=aj HG.out hg;have O3:Hid (w3.ownsRow w.heap.size 3 1 (.slice ao k c) k (ah pre)):=HOW.out.kept hg (qk HOW.out HTB.out);have Z3:Hid (w.heap.size<=w3.heap.size):=G3.out.size;obtain ⟨S,hS⟩:∃S,S=IntKind.i64.wrap (s:Int):=⟨_,rfl⟩;rw [<-hS] at HNX;have HSW:Hid (∀z∈[S],(Lit.int .i64 z).wf=true):=by intro z hz;simp at hz;subst hz;rw [hS];exact ajw _
     have hSr:=hS.symm;clear hr ht3 hg HCT hS;go_wp2_with (at_builtin;refine amk (by rfl) (.tmp 8) (.tmp 12) (by rfl) w.heap.size _ k pre (by rfl) (af O3.out ((Below.refl w3.heap.size w3).alloc lrf _) lrf) (some ⟨w3.heap.size,0,none⟩) 1 1 [S] (by rfl) (Sl.newI [S] HSW.out (by unfold maxLen;simp) rfl rfl rfl) (k+1) rfl (by omega) (by have:=Z3.out;simp;omega) ?_;intro a4 c4 w4 hown4 hb4 hnil4;have O4:=hdq hown4;have B4:Hid (Below w.heap.size w3 w4):=hdq (((Below.refl _ w3).alloc Z3.out _).trans hb4);clear hown4 hb4 hnil4)
     go_roundw
     case rel=>exact ⟨k+1,c4,n3,c3,a4,a3,pre++[S],r,rfl,by go_num,by omega,HNX.out,T3.out.below B4.out HTB.out,O4.out,gm G3.out B4.out⟩
     case measure=>simp [intOf];omega
   ·obtain rfl:k=N:=by omega
    have HF:Hid (Img.qSide b=some (pre,bb)):=by show _=_;rw [HQ.out];exact HI.out.done
    go_wp2;go_ret;exact ⟨.inr ⟨pre,bb,_,_,_,_,_,_,HF.out,rfl,Sl.of_owns (k:=.i64) HOW.out HI.out.2.1 HI.out.1,High.of_owns HOW.out,Front.of_owns HOW.out,HX.out⟩,HG.out⟩

end
section
open Go.RowKit

theorem vd (x:Int):IntKind.i64.wrap x=wrap64 x:=by rw [IntKind.wrap_i64];unfold wrap64;omega
theorem adu (s:Nat) (p:Int):Img.sg s p=wrap64 (wrap64 (wrap64 (s:Int)+p)+1):=by
 unfold Img.sg;rw [vd,vd,vd]

def ArcsP (B tb E:Nat) (w':World) (e:Ending) (r:Option (List (Int × Int) × List Int)):Prop :=
 (r=none/\e=.panicked formPanic)\/∃xs l la ln lc a n c,r=some (xs,l)/\e=.returned (.slice la ln lc)/\Ars w' la ln lc xs/\High E la ln/\Front la ln/\Tk w' B tb l a n c
def ArcsQ (i:Int) (H:Nat) (b0:List Int) (k:Nat) (p:Int) (pre:List (Int × Int)) (bb:List Int):Prop :=
 pre.length=k/\(∀z∈pre,(Lit.int .i64 z.1).wf=true/\(Lit.int .i64 z.2).wf=true)/\k+bb.length<=b0.length/\Img.qArcs i H (-1) b0=(Img.qArcs i (H-k) p bb).map (fun x=>(pre++x.1,x.2))
theorem ArcsQ.start (i:Int) (n:Nat) (b0:List Int):ArcsQ i n b0 0 (-1) [] b0:=by
 refine ⟨rfl,by simp,by omega,?_⟩
 rw [Nat.sub_zero];cases Img.qArcs i n (-1) b0<;>simp
theorem ArcsQ.next {i:Int} {H:Nat} {b0:List Int} {k:Nat} {p:Int} {pre:List (Int × Int)} {bb r q:List Int} {s t:Nat} (h:ArcsQ i H b0 k p pre bb) (hk:k<H) (hs:Var.take bb=some (s,r)) (ht:Var.take r=some (t,q)) :
 ArcsQ i H b0 (k+1) (Img.sg s p) (pre++[(Img.sg s p,Img.sg t i)]) q:=by
 obtain ⟨h1,h2,h3,h4⟩:=h;have e1:=Img.take_less hs;have e2:=Img.take_less ht;refine ⟨by simp [h1],?_,by omega,?_⟩
 ·intro z hz;rcases map1 hz with hz|hz
  ·exact h2 z hz
  ·simp only [List.mem_singleton] at hz;subst hz;exact ⟨Img.avk _ _,Img.avk _ _⟩
 ·rw [h4,show H-k=(H-(k+1))+1 from by omega,Img.qArcs,hs]
  simp only;rw [ht];simp only;cases Img.qArcs i (H-(k+1)) (Img.sg s p) q<;>simp
theorem ArcsQ.none {i:Int} {H:Nat} {b0:List Int} {k:Nat} {p:Int} {pre:List (Int × Int)} {bb:List Int} (h:ArcsQ i H b0 k p pre bb) (hk:k<H) (hs:Var.take bb=Option.none\/∃s r,Var.take bb=some (s,r)/\Var.take r=Option.none):Img.qArcs i H (-1) b0=Option.none:=by
 obtain ⟨h1,h2,h3,h4⟩:=h;rw [h4,show H-k=(H-(k+1))+1 from by omega,Img.qArcs]
 rcases hs with hs|⟨s,r,hs,ht⟩
 ·rw [hs];rfl
 ·rw [hs];simp only;rw [ht];rfl
theorem ArcsQ.done {i:Int} {H:Nat} {b0:List Int} {p:Int} {pre:List (Int × Int)} {bb:List Int} (h:ArcsQ i H b0 H p pre bb):Img.qArcs i H (-1) b0=some (pre,bb):=by
 obtain ⟨h1,h2,h3,h4⟩:=h;rw [h4,Nat.sub_self,Img.qArcs];simp

theorem axi (B tb:Nat) (a:Option Addr) (n cap:Nat) (b:List Int) (i H:Nat) (w:World) (ht:Tk w B tb b a n cap) (hn:n<=200000000000) (hH:H<=9223372036854775807) :
 Calls Tryz.prog 102 #[.pointer (some ⟨tb,0,none⟩),.int .i64 (i:Int),.int .u64 (H:Int)] w fun e w'=>ArcsP B tb w.heap.size w' e (Img.qArcs (i:Int) H (-1) b)/\w.grownBy w' (some tb):=by
 have HT:=hdq ht;have HTB:=hdq ht.lt;have HBL:Hid (b.length<=200000000000):=by show _<=_;rw [ht.sl.1];exact hn
 clear ht hn;go_enter Tryz.func102,Tryz.ntmps102;go_wp2;go_loopw [7,8,12] (fun lv pv kv wr=>∃(k c nb cb:Nat) (ao ab:Option Addr) (p:Int) (pre:List (Int × Int)) (bb:List Int),lv=.slice ao k c/\pv=.int .i64 p/\kv=.int .u64 (k:Int)/\k<=H/\Hid (ArcsQ (i:Int) H b k p pre bb)/\Hid (Tk wr B tb bb ab nb cb)/\Hid (wr.ownsRow w.heap.size 95 2 (.slice ao k c) k (acells pre))/\Hid (w.grownBy wr (some tb))) (fun _ _ kv _=>H-(intOf kv).toNat)
 case atStart=>exact ⟨0,0,n,cap,none,a,-1,[],b,rfl,rfl,rfl,Nat.zero_le _,ArcsQ.start _ _ _,HT.out,World.ownsRow_nil _ _ _ _,World.grownBy.refl _ _⟩
 case round =>
  obtain ⟨k,c,nb,cb,ao,ab,p,pre,bb,rfl,rfl,rfl,hk,HI,HX,HOW,HG⟩:=hrel;by_cases hlt:k<H
  ·have hki:(k:Int)<(H:Int):=by omega
   have hk9:k<=200000000000:=by have:=HI.out.2.2.1;have:=HBL.out;omega
   have HCT:=hdq (dv B tb ab nb cb bb wr HX.out);go_wp2_with fail;refine HCT.out.mono ?_;rintro e w3 ⟨(⟨hr,rfl⟩|⟨s,r,a3,n3,c3,hr,rfl,ht3⟩),hg⟩
   ·exact ⟨rfl,.inl ⟨HI.out.none hlt (.inl hr),rfl⟩,aj HG.out hg⟩
   ·have HR:=hdq hr;have T3:=hdq ht3;have G3:Hid (w.grownBy w3 (some tb)):=aj HG.out hg;have O3:Hid (w3.ownsRow w.heap.size 95 2 (.slice ao k c) k (acells pre)):=HOW.out.kept hg (qk HOW.out HTB.out);obtain ⟨S,hS⟩:∃S,wrap64 (wrap64 (wrap64 (s:Int)+p)+1)=S:=⟨_,rfl⟩;have HS:Hid (S=Img.sg s p):=by show _=_;rw [<-hS,adu]
    have HCT2:=hdq (dv B tb a3 n3 c3 r w3 ht3);clear hr ht3 hg HCT;go_wp2_with fail;refine HCT2.out.mono ?_;rintro e w4 ⟨(⟨hr,rfl⟩|⟨t,q,a4,n4,c4,hr,rfl,ht4⟩),hg⟩
    ·exact ⟨rfl,.inl ⟨HI.out.none hlt (.inr ⟨s,r,HR.out,hr⟩),rfl⟩,aj G3.out hg⟩
    ·obtain ⟨T,hT⟩:∃T,wrap64 (wrap64 (wrap64 (t:Int)+(i:Int))+1)=T:=⟨_,rfl⟩;have hTS:T=Img.sg t (i:Int):=by rw [<-hT,adu]
     have hnx:=HI.out.next hlt HR.out hr
     rw [<-HS.out,<-hTS] at hnx;have HNX:=hdq hnx;have T4:=hdq ht4;have G4:Hid (w.grownBy w4 (some tb)):=aj G3.out hg;have O4:Hid (w4.ownsRow w.heap.size 95 2 (.slice ao k c) k (acells pre)):=O3.out.kept hg (qk O3.out HTB.out);have Z4:Hid (w.heap.size<=w4.heap.size):=G4.out.size;clear hr ht4 hg HCT2 hTS hnx;go_wp2_with (at_builtin;refine zl (by rfl) (.tmp 26) (.tmp 30) (by rfl) w.heap.size _ k pre (by rfl) (af O4.out ((Below.refl w4.heap.size w4).alloc lrf _) lrf) w4.heap.size (S,T) (by rfl) (jz w4 _ _ _ _).1 (jz w4 _ _ _ _).2 (k+1) rfl (by omega) (by have:=Z4.out;simp;omega) ?_;intro a5 c5 w5 hown5 hb5 hg5 hnil5;have O5:=hdq hown5;have B5:Hid (Below w.heap.size w4 w5):=hdq (((Below.refl _ w4).alloc Z4.out _).trans hb5);clear hown5 hb5 hg5 hnil5)
     go_roundw
     case rel=>exact ⟨k+1,c5,n4,c4,a5,a4,S,pre++[(S,T)],q,rfl,rfl,by go_num,by omega,HNX.out,T4.out.below B5.out HTB.out,O5.out,gm G4.out B5.out⟩
     case measure=>simp [intOf];omega
  ·obtain rfl:k=H:=by omega
   have HF:=hdq HI.out.done;go_wp2;go_ret;exact ⟨.inr ⟨pre,bb,_,_,_,_,_,_,HF.out,rfl,Ars.of_owns HOW.out HI.out.2.1 HI.out.1,High.of_owns HOW.out,Front.of_owns HOW.out,HX.out⟩,HG.out⟩

end
section
open Go.RowKit

def ArcsAt (i:Int) (H:Nat) (b0:List Int) (k:Nat) (p:Int) (pre:List (Int × Int)) (bb:List Int) (ok:Bool):Prop :=
 pre.length=k/\(-1<=p/\p<=2000001*(k:Int))/\(∀z∈pre,(0<=z.1/\z.1<=2000001*(k:Int))/\(i<z.2/\z.2<=i+2000001))/\Img.dArcs i H (-1) b0=if ok=true then (pre++(Img.dArcs i (H-k) p bb).1,(Img.dArcs i (H-k) p bb).2.1,(Img.dArcs i (H-k) p bb).2.2) else (pre,bb,false)
theorem ArcsAt.next {i:Int} {H:Nat} {b0:List Int} {k:Nat} {p:Int} {pre:List (Int × Int)} {bb:List Int} (h:ArcsAt i H b0 k p pre bb true) (hk:k<H) :
 ArcsAt i H b0 (k+1) (p+1+((Img.dTake bb).1:Int)) (pre++[(p+1+((Img.dTake bb).1:Int),i+1+((Img.dTake (Img.dTake bb).2.1).1:Int))]) (Img.dTake (Img.dTake bb).2.1).2.1 ((Img.dTake bb).2.2&&(Img.dTake (Img.dTake bb).2.1).2.2):=by
 obtain ⟨h1,h2,h3,h4⟩:=h;have e1:=Img.yw bb;have e2:=Img.yw (Img.dTake bb).2.1;refine ⟨by simp [h1],by omega,?_,?_⟩
 ·intro z hz;rcases map1 hz with hz|hz
  ·have:=h3 z hz;omega
  ·simp only [List.mem_singleton] at hz;subst hz;simp only;omega
 ·rw [h4,if_pos rfl,show H-k=(H-(k+1))+1 from by omega,Img.dArcs]
  cases (Img.dTake bb).2.2<;>cases (Img.dTake (Img.dTake bb).2.1).2.2<;>simp
theorem ArcsAt.done {i:Int} {H:Nat} {b0:List Int} {k:Nat} {p:Int} {pre:List (Int × Int)} {bb:List Int} {ok:Bool} (h:ArcsAt i H b0 k p pre bb ok) (hk:k=H\/ok=false):Img.dArcs i H (-1) b0=(pre,bb,ok):=by
 obtain ⟨h1,h2,h3,h4⟩:=h;rw [h4]
 cases ok with
 | false=>rfl
 | true =>
   rcases hk with rfl|hk
   ·rw [if_pos rfl,Nat.sub_self,Img.dArcs];simp
   ·cases hk

end
section
open Go.RowKit

def Cw.High (E:Nat) (c:Cw):Prop:=Go.Proofs.YtkiamgcpcneggaaGreat.High E c.a c.n/\∀x∈c.xs,Go.Proofs.YtkiamgcpcneggaaGreat.High E x.la x.ln/\Go.Proofs.YtkiamgcpcneggaaGreat.High E x.ra x.rn
theorem Rs.high {w w':World} {a:Option Addr} {n cap B:Nat} {xs:List Rw} (h:Rs w a n cap xs) (hh:Go.Proofs.YtkiamgcpcneggaaGreat.High B a n) (hx:∀x∈xs,Go.Proofs.YtkiamgcpcneggaaGreat.High B x.la x.ln/\Go.Proofs.YtkiamgcpcneggaaGreat.High B x.ra x.rn) (hc:∀b,B<=b->b<w.heap.size->w'.heap[b]?=w.heap[b]?):Rs w' a n cap xs:=by
 obtain ⟨h1,h2,h3,h4,h5⟩:=h;refine ⟨h1,h2,h3,fun x hxx=>⟨(h4 x hxx).1.high (hx x hxx).1 hc,(h4 x hxx).2.1.high (hx x hxx).2 hc,(h4 x hxx).2.2⟩,?_⟩;rcases h5 with h5|⟨b,off,ha,hcell⟩
 ·exact .inl h5
 ·rcases Nat.eq_zero_or_pos n with h0|hp
  ·exact .inl h0
  ·refine .inr ⟨b,off,ha,fun i hi=>?_⟩;rcases hh with hh|⟨b',o',hb',hB⟩
   ·omega
   ·rw [ha] at hb';cases hb';obtain ⟨e1,e2,e3⟩:=hcell i hi;have hlt:=ay e1;refine ⟨?_,?_,?_⟩
    ·rw [World.cell?] at e1 ⊢;rw [hc b hB hlt];exact e1
    ·rw [World.cell?] at e2 ⊢;rw [hc b hB hlt];exact e2
    ·rw [World.cell?] at e3 ⊢;rw [hc b hB hlt];exact e3
theorem Cw.Good.high {w w':World} {c:Cw} {B:Nat} (h:c.Good w) (hh:c.High B) (hc:∀b,B<=b->b<w.heap.size->w'.heap[b]?=w.heap[b]?):c.Good w':=⟨h.1.high hh.1 hh.2 hc,h.2⟩

def RulesAt (N:Nat) (b0:List Int) (k:Nat) (pre:List Rul) (bb:List Int) (ok:Bool):Prop :=
 pre.length=k/\Img.dRules N b0=if ok=true then (pre++(Img.dRules (N-k) bb).1,(Img.dRules (N-k) bb).2.1,(Img.dRules (N-k) bb).2.2) else (pre,bb,false)
theorem RulesAt.next {N:Nat} {b0:List Int} {k:Nat} {pre:List Rul} {bb:List Int} (h:RulesAt N b0 k pre bb true) (hk:k<N):RulesAt N b0 (k+1) (pre++[(Img.dRule bb).1]) (Img.dRule bb).2.1 (Img.dRule bb).2.2:=by
 obtain ⟨h1,h2⟩:=h;refine ⟨by simp [h1],?_⟩
 rw [h2,if_pos rfl,show N-k=(N-(k+1))+1 from by omega,Img.dRules]
 cases (Img.dRule bb).2.2<;>simp
theorem RulesAt.done {N:Nat} {b0:List Int} {k:Nat} {pre:List Rul} {bb:List Int} {ok:Bool} (h:RulesAt N b0 k pre bb ok) (hk:k=N\/ok=false):Img.dRules N b0=(pre,bb,ok):=by
 obtain ⟨h1,h2⟩:=h;rw [h2]
 cases ok with
 | false=>rfl
 | true =>
   rcases hk with rfl|hk
   ·rw [if_pos rfl,Nat.sub_self,Img.dRules];simp
   ·cases hk
theorem aix {w:World} {B:Nat} {T:TypeId} {v:Value} {n:Nat} {xs:List Rw} (h:w.ownsRow B T 3 v n (rcells xs)):∀b,v.ownBlock=some b->xs≠[]->∀z:Int,w.cell? ⟨b,0,none⟩≠some (.int .i64 z):=by
 intro b hb hne z;rcases h.2 with ⟨rfl,_⟩|⟨g,c,cur,rfl,_⟩
 ·cases hb
 ·have:g=b:=by simpa [Value.ownBlock] using hb
  subst this
  cases xs with
  | nil=>exact absurd rfl hne
  | cons x xs =>
    have hl:=h.1;rw [dz,List.length_cons] at hl;rw [h.cellAt 0 (by omega)]
    simp [rcells,Rw.cells,Rw.l]
theorem yy:(Tryz.prog.info? 26).map (·.size)=some 5:=by kernel_rfl

end
section
theorem z47 {P:Prop} (h:P:=by
 rcases Nat.eq_zero_or_pos n with h0|hp
 ·exact .inl h0
 ·refine .inr ⟨b,off,ha,fun i hi=>?_⟩;rcases hh with hh|⟨b',o',hb',hB⟩
  ·omega
  ·rw [ha] at hb';cases hb';obtain ⟨e1,e2⟩:=hcell i hi;have hlt:=ay e1;refine ⟨?_,?_⟩
   ·rw [World.cell?] at e1 ⊢;rw [hc b hB hlt];exact e1
   ·rw [World.cell?] at e2 ⊢;rw [hc b hB hlt];exact e2):P:=h
open Go.RowKit

namespace Img
theorem aup {M:Nat} {b r:List Int} {n:Nat} (h:take M b=some (n,r)):r.length<b.length:=by
 rw [take] at h;split at h
 ·rename_i n' r' h1;split at h
  ·cases h;have:=(Var.dr h1).1;have hp:=Var.kr n;rw [this,List.length_append];omega
  ·cases h
 ·cases h
end Img

theorem Ars.high {w w':World} {a:Option Addr} {n cap B:Nat} {l:List (Int × Int)} (h:Ars w a n cap l) (hh:High B a n) (hc:∀b,B<=b->b<w.heap.size->w'.heap[b]?=w.heap[b]?):Ars w' a n cap l:=by
 obtain ⟨h1,h2,h3,h4,h5⟩:=h;refine ⟨h1,h2,h3,h4,?_⟩;rcases h5 with h5|⟨b,off,ha,hcell⟩
 ·exact .inl h5
 ·exact z47
theorem Sw.Good.high {w w':World} {x:Sw} {B:Nat} (h:x.Good w) (hh:High B x.a x.n) (hc:∀b,B<=b->b<w.heap.size->w'.heap[b]?=w.heap[b]?):x.Good w':=Ars.high h hh hc
theorem Ss.high {w w':World} {a:Option Addr} {n cap B:Nat} {xs:List Sw} (h:Ss w a n cap xs) (hh:High B a n) (hx:∀x∈xs,High B x.a x.n) (hc:∀b,B<=b->b<w.heap.size->w'.heap[b]?=w.heap[b]?):Ss w' a n cap xs:=by
 obtain ⟨h1,h2,h3,h4,h5⟩:=h;refine ⟨h1,h2,h3,fun x hxx=>(h4 x hxx).high (hx x hxx) hc,?_⟩;rcases h5 with h5|⟨b,off,ha,hcell⟩
 ·exact .inl h5
 ·exact z47

def StatesAt (N:Nat) (b0:List Int) (k:Nat) (pre:List Tri.St) (bb:List Int) (ok:Bool):Prop :=
 pre.length=k/\Img.dStates N 0 b0=if ok=true then (pre++(Img.dStates (N-k) (k:Int) bb).1,(Img.dStates (N-k) (k:Int) bb).2.1,(Img.dStates (N-k) (k:Int) bb).2.2) else (pre,bb,false)
theorem StatesAt.next {N:Nat} {b0:List Int} {k:Nat} {pre:List Tri.St} {bb:List Int} (h:StatesAt N b0 k pre bb true) (hk:k<N):StatesAt N b0 (k+1) (pre++[(Img.dState (k:Int) bb).1]) (Img.dState (k:Int) bb).2.1 (Img.dState (k:Int) bb).2.2:=by
 obtain ⟨h1,h2⟩:=h;refine ⟨by simp [h1],?_⟩
 rw [h2,if_pos rfl,show N-k=(N-(k+1))+1 from by omega,Img.dStates,Int.natCast_add,Int.natCast_one]
 cases (Img.dState (k:Int) bb).2.2<;>simp
theorem StatesAt.done {N:Nat} {b0:List Int} {k:Nat} {pre:List Tri.St} {bb:List Int} {ok:Bool} (h:StatesAt N b0 k pre bb ok) (hk:k=N\/ok=false):Img.dStates N 0 b0=(pre,bb,ok):=by
 obtain ⟨h1,h2⟩:=h;rw [h2]
 cases ok with
 | false=>rfl
 | true =>
   rcases hk with rfl|hk
   ·rw [if_pos rfl,Nat.sub_self,Img.dStates];simp
   ·cases hk

end
section
open Go.RowKit

theorem ei {w w':World} {tb E:Nat} (h:w.grownBy w' (some tb)) (ht:tb<E):∀b,E<=b->b<w.heap.size->w'.heap[b]?=w.heap[b]? :=
 fun b hb hlt=>h.block b hlt (by simp;omega)
theorem yz {w w':World} {E:Nat} {r:Option Nat} (h:w.grownBy w' r) (ht:∀g,r=some g->g<E):∀b,E<=b->b<w.heap.size->w'.heap[b]?=w.heap[b]? :=
 fun b hb hlt=>h.block b hlt (fun e=>by have:=ht b e.symm;omega)

def StatesP (B tb E:Nat) (w':World) (e:Ending) (r:Option (List Tri.St × List Int)):Prop :=
 (r=none/\e=.panicked formPanic)\/∃xs l sa sn sc a n c,r=some (sts xs,l)/\e=.returned (.slice sa sn sc)/\Ss w' sa sn sc xs/\High E sa sn/\(∀x∈xs,High E x.a x.n)/\Tk w' B tb l a n c
def StatesQ (N:Nat) (b0:List Int) (k:Nat) (pre:List Tri.St) (bb:List Int):Prop :=
 pre.length=k/\bb.length<=b0.length/\Img.qStates N 0 b0=(Img.qStates (N-k) (k:Int) bb).map (fun x=>(pre++x.1,x.2))
theorem StatesQ.start (n:Nat) (b0:List Int):StatesQ n b0 0 [] b0:=by
 refine ⟨rfl,by omega,?_⟩
 rw [Nat.sub_zero,Int.natCast_zero];cases Img.qStates n 0 b0<;>simp
theorem adv (i:Int):∀(k:Nat) (p:Int) (b:List Int) (l:List (Int × Int)) (z:List Int),Img.qArcs i k p b=some (l,z)->z.length<=b.length
 | 0,p,b,l,z,h=>by rw [Img.qArcs] at h;cases h;exact Nat.le_refl _
 | k+1,p,b,l,z,h=>by
   rw [Img.qArcs] at h;split at h
   ·cases h
   ·rename_i s r h1;split at h
    ·cases h
    ·rename_i t q h2;split at h
     ·cases h
     ·rename_i l' z' h3;cases h;have:=adv i k _ _ _ _ h3;have:=Img.take_less h1;have:=Img.take_less h2;omega
theorem StatesQ.next {N:Nat} {b0:List Int} {k:Nat} {pre:List Tri.St} {bb r q:List Int} {x:Nat} {l:List (Int × Int)} (h:StatesQ N b0 k pre bb) (hk:k<N) (hx:Var.take bb=some (x,r)) (hl:Img.qArcs (k:Int) (x/2) (-1) r=some (l,q)) :
 StatesQ N b0 (k+1) (pre++[⟨decide (x%2=1),l⟩]) q:=by
 obtain ⟨h1,h2,h3⟩:=h;have e1:=Img.take_less hx;have e2:=adv _ _ _ _ _ _ hl;refine ⟨by simp [h1],by omega,?_⟩
 rw [h3,show N-k=(N-(k+1))+1 from by omega,Img.qStates,Img.qState,hx]
 simp only;rw [hl];simp only;rw [Int.natCast_add,Int.natCast_one];cases Img.qStates (N-(k+1)) ((k:Int)+1) q<;>simp
theorem StatesQ.none {N:Nat} {b0:List Int} {k:Nat} {pre:List Tri.St} {bb:List Int} (h:StatesQ N b0 k pre bb) (hk:k<N) (hs:Var.take bb=Option.none\/∃x r,Var.take bb=some (x,r)/\Img.qArcs (k:Int) (x/2) (-1) r=Option.none):Img.qStates N 0 b0=Option.none:=by
 obtain ⟨h1,h2,h3⟩:=h;rw [h3,show N-k=(N-(k+1))+1 from by omega,Img.qStates,Img.qState]
 rcases hs with hs|⟨x,r,hs,hl⟩
 ·rw [hs];rfl
 ·rw [hs];simp only;rw [hl];rfl
theorem StatesQ.done {N:Nat} {b0:List Int} {pre:List Tri.St} {bb:List Int} (h:StatesQ N b0 N pre bb):Img.qStates N 0 b0=some (pre,bb):=by
 obtain ⟨h1,h2,h3⟩:=h;rw [h3,Nat.sub_self,Img.qStates];simp

theorem aqv (B tb:Nat) (a:Option Addr) (n cap:Nat) (b:List Int) (w:World) (ht:Tk w B tb b a n cap) (hn:n<=200000000000) :
 Calls Tryz.prog 52 #[.pointer (some ⟨tb,0,none⟩)] w fun e w'=>StatesP B tb w.heap.size w' e (Img.qStatesOf b)/\w.grownBy w' (some tb):=by
 have HC:=hdq (yx 6001 (by omega) B tb a n cap b w ht)
 have HTB:=hdq ht.lt;have HBL:Hid (b.length<=200000000000):=by show _<=_;rw [ht.sl.1];exact hn
 clear ht hn;go_enter Tryz.func52,Tryz.ntmps52;go_wp2_with fail;refine HC.out.mono ?_;rintro e w1 ⟨(⟨hr,rfl⟩|⟨N,b0,a1,n1,c1,hr,rfl,ht1⟩),hg⟩
 ·exact ⟨rfl,.inl ⟨by rw [Img.qStatesOf,hr],rfl⟩,hg⟩
 ·have HQ:Hid (Img.qStatesOf b=Img.qStates N 0 b0):=by show _=_;rw [Img.qStatesOf,hr]
  have hN:=Img.take_le hr
  have HB0:Hid (b0.length<=200000000000):=by
   show _<=_;have h1:=Img.aup hr;have h2:=HBL.out;omega
  have T1:=hdq ht1;have G1:=hdq hg;clear hr ht1 hg HC;go_wp2;go_loopw [3,8] (fun lv kv wr=>∃(k c nb cb:Nat) (ao ab:Option Addr) (outs:List Sw) (bb:List Int),lv=.slice ao k c/\kv=.int .i64 (k:Int)/\k<=N/\Hid (StatesQ N b0 k (sts outs) bb)/\Hid (Tk wr B tb bb ab nb cb)/\Hid (wr.ownsRow w.heap.size 58 2 (.slice ao k c) k (scells outs))/\Hid (∀x∈outs,x.Good wr/\x.Front/\High w.heap.size x.a x.n)/\Hid (w.grownBy wr (some tb))) (fun _ kv _=>N-(intOf kv).toNat)
  case atStart=>exact ⟨0,0,n1,c1,none,a1,[],b0,rfl,rfl,Nat.zero_le _,StatesQ.start _ _,T1.out,World.ownsRow_nil _ _ _ _,by first|exact (trivial:True)|(intro z hz;simp at hz),G1.out⟩
  case round =>
   obtain ⟨k,c,nb,cb,ao,ab,outs,bb,rfl,rfl,hk,HI,HX,HOW,HEL,HG⟩:=hrel;by_cases hlt:k<N
   ·have hki:(k:Int)<(N:Int):=by omega
    have HCT:=hdq (dv B tb ab nb cb bb wr HX.out);go_wp2_with fail;refine HCT.out.mono ?_;rintro e w3 ⟨(⟨hr,rfl⟩|⟨x,r,a3,n3,c3,hr,rfl,ht3⟩),hg⟩
    ·exact ⟨rfl,.inl ⟨by rw [HQ.out];exact HI.out.none hlt (.inl hr),rfl⟩,aj HG.out hg⟩
    ·have HR:=hdq hr;have hx64:=(Var.dr hr).2;have T3:=hdq ht3;have G3:Hid (w.grownBy w3 (some tb)):=aj HG.out hg;have O3:Hid (w3.ownsRow w.heap.size 58 2 (.slice ao k c) k (scells outs)):=HOW.out.kept hg (qk HOW.out HTB.out);have E3:Hid (∀x∈outs,x.Good w3/\x.Front/\High w.heap.size x.a x.n):=fun x hx=>⟨(HEL.out x hx).1.high (HEL.out x hx).2.2 (ei hg HTB.out),(HEL.out x hx).2⟩
     have hn3:n3<=200000000000:=by
      rw [<-ht3.sl.1];have h1:=Img.take_less hr;have h2:=HI.out.2.1;have h3:=HB0.out;omega
     obtain ⟨H,hH⟩:∃H,H=x/2:=⟨_,rfl⟩;have hH1:(x:Int)/2=(H:Int):=by rw [hH];omega
     have hH2:(x:Int).tdiv 2=(H:Int):=by rw [Int.tdiv_eq_ediv_of_nonneg (by omega)];exact hH1
     have hH9:H<=9223372036854775807:=by omega
     obtain ⟨R,hR⟩:∃R,R=x%2:=⟨_,rfl⟩;have hR1:(x:Int)%2=(R:Int):=by rw [hR];omega
     have hR2:(x:Int).tmod 2=(R:Int):=by rw [Int.tmod_eq_emod_of_nonneg (by omega)];exact hR1
     obtain ⟨f,hf⟩:∃f,((R:Int)==1)=f:=⟨_,rfl⟩
     have HF:Hid (f=decide (x%2=1)):=by
      show _=_;rw [<-hf,hR];by_cases h:x%2=1
      ·rw [h];rfl
      ·rw [show x%2=0 by omega];rfl
     have HCA:=hdq (axi B tb a3 n3 c3 r k H w3 ht3 hn3 hH9);have HH:=hdq hH;clear hr ht3 hg HCT hH hR;go_wp2_with fail;refine HCA.out.mono ?_;rintro e w4 ⟨(⟨hr,rfl⟩|⟨arcs,q,la,ln,lc,a4,n4,c4,hr,rfl,hars,hhi,hfr,ht4⟩),hg⟩
     ·exact ⟨rfl,.inl ⟨by rw [HQ.out];rw [HH.out] at hr;exact HI.out.none hlt (.inr ⟨x,r,HR.out,hr⟩),rfl⟩,aj G3.out hg⟩
     ·rw [HH.out] at hr;have hnx:=HI.out.next hlt HR.out hr
      rw [<-HF.out] at hnx;have HNX:Hid (StatesQ N b0 (k+1) (sts (outs++[⟨f,la,ln,lc,arcs⟩])) q):=by rw [abj];exact hnx
      have T4:=hdq ht4;have G4:Hid (w.grownBy w4 (some tb)):=aj G3.out hg;have O4:Hid (w4.ownsRow w.heap.size 58 2 (.slice ao k c) k (scells outs)):=O3.out.kept hg (qk O3.out HTB.out);have E4:Hid (∀x∈outs,x.Good w4/\x.Front/\High w.heap.size x.a x.n):=fun x hx=>⟨(E3.out x hx).1.high (E3.out x hx).2.2 (ei hg HTB.out),(E3.out x hx).2⟩;have Y4:Hid (Sw.Good w4 ⟨f,la,ln,lc,arcs⟩/\Sw.Front ⟨f,la,ln,lc,arcs⟩/\High w3.heap.size la ln):=⟨hars,hfr,hhi⟩;have L4:Hid (∀g,(Value.slice ao k c).ownBlock=some g->g<w3.heap.size):=fun g hg=>(O3.out.lt g hg).2;have Z4:Hid (w.heap.size<=w4.heap.size):=G4.out.size;have Z3:Hid (w.heap.size<=w3.heap.size):=G3.out.size;clear hr hars hhi hfr ht4 hg HCA hnx;go_wp2_with (at_builtin;refine mr (by rfl) (.tmp 13) (.tmp 23) (by rfl) w.heap.size _ k outs (by rfl) (af O4.out ((Below.refl w4.heap.size w4).alloc lrf _) lrf) w4.heap.size ⟨f,la,ln,lc,arcs⟩ (by rfl) (jz w4 _ _ _ _).1 (jz w4 _ _ _ _).2 (k+1) rfl (by omega) (by have:=Z4.out;simp;omega) ?_;intro a5 c5 w5 hown5 hb5 hg5 hnil5;have O5:=hdq hown5;have B5:Hid (Below w.heap.size w4 w5):=hdq (((Below.refl _ w4).alloc Z4.out _).trans hb5);have G5:=hdq hg5;clear hown5 hb5 hg5 hnil5)
      go_roundw
      case rel =>
       refine ⟨k+1,c5,n4,c4,a5,a4,outs++[Sw.mk f la ln lc arcs],q,rfl,by go_num,by omega,HNX.out,T4.out.below B5.out HTB.out,O5.out,?_,gm G4.out B5.out⟩
       intro y hy;rcases map1 hy with hy|hy
       ·obtain ⟨e1,e2,e3⟩:=E4.out y hy;exact ⟨(e1.alloc _).apart e2 G5.out (fun b hb=>akg (af O4.out ((Below.refl w4.heap.size w4).alloc lrf _) lrf) b hb (List.ne_nil_of_mem hy)),e2,e3⟩
       ·rw [msg hy];obtain ⟨e1,e2,e3⟩:=Y4.out;exact ⟨(e1.alloc _).high e3 (yz G5.out L4.out),e2,e3.mono Z3.out⟩
      case measure=>simp [intOf];omega
   ·obtain rfl:k=N:=by omega
    have HF:Hid (Img.qStatesOf b=some (sts outs,bb)):=by show _=_;rw [HQ.out];exact HI.out.done
    go_wp2;go_ret;exact ⟨.inr ⟨outs,bb,_,_,_,_,_,_,HF.out,rfl,Ss.of_owns HOW.out (fun x hx=>(HEL.out x hx).1) (by have h:=HI.out.1;rwa [ar] at h),High.of_owns HOW.out,fun x hx=>(HEL.out x hx).2.2,HX.out⟩,HG.out⟩

end
section
open Go.RowKit

theorem auq {b:List Int} (h1:Var.take b=none):Img.pFour 4 b=none:=by rw [Img.pFour,h1]
theorem aur {b b1:List Int} {m:Nat} (h1:Var.take b=some (m,b1)) (h2:Var.take b1=none):Img.pFour 4 b=none:=by
 rw [Img.pFour,h1];simp only;rw [Img.pFour,h2]
theorem aus {b b1 b2:List Int} {m l:Nat} (h1:Var.take b=some (m,b1)) (h2:Var.take b1=some (l,b2)) (h3:Var.take b2=none):Img.pFour 4 b=none:=by
 rw [Img.pFour,h1];simp only;rw [Img.pFour,h2];simp only;rw [Img.pFour,h3]
theorem aut {b b1 b2 b3:List Int} {m l o:Nat} (h1:Var.take b=some (m,b1)) (h2:Var.take b1=some (l,b2)) (h3:Var.take b2=some (o,b3)) (h4:Var.take b3=none):Img.pFour 4 b=none:=by
 rw [Img.pFour,h1];simp only;rw [Img.pFour,h2];simp only;rw [Img.pFour,h3];simp only;rw [Img.pFour,h4]
theorem aml {b b1 b2 b3 b4:List Int} {m l o t:Nat} (h1:Var.take b=some (m,b1)) (h2:Var.take b1=some (l,b2)) (h3:Var.take b2=some (o,b3)) (h4:Var.take b3=some (t,b4)):Img.pFour 4 b=some ([(m:Int),(l:Int),(o:Int),(t:Int)],b4):=by
 rw [Img.pFour,h1];simp only;rw [Img.pFour,h2];simp only;rw [Img.pFour,h3];simp only;rw [Img.pFour,h4];simp only;rw [Img.pFour]
theorem si {b:List Int} (h:Img.pFour 4 b=none):Img.qCosts b=none:=by rw [Img.qCosts,h]
theorem aqw {b b4 l:List Int} (h:Img.pFour 4 b=some (l,b4)) (h2:Img.take 200 b4=none):Img.qCosts b=none:=by rw [Img.qCosts,h];simp only;rw [h2]
theorem aqx {b b4 b5 l:List Int} {N:Nat} (h:Img.pFour 4 b=some (l,b4)) (h2:Img.take 200 b4=some (N,b5)):Img.qCosts b=(Img.qRules N b5).map (fun x=>(⟨l,x.1⟩,x.2)):=by
 rw [Img.qCosts,h];simp only;rw [h2];simp only;cases Img.qRules N b5<;>simp
theorem auu {b:List Int} (h1:Img.qSide b=none):Img.qRule b=none:=by rw [Img.qRule,h1]
theorem auv {b b1 L:List Int} (h1:Img.qSide b=some (L,b1)) (h2:Img.qSide b1=none):Img.qRule b=none:=by rw [Img.qRule,h1];simp only;rw [h2]
theorem auw {b b1 b2 L R:List Int} (h1:Img.qSide b=some (L,b1)) (h2:Img.qSide b1=some (R,b2)) (h3:Var.take b2=none):Img.qRule b=none:=by rw [Img.qRule,h1];simp only;rw [h2];simp only;rw [h3]
theorem sj {b b1 b2 b3 L R:List Int} {C:Nat} (h1:Img.qSide b=some (L,b1)) (h2:Img.qSide b1=some (R,b2)) (h3:Var.take b2=some (C,b3)):Img.qRule b=some (⟨L,R,(C:Int)⟩,b3):=by rw [Img.qRule,h1];simp only;rw [h2];simp only;rw [h3]
def RulesQ (N:Nat) (b0:List Int) (k:Nat) (pre:List Rul) (bb:List Int):Prop :=
 pre.length=k/\Img.qRules N b0=(Img.qRules (N-k) bb).map (fun x=>(pre++x.1,x.2))
theorem RulesQ.start (n:Nat) (b0:List Int):RulesQ n b0 0 [] b0:=by
 refine ⟨rfl,?_⟩;rw [Nat.sub_zero];cases Img.qRules n b0<;>simp
theorem RulesQ.next {N:Nat} {b0:List Int} {k:Nat} {pre:List Rul} {bb q:List Int} {x:Rul} (h:RulesQ N b0 k pre bb) (hk:k<N) (hx:Img.qRule bb=some (x,q)):RulesQ N b0 (k+1) (pre++[x]) q:=by
 obtain ⟨h1,h2⟩:=h;refine ⟨by simp [h1],?_⟩
 rw [h2,show N-k=(N-(k+1))+1 from by omega,Img.qRules,hx]
 simp only;cases Img.qRules (N-(k+1)) q<;>simp
theorem RulesQ.none {N:Nat} {b0:List Int} {k:Nat} {pre:List Rul} {bb:List Int} (h:RulesQ N b0 k pre bb) (hk:k<N) (hx:Img.qRule bb=Option.none):Img.qRules N b0=Option.none:=by
 obtain ⟨h1,h2⟩:=h;rw [h2,show N-k=(N-(k+1))+1 from by omega,Img.qRules,hx]
 rfl
theorem RulesQ.done {N:Nat} {b0:List Int} {pre:List Rul} {bb:List Int} (h:RulesQ N b0 N pre bb):Img.qRules N b0=some (pre,bb):=by
 obtain ⟨h1,h2⟩:=h;rw [h2,Nat.sub_self,Img.qRules];simp

def costZero:Array Value:=#[Value.int .u64 0,Value.int .u64 0,Value.int .u64 0,Value.int .u64 0,Value.slice none 0 0]
theorem Rw.Good.high {w w':World} {x:Rw} {B:Nat} (h:x.Good w) (hh:High B x.la x.ln/\High B x.ra x.rn) (hc:∀b,B<=b->b<w.heap.size->w'.heap[b]?=w.heap[b]?):x.Good w':=⟨h.1.high hh.1 hc,h.2.1.high hh.2 hc,h.2.2⟩
theorem Rw.Good.apart {w w':World} {x:Rw} {k:Option Nat} (h:x.Good w) (hf:Front x.la x.ln/\Front x.ra x.rn) (hg:w.grownBy w' k) (hk:∀b,k=some b->∀z:Int,w.cell? ⟨b,0,none⟩≠some (.int .i64 z)):x.Good w':=⟨h.1.apart hf.1 hg hk,h.2.1.apart hf.2 hg hk,h.2.2⟩
structure Ck (W:World) (B tb r0 cb:Nat) (bb:List Int) (ab:Option Addr) (nb cbp:Nat) (m l o t:Nat) (ao:Option Addr) (k c:Nat) (outs:List Rw):Prop where
 tk:Tk W B tb bb ab nb cbp
 ord:tb<r0/\r0<cb/\cb<W.heap.size
 zero:W.heap[r0]?=some (.cells costZero 26 (0,0))
 box:W.heap[cb]?=some (.cells #[.int .u64 (m:Int),.int .u64 (l:Int),.int .u64 (o:Int),.int .u64 (t:Int),.slice ao k c] 26 (0,0))
 row:W.ownsRow (cb+1) 74 3 (.slice ao k c) k (rcells outs)
 els:∀x∈outs,x.Good W/\(Front x.la x.ln/\Front x.ra x.rn)/\(High (cb+1) x.la x.ln/\High (cb+1) x.ra x.rn)
theorem Ck.cell {W:World} {B tb r0 cb:Nat} {bb:List Int} {ab:Option Addr} {nb cbp m l o t:Nat} {ao:Option Addr} {k c:Nat} {outs:List Rw} (h:Ck W B tb r0 cb bb ab nb cbp m l o t ao k c outs):W.cell? ⟨cb,4,none⟩=some (.slice ao k c):=by
 rw [cell_of_row W cb 4 _ _ _ h.box];rfl
theorem Ck.frozen {W:World} {B tb r0 cb:Nat} {bb:List Int} {ab:Option Addr} {nb cbp m l o t:Nat} {ao:Option Addr} {k c:Nat} {outs:List Rw} (h:Ck W B tb r0 cb bb ab nb cbp m l o t ao k c outs):W.frozen? ⟨cb,4,none⟩=false:=by
 have hb:=h.box;simp [World.frozen?,hb]
theorem Ck.len {W:World} {B tb r0 cb:Nat} {bb:List Int} {ab:Option Addr} {nb cbp m l o t:Nat} {ao:Option Addr} {k c:Nat} {outs:List Rw} (h:Ck W B tb r0 cb bb ab nb cbp m l o t ao k c outs):outs.length=k:=by
 have:=h.row.1;rw [dz] at this;omega
theorem Ck.drew {W:World} {B tb r0 cb:Nat} {bb:List Int} {ab:Option Addr} {nb cbp m l o t:Nat} {ao:Option Addr} {k c:Nat} {outs:List Rw} (h:Ck W B tb r0 cb bb ab nb cbp m l o t ao k c outs):Ck W.drew B tb r0 cb bb ab nb cbp m l o t ao k c outs :=
 ⟨⟨h.tk.box,h.tk.sl.drew,h.tk.low,h.tk.le⟩,h.ord,h.zero,h.box,h.row,h.els⟩
theorem Ck.grown {W W':World} {B tb r0 cb:Nat} {bb bb':List Int} {ab ab':Option Addr} {nb nb' cbp cbp' m l o t:Nat} {ao:Option Addr} {k c:Nat} {outs:List Rw} (h:Ck W B tb r0 cb bb ab nb cbp m l o t ao k c outs) (hg:W.grownBy W' (some tb)) (ht:Tk W' B tb bb' ab' nb' cbp') :
 Ck W' B tb r0 cb bb' ab' nb' cbp' m l o t ao k c outs:=by
 obtain ⟨o1,o2,o3⟩:=h.ord;refine ⟨ht,⟨o1,o2,Nat.lt_of_lt_of_le o3 hg.size⟩,(hg.block _ (by omega) (by simp;omega)).trans h.zero,(hg.block _ o3 (by simp;omega)).trans h.box,h.row.kept hg (qk h.row (by omega)),fun x hx=>?_⟩
 obtain ⟨e1,e2,e3⟩:=h.els x hx;exact ⟨e1.high e3 (ei hg (by omega)),e2,e3⟩
theorem Ck.push {W w9:World} {B tb r0 cb:Nat} {bb:List Int} {ab:Option Addr} {nb cbp m l o t:Nat} {ao a9:Option Addr} {k c c9 X:Nat} {outs:List Rw} {y:Rw} {ob:Obj} (h:Ck W B tb r0 cb bb ab nb cbp m l o t ao k c outs)
 (hy:y.Good W/\(Front y.la y.ln/\Front y.ra y.rn)/\(High X y.la y.ln/\High X y.ra y.rn)) (hX:cb+1<=X) (hown:∀g,(Value.slice ao k c).ownBlock=some g->g<X)
 (hrow:w9.ownsRow (cb+1) 74 3 (.slice a9 (k+1) c9) (k+1) (rcells (outs++[y]))) (hb:Below (cb+1) W w9) (hg:(W.alloc ob).grownBy w9 (Value.slice ao k c).ownBlock) :
 Ck (w9.setCell ⟨cb,4,none⟩ (.slice a9 (k+1) c9)) B tb r0 cb bb ab nb cbp m l o t a9 (k+1) c9 (outs++[y]):=by
 obtain ⟨o1,o2,o3⟩:=h.ord;have hbx:w9.heap[cb]?=_:=(hb.block cb (by omega)).trans h.box
 have hset:∀b,cb+1<=b->b<w9.heap.size->(w9.setCell ⟨cb,4,none⟩ (.slice a9 (k+1) c9)).heap[b]?=w9.heap[b]?:=fun b' h1 _=>heap_setCell_other _ _ _ _ (by show b'≠cb;omega)
 refine ⟨h.tk.keep (fun i hi=>by rw [heap_setCell_other _ _ _ _ (by show i≠cb;omega)];exact hb.block i (by omega)),⟨o1,o2,by have:=hb.size;simp;omega⟩,?_,?_,ownsRow_setCell_below (a:=⟨cb,4,none⟩) hrow (by show cb<cb+1;omega) _,?_⟩
 ·rw [heap_setCell_other _ _ _ _ (by show r0≠cb;omega)]
  exact (hb.block r0 (by omega)).trans h.zero
 ·rw [heap_setCell_same _ _ _ _ _ _ hbx];rfl
 ·intro x hx;rcases map1 hx with hx|hx
  ·obtain ⟨e1,e2,e3⟩:=h.els x hx;have hr:(W.alloc ob).ownsRow (cb+1) 74 3 (.slice ao k c) k (rcells outs):=af h.row ((Below.refl W.heap.size W).alloc lrf _) lrf;exact ⟨((e1.alloc ob).apart e2 hg (fun b' hb'=>aix hr b' hb' (List.ne_nil_of_mem hx))).high e3 hset,e2,e3⟩
  ·rw [msg hx];obtain ⟨e1,e2,e3⟩:=hy;have e4:High (cb+1) y.la y.ln/\High (cb+1) y.ra y.rn:=⟨e3.1.mono hX,e3.2.mono hX⟩;exact ⟨((e1.alloc ob).high e3 (yz hg hown)).high e4 hset,e2,e4⟩
def CostsP (B tb E:Nat) (w':World) (e:Ending) (r:Option (File.Cst × List Int)):Prop :=
 (r=none/\e=.panicked formPanic)\/∃(c:Cw) (l:List Int) (a:Option Addr) (n cap:Nat),r=some (c.c,l)/\e=.returned c.v/\c.Good w'/\c.High E/\Tk w' B tb l a n cap

end
section
theorem z48 {P:Prop} (h:P:=by
 rw [((Below.refl w9.heap.size w9).alloc lrf _).cell (p:=⟨w4.heap.size,4,none⟩) (by show w4.heap.size<w9.heap.size;exact Z9.out)];exact hx9):P:=h
theorem z49 {P:Prop} (h:P:=by
 exact ⟨rfl,.inl ⟨by rw [HQ.out,HI.out.none hlt (auw R7.out R8.out hr)];rfl,rfl⟩,aj G8.out hg⟩):P:=h
theorem z50 {P:Prop} (h:P:=by
 exact ⟨rfl,.inl ⟨by rw [HQ.out,HI.out.none hlt (auv R7.out hr)];rfl,rfl⟩,aj G7.out hg⟩):P:=h
theorem z51 {P:Prop} (h:P:=by
 exact ⟨rfl,.inl ⟨by rw [HQ.out,HI.out.none hlt (auu hr)];rfl,rfl⟩,aj GD.out hg⟩):P:=h
open Go.RowKit

theorem jc (w:World) (p:Addr) (v:Value):w.grownBy (w.setCell p v) (some p.block):=⟨rfl,rfl,rfl,by simp,fun k _ hk=>heap_setCell_other _ _ _ _ (fun e=>hk (by rw [e]))⟩

theorem aux (B tb:Nat) (a:Option Addr) (n cap:Nat) (b:List Int) (w:World) (ht:Tk w B tb b a n cap) :
 Calls Tryz.prog 53 #[.pointer (some ⟨tb,0,none⟩)] w fun e w'=>CostsP B tb w.heap.size w' e (Img.qCosts b)/\w.grownBy w' (some tb):=by
 have hmx:Tryz.prog.follows .mixedOrders=true:=by kernel_rfl
 have HTB:=hdq ht.lt;have HC1:=hdq (dv B tb a n cap b (w.alloc (.cells costZero 26)) (ht.below ((Below.refl _ w).alloc lrf _) ht.lt));have G0:Hid (w.grownBy (w.alloc (.cells costZero 26)) (some tb)):=World.grownBy_alloc w _ _;have Q0:Hid ((w.alloc (.cells costZero 26)).heap[w.heap.size]?=some (.cells costZero 26 (0,0))):=han w _;clear ht;go_enter Tryz.func53,Tryz.ntmps53;go_wp2_with fail;refine HC1.out.mono ?_;rintro e w1 ⟨(⟨hr,rfl⟩|⟨m,b1,a1,n1,c1,hr,rfl,ht1⟩),hg⟩
 ·exact ⟨rfl,.inl ⟨si (auq  hr),rfl⟩,aj G0.out hg⟩
 have R1:=hdq hr;have hm9:=(Var.dr hr).2;have T1:=hdq ht1;have G1:Hid (w.grownBy w1 (some tb)):=aj G0.out hg;have Q1:Hid (w1.heap[w.heap.size]?=some (.cells costZero 26 (0,0))):=(hg.block _ (by simp) (by have:=HTB.out;simp;omega)).trans Q0.out
 clear hr ht1 hg HC1;have HC2:=hdq (dv B tb a1 n1 c1 b1 w1 T1.out);go_wp2_with fail;refine HC2.out.mono ?_;rintro e w2 ⟨(⟨hr,rfl⟩|⟨l,b2,a2,n2,c2,hr,rfl,ht2⟩),hg⟩
 ·exact ⟨rfl,.inl ⟨si (aur R1.out hr),rfl⟩,aj G1.out hg⟩
 have R2:=hdq hr;have hl9:=(Var.dr hr).2;have T2:=hdq ht2;have G2:Hid (w.grownBy w2 (some tb)):=aj G1.out hg;have Q2:Hid (w2.heap[w.heap.size]?=some (.cells costZero 26 (0,0))):=(hg.block _ (by have:=Q1.out;exact (hltq this)) (by have:=HTB.out;simp;omega)).trans Q1.out
 clear hr ht2 hg HC2;have HC3:=hdq (dv B tb a2 n2 c2 b2 w2 T2.out);go_wp2_with fail;refine HC3.out.mono ?_;rintro e w3 ⟨(⟨hr,rfl⟩|⟨o,b3,a3,n3,c3,hr,rfl,ht3⟩),hg⟩
 ·exact ⟨rfl,.inl ⟨si (aus R1.out R2.out hr),rfl⟩,aj G2.out hg⟩
 have R3:=hdq hr;have ho9:=(Var.dr hr).2;have T3:=hdq ht3;have G3:Hid (w.grownBy w3 (some tb)):=aj G2.out hg;have Q3:Hid (w3.heap[w.heap.size]?=some (.cells costZero 26 (0,0))):=(hg.block _ (by have:=Q2.out;exact (hltq this)) (by have:=HTB.out;simp;omega)).trans Q2.out
 clear hr ht3 hg HC3;have HC4:=hdq (dv B tb a3 n3 c3 b3 w3 T3.out);go_wp2_with fail;refine HC4.out.mono ?_;rintro e w4 ⟨(⟨hr,rfl⟩|⟨t,b4,a4,n4,c4,hr,rfl,ht4⟩),hg⟩
 ·exact ⟨rfl,.inl ⟨si (aut R1.out R2.out R3.out hr),rfl⟩,aj G3.out hg⟩
 have R4:=hdq hr;have ht9:=(Var.dr hr).2;have T4:=hdq ht4;have G4:Hid (w.grownBy w4 (some tb)):=aj G3.out hg;have Q4:Hid (w4.heap[w.heap.size]?=some (.cells costZero 26 (0,0))):=(hg.block _ (by have:=Q3.out;exact (hltq this)) (by have:=HTB.out;simp;omega)).trans Q3.out
 clear hr ht4 hg HC4;have HF4:=hdq (aml R1.out R2.out R3.out R4.out);clear R1 R2 R3 R4 T1 T2 T3 G1 G2 G3 G0 Q0 Q1 Q2 Q3;obtain ⟨W5,hW5⟩:∃W5,W5=w4.alloc (.cells #[.int .u64 (m:Int),.int .u64 (l:Int),.int .u64 (o:Int),.int .u64 (t:Int),.slice none 0 0] 26):=⟨_,rfl⟩;have Z4:Hid (w.heap.size<w4.heap.size):=(hltq Q4.out);have T5:Hid (Tk W5 B tb b4 a4 n4 c4):=by rw [hW5];exact T4.out.below ((Below.refl _ w4).alloc lrf _) T4.out.lt
 have K5:Hid (Ck W5 B tb w.heap.size w4.heap.size b4 a4 n4 c4 m l o t none 0 0 []):=by
  refine ⟨T5.out,⟨HTB.out,Z4.out,by rw [hW5];simp⟩,?_,?_,pp _ _,by intro x hx;cases hx⟩
  ·rw [hW5,heap_alloc_old _ _ Z4.out];exact Q4.out
  ·rw [hW5];exact han _ _
 have G5:Hid (w.grownBy W5 (some tb)):=by rw [hW5];exact aiw G4.out _
 have HC5:=hdq (yx 200 (by omega) B tb a4 n4 c4 b4 W5 T5.out)
 rw [hW5] at HC5;have HW5:=hdq hW5;clear T4 T5 G4 Q4 hW5;go_wp2_with fail;refine HC5.out.mono ?_;rintro e w6 ⟨(⟨hr,rfl⟩|⟨N,b5,a5,n5,c5,hr,rfl,ht5⟩),hg⟩
 ·rw [<-HW5.out] at hg;exact ⟨rfl,.inl ⟨aqw HF4.out hr,rfl⟩,aj G5.out hg⟩
 rw [<-HW5.out] at hg;have hN:=Img.take_le hr;have HQ:=hdq (aqx HF4.out hr);have G6:Hid (w.grownBy w6 (some tb)):=aj G5.out hg;have K6:=hdq (K5.out.grown hg ht5);clear hr ht5 hg HC5 HW5 K5 G5 HF4
 have HM9:Hid (∀x∈[(m:Int),(l:Int),(o:Int),(t:Int)],0<=x/\x<18446744073709551616):=by
  intro x hx;simp only [List.mem_cons,List.not_mem_nil,or_false] at hx;rcases hx with rfl|rfl|rfl|rfl<;>omega
 clear hm9 hl9 ho9 ht9;go_wp2;go_loopw [15] (fun kv wr=>∃(k c nb cbp:Nat) (ao ab:Option Addr) (outs:List Rw) (bb:List Int),kv=.int .i64 (k:Int)/\k<=N/\Hid (RulesQ N b5 k (ruls outs) bb)/\Hid (Ck wr B tb w.heap.size w4.heap.size bb ab nb cbp m l o t ao k c outs)/\Hid (w.grownBy wr (some tb))) (fun kv _=>N-(intOf kv).toNat)
 case atStart=>exact ⟨0,0,n5,c5,none,a5,[],b5,rfl,Nat.zero_le _,RulesQ.start _ _,K6.out,G6.out⟩
 case round =>
  obtain ⟨k,c,nb,cbp,ao,ab,outs,bb,rfl,hk,HI,HX,HG⟩:=hrel;by_cases hlt:k<N
  ·have hki:(k:Int)<(N:Int):=by omega
   have hx0:=HX.out.cell;have KD:Hid (Ck wr.drew B tb w.heap.size w4.heap.size bb ab nb cbp m l o t ao k c outs):=HX.out.drew;have GD:Hid (w.grownBy wr.drew (some tb)):=se HG.out;have HOWN:Hid (∀g,(Value.slice ao k c).ownBlock=some g->g<wr.heap.size):=fun g hg=>(HX.out.row.lt g hg).2;have HXX:Hid (w4.heap.size+1<=wr.heap.size):=HX.out.ord.2.2;go_wp2;refine wp_region_held_drew (S:=(fun _=>True)) (by kernel_rfl) (by first|(trivial)|((try dsimp only);trivial)) (fun hHeld=>?_)
   refine t_h 0 ?_;refine t_h 2 ?_;refine t_h 4 ?_;refine t_h 6 ?_;refine em 1 3 (fun K hK=>?_) (fun K hK=>?_)
   ·go_simp;refine k_h hK (by trivial) (fun hHeld=>?_)
    clear hK K;refine r_h 3 (fun K hK=>?_);go_simp;refine (ql B tb ab nb cbp bb _ KD.out.tk).mono ?_;rintro e w7 ⟨(⟨hr,rfl⟩|⟨L,r7,la,ln,lc,a7,n7,c7,hr,rfl,hsl,hhi,hfr,ht7⟩),hg⟩
    ·exact z51
    have R7:=hdq hr;have K7:Hid (Ck w7 B tb w.heap.size w4.heap.size r7 a7 n7 c7 m l o t ao k c outs):=KD.out.grown hg ht7;have G7:Hid (w.grownBy w7 (some tb)):=aj GD.out hg;have L7:Hid (Sl .i64 w7 la ln lc L/\Front la ln/\High wr.heap.size la ln):=⟨hsl,hfr,hhi⟩;have hx7:=K7.out.cell;have Z7:Hid (wr.heap.size<=w7.heap.size):=hg.size;clear hr hsl hhi hfr ht7 hg;refine k_h hK (by trivial) (fun hHeld=>?_)
    clear hK K;refine r_h 5 (fun K hK=>?_);go_simp;refine (ql B tb a7 n7 c7 r7 _ K7.out.tk).mono ?_;rintro e w8 ⟨(⟨hr,rfl⟩|⟨R,r8,qa,qn,qc,a8,n8,c8,hr,rfl,hsl,hhi,hfr,ht8⟩),hg⟩
    ·exact z50
    have R8:=hdq hr;have K8:Hid (Ck w8 B tb w.heap.size w4.heap.size r8 a8 n8 c8 m l o t ao k c outs):=K7.out.grown hg ht8;have G8:Hid (w.grownBy w8 (some tb)):=aj G7.out hg;have L8:Hid (Sl .i64 w8 la ln lc L):=L7.out.1.high L7.out.2.2 (ei hg (by have:=HXX.out;have:=KD.out.ord;omega))
    have M8:Hid (Sl .i64 w8 qa qn qc R/\Front qa qn/\High wr.heap.size qa qn):=⟨hsl,hfr,hhi.mono Z7.out⟩;have hx8:=K8.out.cell;clear hr hsl hhi hfr ht8 hg;refine k_h hK (by trivial) (fun hHeld=>?_)
    clear hK K;refine r_h 7 (fun K hK=>?_);go_simp;refine (dv B tb a8 n8 c8 r8 _ K8.out.tk).mono ?_;rintro e w9 ⟨(⟨hr,rfl⟩|⟨C,q,a9,n9,c9,hr,rfl,ht9⟩),hg⟩
    ·exact z49
    have hnx:=HI.out.next hlt (sj R7.out R8.out hr)
    have HNX:Hid (RulesQ N b5 (k+1) (ruls (outs++[⟨la,ln,lc,L,qa,qn,qc,R,(C:Int)⟩])) q):=by rw [mq];exact hnx
    have hC9:=(Var.dr hr).2;have K9:Hid (Ck w9 B tb w.heap.size w4.heap.size q a9 n9 c9 m l o t ao k c outs):=K8.out.grown hg ht9;have G9:Hid (w.grownBy w9 (some tb)):=aj G8.out hg;have hh9:=ei (E:=wr.heap.size) hg (by have:=HXX.out;have:=KD.out.ord;omega)
    have Y9:Hid (Rw.Good w9 ⟨la,ln,lc,L,qa,qn,qc,R,(C:Int)⟩/\(Front la ln/\Front qa qn)/\(High wr.heap.size la ln/\High wr.heap.size qa qn)):=⟨⟨L8.out.high L7.out.2.2 hh9,M8.out.1.high M8.out.2.2 hh9,by show (0:Int)<=(C:Int);omega,by show (C:Int)<_;omega⟩,⟨L7.out.2.1,M8.out.2.1⟩,⟨L7.out.2.2,M8.out.2.2⟩⟩
    have hx9:=K9.out.cell;have Z9:Hid (w4.heap.size+1<=w9.heap.size):=K9.out.ord.2.2
    have hx9a:(w9.alloc (.cells #[.slice la ln lc,.slice qa qn qc,.int .u64 (C:Int)] 74)).cell? ⟨w4.heap.size,4,none⟩=some (.slice ao k c):=by
     exact z48
    clear hr ht9 hg hnx hC9 hh9;refine k_h hK (by trivial) (fun hHeld=>?_)
    clear hK K;refine t_h 8 ?_;refine r_h 9 (fun K hK=>?_);go_simp;refine k_h hK (by trivial) (fun hHeld=>?_)
    clear hK K;refine r_h 10 (fun K hK=>?_);refine et (w0:=w9) (by rfl) (.tmp 18) (.tmp 26) (by rfl) (w4.heap.size+1) _ k outs (by rfl) (af K9.out.row ((Below.refl w9.heap.size w9).alloc lrf _) lrf) (some ⟨w9.heap.size,0,none⟩) 1 1 [⟨la,ln,lc,L,qa,qn,qc,R,(C:Int)⟩] (by rfl) (Rs.newc [⟨la,ln,lc,L,qa,qn,qc,R,(C:Int)⟩] (by intro x hx;simp only [List.mem_singleton] at hx;subst hx;exact Y9.out.1) (by unfold maxLen;simp) rfl rfl rfl) (k+1) rfl (by omega) Z9.out ((Below.refl _ w9).alloc Z9.out _) ?_
    intro aP cP wP hownP hbP hgP hnP;have OP:=hdq hownP;have BP:=hdq hbP;have GP:=hdq hgP;have hxP:wP.cell? ⟨w4.heap.size,4,none⟩=some (.slice ao k c):=(by rw [BP.out.cell (p:=⟨w4.heap.size,4,none⟩) (by show w4.heap.size<w4.heap.size+1;omega)];exact hx9)
    have hfP:wP.frozen? ⟨w4.heap.size,4,none⟩=false:=(by have h:wP.heap[w4.heap.size]?=_:=BP.out.block w4.heap.size (by omega);have h2:=K9.out.box;rw [h2] at h;simp [World.frozen?,h])
    clear hownP hbP hgP hnP;refine k_h hK (by trivial) (fun hHeld=>?_)
    clear hK K;refine t_h 11 ?_;refine r_h 12 (fun K hK=>?_);go_simp;refine k_h hK (by trivial) (fun hHeld=>?_)
    clear hK K;refine wpAnyH_done (by kernel_rfl) ?_ _
    have KE:=hdq (K9.out.push Y9.out HXX.out HOWN.out OP.out BP.out GP.out);have GE:Hid (w.grownBy (wP.setCell ⟨w4.heap.size,4,none⟩ (.slice aP (k+1) cP)) (some tb)):=jw (gm G9.out (BP.out.mono (by have:=K9.out.ord;omega))) (jc wP ⟨w4.heap.size,4,none⟩ (.slice aP (k+1) cP)) (fun g hg=>by cases hg;have:=K9.out.ord;show w.heap.size<=w4.heap.size;omega)
    obtain ⟨WE,hWE⟩:∃W,W=wP.setCell ⟨w4.heap.size,4,none⟩ (.slice aP (k+1) cP):=⟨_,rfl⟩;rw [<-hWE] at KE GE ⊢;clear hWE hx0 hx7 hx8 hx9 hx9a hxP hfP K7 K8 K9 G7 G8 G9 OP BP GP hHeld;go_wp2;go_roundw
    case rel=>exact ⟨k+1,cP,n9,c9,aP,a9,outs++[Rw.mk la ln lc L qa qn qc R (C:Int)],q,by go_num,by omega,HNX.out,KE.out,GE.out⟩
    case measure=>simp [intOf];omega
   ·go_simp;refine (ql B tb ab nb cbp bb _ KD.out.tk).mono ?_;rintro e w7 ⟨(⟨hr,rfl⟩|⟨L,r7,la,ln,lc,a7,n7,c7,hr,rfl,hsl,hhi,hfr,ht7⟩),hg⟩
    ·exact z51
    have R7:=hdq hr;have K7:Hid (Ck w7 B tb w.heap.size w4.heap.size r7 a7 n7 c7 m l o t ao k c outs):=KD.out.grown hg ht7;have G7:Hid (w.grownBy w7 (some tb)):=aj GD.out hg;have L7:Hid (Sl .i64 w7 la ln lc L/\Front la ln/\High wr.heap.size la ln):=⟨hsl,hfr,hhi⟩;have hx7:=K7.out.cell;have Z7:Hid (wr.heap.size<=w7.heap.size):=hg.size;clear hr hsl hhi hfr ht7 hg;refine k_h hK (by trivial) (fun hHeld=>?_)
    clear hK K;refine em 1 5 (fun K hK=>?_) (fun K hK=>?_)
    ·go_simp;refine k_h hK (by trivial) (fun hHeld=>?_)
     clear hK K;refine r_h 5 (fun K hK=>?_);go_simp;refine (ql B tb a7 n7 c7 r7 _ K7.out.tk).mono ?_;rintro e w8 ⟨(⟨hr,rfl⟩|⟨R,r8,qa,qn,qc,a8,n8,c8,hr,rfl,hsl,hhi,hfr,ht8⟩),hg⟩
     ·exact z50
     have R8:=hdq hr;have K8:Hid (Ck w8 B tb w.heap.size w4.heap.size r8 a8 n8 c8 m l o t ao k c outs):=K7.out.grown hg ht8;have G8:Hid (w.grownBy w8 (some tb)):=aj G7.out hg;have L8:Hid (Sl .i64 w8 la ln lc L):=L7.out.1.high L7.out.2.2 (ei hg (by have:=HXX.out;have:=KD.out.ord;omega))
     have M8:Hid (Sl .i64 w8 qa qn qc R/\Front qa qn/\High wr.heap.size qa qn):=⟨hsl,hfr,hhi.mono Z7.out⟩;have hx8:=K8.out.cell;clear hr hsl hhi hfr ht8 hg;refine k_h hK (by trivial) (fun hHeld=>?_)
     clear hK K;refine r_h 7 (fun K hK=>?_);go_simp;refine (dv B tb a8 n8 c8 r8 _ K8.out.tk).mono ?_;rintro e w9 ⟨(⟨hr,rfl⟩|⟨C,q,a9,n9,c9,hr,rfl,ht9⟩),hg⟩
     ·exact z49
     have hnx:=HI.out.next hlt (sj R7.out R8.out hr)
     have HNX:Hid (RulesQ N b5 (k+1) (ruls (outs++[⟨la,ln,lc,L,qa,qn,qc,R,(C:Int)⟩])) q):=by rw [mq];exact hnx
     have hC9:=(Var.dr hr).2;have K9:Hid (Ck w9 B tb w.heap.size w4.heap.size q a9 n9 c9 m l o t ao k c outs):=K8.out.grown hg ht9;have G9:Hid (w.grownBy w9 (some tb)):=aj G8.out hg;have hh9:=ei (E:=wr.heap.size) hg (by have:=HXX.out;have:=KD.out.ord;omega)
     have Y9:Hid (Rw.Good w9 ⟨la,ln,lc,L,qa,qn,qc,R,(C:Int)⟩/\(Front la ln/\Front qa qn)/\(High wr.heap.size la ln/\High wr.heap.size qa qn)):=⟨⟨L8.out.high L7.out.2.2 hh9,M8.out.1.high M8.out.2.2 hh9,by show (0:Int)<=(C:Int);omega,by show (C:Int)<_;omega⟩,⟨L7.out.2.1,M8.out.2.1⟩,⟨L7.out.2.2,M8.out.2.2⟩⟩
     have hx9:=K9.out.cell;have Z9:Hid (w4.heap.size+1<=w9.heap.size):=K9.out.ord.2.2
     have hx9a:(w9.alloc (.cells #[.slice la ln lc,.slice qa qn qc,.int .u64 (C:Int)] 74)).cell? ⟨w4.heap.size,4,none⟩=some (.slice ao k c):=by
      exact z48
     clear hr ht9 hg hnx hC9 hh9;refine k_h hK (by trivial) (fun hHeld=>?_)
     clear hK K;refine t_h 8 ?_;refine r_h 9 (fun K hK=>?_);go_simp;refine k_h hK (by trivial) (fun hHeld=>?_)
     clear hK K;refine r_h 10 (fun K hK=>?_);refine et (w0:=w9) (by rfl) (.tmp 18) (.tmp 26) (by rfl) (w4.heap.size+1) _ k outs (by rfl) (af K9.out.row ((Below.refl w9.heap.size w9).alloc lrf _) lrf) (some ⟨w9.heap.size,0,none⟩) 1 1 [⟨la,ln,lc,L,qa,qn,qc,R,(C:Int)⟩] (by rfl) (Rs.newc [⟨la,ln,lc,L,qa,qn,qc,R,(C:Int)⟩] (by intro x hx;simp only [List.mem_singleton] at hx;subst hx;exact Y9.out.1) (by unfold maxLen;simp) rfl rfl rfl) (k+1) rfl (by omega) Z9.out ((Below.refl _ w9).alloc Z9.out _) ?_
     intro aP cP wP hownP hbP hgP hnP;have OP:=hdq hownP;have BP:=hdq hbP;have GP:=hdq hgP;have hxP:wP.cell? ⟨w4.heap.size,4,none⟩=some (.slice ao k c):=(by rw [BP.out.cell (p:=⟨w4.heap.size,4,none⟩) (by show w4.heap.size<w4.heap.size+1;omega)];exact hx9)
     have hfP:wP.frozen? ⟨w4.heap.size,4,none⟩=false:=(by have h:wP.heap[w4.heap.size]?=_:=BP.out.block w4.heap.size (by omega);have h2:=K9.out.box;rw [h2] at h;simp [World.frozen?,h])
     clear hownP hbP hgP hnP;refine k_h hK (by trivial) (fun hHeld=>?_)
     clear hK K;refine t_h 11 ?_;refine r_h 12 (fun K hK=>?_);go_simp;refine k_h hK (by trivial) (fun hHeld=>?_)
     clear hK K;refine wpAnyH_done (by kernel_rfl) ?_ _
     have KE:=hdq (K9.out.push Y9.out HXX.out HOWN.out OP.out BP.out GP.out);have GE:Hid (w.grownBy (wP.setCell ⟨w4.heap.size,4,none⟩ (.slice aP (k+1) cP)) (some tb)):=jw (gm G9.out (BP.out.mono (by have:=K9.out.ord;omega))) (jc wP ⟨w4.heap.size,4,none⟩ (.slice aP (k+1) cP)) (fun g hg=>by cases hg;have:=K9.out.ord;show w.heap.size<=w4.heap.size;omega)
     obtain ⟨WE,hWE⟩:∃W,W=wP.setCell ⟨w4.heap.size,4,none⟩ (.slice aP (k+1) cP):=⟨_,rfl⟩;rw [<-hWE] at KE GE ⊢;clear hWE hx0 hx7 hx8 hx9 hx9a hxP hfP K7 K8 K9 G7 G8 G9 OP BP GP hHeld;go_wp2;go_roundw
     case rel=>exact ⟨k+1,cP,n9,c9,aP,a9,outs++[Rw.mk la ln lc L qa qn qc R (C:Int)],q,by go_num,by omega,HNX.out,KE.out,GE.out⟩
     case measure=>simp [intOf];omega
    ·go_simp;refine (ql B tb a7 n7 c7 r7 _ K7.out.tk).mono ?_;rintro e w8 ⟨(⟨hr,rfl⟩|⟨R,r8,qa,qn,qc,a8,n8,c8,hr,rfl,hsl,hhi,hfr,ht8⟩),hg⟩
     ·exact z50
     have R8:=hdq hr;have K8:Hid (Ck w8 B tb w.heap.size w4.heap.size r8 a8 n8 c8 m l o t ao k c outs):=K7.out.grown hg ht8;have G8:Hid (w.grownBy w8 (some tb)):=aj G7.out hg;have L8:Hid (Sl .i64 w8 la ln lc L):=L7.out.1.high L7.out.2.2 (ei hg (by have:=HXX.out;have:=KD.out.ord;omega))
     have M8:Hid (Sl .i64 w8 qa qn qc R/\Front qa qn/\High wr.heap.size qa qn):=⟨hsl,hfr,hhi.mono Z7.out⟩;have hx8:=K8.out.cell;clear hr hsl hhi hfr ht8 hg;refine k_h hK (by trivial) (fun hHeld=>?_)
     clear hK K;refine em 1 7 (fun K hK=>?_) (fun K hK=>?_)
     ·go_simp;refine k_h hK (by trivial) (fun hHeld=>?_)
      clear hK K;refine r_h 7 (fun K hK=>?_);go_simp;refine (dv B tb a8 n8 c8 r8 _ K8.out.tk).mono ?_;rintro e w9 ⟨(⟨hr,rfl⟩|⟨C,q,a9,n9,c9,hr,rfl,ht9⟩),hg⟩
      ·exact z49
      have hnx:=HI.out.next hlt (sj R7.out R8.out hr)
      have HNX:Hid (RulesQ N b5 (k+1) (ruls (outs++[⟨la,ln,lc,L,qa,qn,qc,R,(C:Int)⟩])) q):=by rw [mq];exact hnx
      have hC9:=(Var.dr hr).2;have K9:Hid (Ck w9 B tb w.heap.size w4.heap.size q a9 n9 c9 m l o t ao k c outs):=K8.out.grown hg ht9;have G9:Hid (w.grownBy w9 (some tb)):=aj G8.out hg;have hh9:=ei (E:=wr.heap.size) hg (by have:=HXX.out;have:=KD.out.ord;omega)
      have Y9:Hid (Rw.Good w9 ⟨la,ln,lc,L,qa,qn,qc,R,(C:Int)⟩/\(Front la ln/\Front qa qn)/\(High wr.heap.size la ln/\High wr.heap.size qa qn)):=⟨⟨L8.out.high L7.out.2.2 hh9,M8.out.1.high M8.out.2.2 hh9,by show (0:Int)<=(C:Int);omega,by show (C:Int)<_;omega⟩,⟨L7.out.2.1,M8.out.2.1⟩,⟨L7.out.2.2,M8.out.2.2⟩⟩
      have hx9:=K9.out.cell;have Z9:Hid (w4.heap.size+1<=w9.heap.size):=K9.out.ord.2.2
      have hx9a:(w9.alloc (.cells #[.slice la ln lc,.slice qa qn qc,.int .u64 (C:Int)] 74)).cell? ⟨w4.heap.size,4,none⟩=some (.slice ao k c):=by
       exact z48
      clear hr ht9 hg hnx hC9 hh9;refine k_h hK (by trivial) (fun hHeld=>?_)
      clear hK K;refine t_h 8 ?_;refine r_h 9 (fun K hK=>?_);go_simp;refine k_h hK (by trivial) (fun hHeld=>?_)
      clear hK K;refine r_h 10 (fun K hK=>?_);refine et (w0:=w9) (by rfl) (.tmp 18) (.tmp 26) (by rfl) (w4.heap.size+1) _ k outs (by rfl) (af K9.out.row ((Below.refl w9.heap.size w9).alloc lrf _) lrf) (some ⟨w9.heap.size,0,none⟩) 1 1 [⟨la,ln,lc,L,qa,qn,qc,R,(C:Int)⟩] (by rfl) (Rs.newc [⟨la,ln,lc,L,qa,qn,qc,R,(C:Int)⟩] (by intro x hx;simp only [List.mem_singleton] at hx;subst hx;exact Y9.out.1) (by unfold maxLen;simp) rfl rfl rfl) (k+1) rfl (by omega) Z9.out ((Below.refl _ w9).alloc Z9.out _) ?_
      intro aP cP wP hownP hbP hgP hnP;have OP:=hdq hownP;have BP:=hdq hbP;have GP:=hdq hgP;have hxP:wP.cell? ⟨w4.heap.size,4,none⟩=some (.slice ao k c):=(by rw [BP.out.cell (p:=⟨w4.heap.size,4,none⟩) (by show w4.heap.size<w4.heap.size+1;omega)];exact hx9)
      have hfP:wP.frozen? ⟨w4.heap.size,4,none⟩=false:=(by have h:wP.heap[w4.heap.size]?=_:=BP.out.block w4.heap.size (by omega);have h2:=K9.out.box;rw [h2] at h;simp [World.frozen?,h])
      clear hownP hbP hgP hnP;refine k_h hK (by trivial) (fun hHeld=>?_)
      clear hK K;refine t_h 11 ?_;refine r_h 12 (fun K hK=>?_);go_simp;refine k_h hK (by trivial) (fun hHeld=>?_)
      clear hK K;refine wpAnyH_done (by kernel_rfl) ?_ _
      have KE:=hdq (K9.out.push Y9.out HXX.out HOWN.out OP.out BP.out GP.out);have GE:Hid (w.grownBy (wP.setCell ⟨w4.heap.size,4,none⟩ (.slice aP (k+1) cP)) (some tb)):=jw (gm G9.out (BP.out.mono (by have:=K9.out.ord;omega))) (jc wP ⟨w4.heap.size,4,none⟩ (.slice aP (k+1) cP)) (fun g hg=>by cases hg;have:=K9.out.ord;show w.heap.size<=w4.heap.size;omega)
      obtain ⟨WE,hWE⟩:∃W,W=wP.setCell ⟨w4.heap.size,4,none⟩ (.slice aP (k+1) cP):=⟨_,rfl⟩;rw [<-hWE] at KE GE ⊢;clear hWE hx0 hx7 hx8 hx9 hx9a hxP hfP K7 K8 K9 G7 G8 G9 OP BP GP hHeld;go_wp2;go_roundw
      case rel=>exact ⟨k+1,cP,n9,c9,aP,a9,outs++[Rw.mk la ln lc L qa qn qc R (C:Int)],q,by go_num,by omega,HNX.out,KE.out,GE.out⟩
      case measure=>simp [intOf];omega
     ·go_simp;refine (dv B tb a8 n8 c8 r8 _ K8.out.tk).mono ?_;rintro e w9 ⟨(⟨hr,rfl⟩|⟨C,q,a9,n9,c9,hr,rfl,ht9⟩),hg⟩
      ·exact z49
      have hnx:=HI.out.next hlt (sj R7.out R8.out hr)
      have HNX:Hid (RulesQ N b5 (k+1) (ruls (outs++[⟨la,ln,lc,L,qa,qn,qc,R,(C:Int)⟩])) q):=by rw [mq];exact hnx
      have hC9:=(Var.dr hr).2;have K9:Hid (Ck w9 B tb w.heap.size w4.heap.size q a9 n9 c9 m l o t ao k c outs):=K8.out.grown hg ht9;have G9:Hid (w.grownBy w9 (some tb)):=aj G8.out hg;have hh9:=ei (E:=wr.heap.size) hg (by have:=HXX.out;have:=KD.out.ord;omega)
      have Y9:Hid (Rw.Good w9 ⟨la,ln,lc,L,qa,qn,qc,R,(C:Int)⟩/\(Front la ln/\Front qa qn)/\(High wr.heap.size la ln/\High wr.heap.size qa qn)):=⟨⟨L8.out.high L7.out.2.2 hh9,M8.out.1.high M8.out.2.2 hh9,by show (0:Int)<=(C:Int);omega,by show (C:Int)<_;omega⟩,⟨L7.out.2.1,M8.out.2.1⟩,⟨L7.out.2.2,M8.out.2.2⟩⟩
      have hx9:=K9.out.cell;have Z9:Hid (w4.heap.size+1<=w9.heap.size):=K9.out.ord.2.2
      have hx9a:(w9.alloc (.cells #[.slice la ln lc,.slice qa qn qc,.int .u64 (C:Int)] 74)).cell? ⟨w4.heap.size,4,none⟩=some (.slice ao k c):=by
       exact z48
      clear hr ht9 hg hnx hC9 hh9;refine k_h hK (by trivial) (fun hHeld=>?_)
      clear hK K;refine t_h 8 ?_;refine em 1 9 (fun K hK=>?_) (fun K hK=>?_)
      ·go_simp;refine k_h hK (by trivial) (fun hHeld=>?_)
       clear hK K;refine r_h 9 (fun K hK=>?_);go_simp;refine k_h hK (by trivial) (fun hHeld=>?_)
       clear hK K;refine r_h 10 (fun K hK=>?_);refine et (w0:=w9) (by rfl) (.tmp 18) (.tmp 26) (by rfl) (w4.heap.size+1) _ k outs (by rfl) (af K9.out.row ((Below.refl w9.heap.size w9).alloc lrf _) lrf) (some ⟨w9.heap.size,0,none⟩) 1 1 [⟨la,ln,lc,L,qa,qn,qc,R,(C:Int)⟩] (by rfl) (Rs.newc [⟨la,ln,lc,L,qa,qn,qc,R,(C:Int)⟩] (by intro x hx;simp only [List.mem_singleton] at hx;subst hx;exact Y9.out.1) (by unfold maxLen;simp) rfl rfl rfl) (k+1) rfl (by omega) Z9.out ((Below.refl _ w9).alloc Z9.out _) ?_
       intro aP cP wP hownP hbP hgP hnP;have OP:=hdq hownP;have BP:=hdq hbP;have GP:=hdq hgP;have hxP:wP.cell? ⟨w4.heap.size,4,none⟩=some (.slice ao k c):=(by rw [BP.out.cell (p:=⟨w4.heap.size,4,none⟩) (by show w4.heap.size<w4.heap.size+1;omega)];exact hx9)
       have hfP:wP.frozen? ⟨w4.heap.size,4,none⟩=false:=(by have h:wP.heap[w4.heap.size]?=_:=BP.out.block w4.heap.size (by omega);have h2:=K9.out.box;rw [h2] at h;simp [World.frozen?,h])
       clear hownP hbP hgP hnP;refine k_h hK (by trivial) (fun hHeld=>?_)
       clear hK K;refine t_h 11 ?_;refine r_h 12 (fun K hK=>?_);go_simp;refine k_h hK (by trivial) (fun hHeld=>?_)
       clear hK K;refine wpAnyH_done (by kernel_rfl) ?_ _
       have KE:=hdq (K9.out.push Y9.out HXX.out HOWN.out OP.out BP.out GP.out);have GE:Hid (w.grownBy (wP.setCell ⟨w4.heap.size,4,none⟩ (.slice aP (k+1) cP)) (some tb)):=jw (gm G9.out (BP.out.mono (by have:=K9.out.ord;omega))) (jc wP ⟨w4.heap.size,4,none⟩ (.slice aP (k+1) cP)) (fun g hg=>by cases hg;have:=K9.out.ord;show w.heap.size<=w4.heap.size;omega)
       obtain ⟨WE,hWE⟩:∃W,W=wP.setCell ⟨w4.heap.size,4,none⟩ (.slice aP (k+1) cP):=⟨_,rfl⟩;rw [<-hWE] at KE GE ⊢;clear hWE hx0 hx7 hx8 hx9 hx9a hxP hfP K7 K8 K9 G7 G8 G9 OP BP GP hHeld;go_wp2;go_roundw
       case rel=>exact ⟨k+1,cP,n9,c9,aP,a9,outs++[Rw.mk la ln lc L qa qn qc R (C:Int)],q,by go_num,by omega,HNX.out,KE.out,GE.out⟩
       case measure=>simp [intOf];omega
      ·go_simp;refine k_h hK (by trivial) (fun hHeld=>?_)
       clear hK K;refine r_h 1 (fun K hK=>?_);go_simp;refine k_h hK (by trivial) (fun hHeld=>?_)
       clear hK K;refine r_h 10 (fun K hK=>?_);refine et (w0:=w9) (by rfl) (.tmp 18) (.tmp 26) (by rfl) (w4.heap.size+1) _ k outs (by rfl) (af K9.out.row ((Below.refl w9.heap.size w9).alloc lrf _) lrf) (some ⟨w9.heap.size,0,none⟩) 1 1 [⟨la,ln,lc,L,qa,qn,qc,R,(C:Int)⟩] (by rfl) (Rs.newc [⟨la,ln,lc,L,qa,qn,qc,R,(C:Int)⟩] (by intro x hx;simp only [List.mem_singleton] at hx;subst hx;exact Y9.out.1) (by unfold maxLen;simp) rfl rfl rfl) (k+1) rfl (by omega) Z9.out ((Below.refl _ w9).alloc Z9.out _) ?_
       intro aP cP wP hownP hbP hgP hnP;have OP:=hdq hownP;have BP:=hdq hbP;have GP:=hdq hgP;have hxP:wP.cell? ⟨w4.heap.size,4,none⟩=some (.slice ao k c):=(by rw [BP.out.cell (p:=⟨w4.heap.size,4,none⟩) (by show w4.heap.size<w4.heap.size+1;omega)];exact hx9)
       have hfP:wP.frozen? ⟨w4.heap.size,4,none⟩=false:=(by have h:wP.heap[w4.heap.size]?=_:=BP.out.block w4.heap.size (by omega);have h2:=K9.out.box;rw [h2] at h;simp [World.frozen?,h])
       clear hownP hbP hgP hnP;refine k_h hK (by trivial) (fun hHeld=>?_)
       clear hK K;refine t_h 11 ?_;refine r_h 12 (fun K hK=>?_);go_simp;refine k_h hK (by trivial) (fun hHeld=>?_)
       clear hK K;refine wpAnyH_done (by kernel_rfl) ?_ _
       have KE:=hdq (K9.out.push Y9.out HXX.out HOWN.out OP.out BP.out GP.out);have GE:Hid (w.grownBy (wP.setCell ⟨w4.heap.size,4,none⟩ (.slice aP (k+1) cP)) (some tb)):=jw (gm G9.out (BP.out.mono (by have:=K9.out.ord;omega))) (jc wP ⟨w4.heap.size,4,none⟩ (.slice aP (k+1) cP)) (fun g hg=>by cases hg;have:=K9.out.ord;show w.heap.size<=w4.heap.size;omega)
       obtain ⟨WE,hWE⟩:∃W,W=wP.setCell ⟨w4.heap.size,4,none⟩ (.slice aP (k+1) cP):=⟨_,rfl⟩;rw [<-hWE] at KE GE ⊢;clear hWE hx0 hx7 hx8 hx9 hx9a hxP hfP K7 K8 K9 G7 G8 G9 OP BP GP hHeld;go_wp2;go_roundw
       case rel=>exact ⟨k+1,cP,n9,c9,aP,a9,outs++[Rw.mk la ln lc L qa qn qc R (C:Int)],q,by go_num,by omega,HNX.out,KE.out,GE.out⟩
       case measure=>simp [intOf];omega
  ·obtain rfl:k=N:=by omega
   have HFN:Hid (Img.qCosts b=some (⟨[(m:Int),(l:Int),(o:Int),(t:Int)],ruls outs⟩,bb)):=by show _=_;rw [HQ.out,HI.out.done];rfl
   have HO:=hdq HX.out.ord;have H0:=hdq HX.out.zero;have H1:=hdq HX.out.box
   go_wp2_with (first
    | (refine wpList_load_row (by rfl) 26 (.tmp 3) (by rfl) w4.heap.size (by rfl) 26 #[Value.int .u64 (m:Int),Value.int .u64 (l:Int),Value.int .u64 (o:Int),Value.int .u64 (t:Int),Value.slice ao k c] (0,0) _ H1.out Tryz.underlying26 (by rfl) yy ?_)
    | (refine ai (by rfl) 26 (.tmp 2) (.tmp 30) (by rfl) w.heap.size #[Value.int .u64 (m:Int),Value.int .u64 (l:Int),Value.int .u64 (o:Int),Value.int .u64 (t:Int),Value.slice ao k c] (by rfl) (by rfl) 26 costZero H0.out yy rfl (by simp [Value.oneCell']) ?_;intro we hwe hge hsze;have HWE:=hdq hwe;have HGE:=hdq hge;clear hwe hge hsze))
   try rw [Exit.noGoto_ret]
   refine bodyPost_ret (results_cell_row rfl _ _ w.heap.size 26 #[Value.int .u64 (m:Int),Value.int .u64 (l:Int),Value.int .u64 (o:Int),Value.int .u64 (t:Int),Value.slice ao k c] (0,0) _ (by rfl) HWE.out Tryz.underlying26 (by rfl) yy) rfl ?_
   have hgood:Cw.Good wr ⟨(m:Int),(l:Int),(o:Int),(t:Int),ao,k,c,outs⟩:=⟨Rs.of_owns HX.out.row (fun x hx=>(HX.out.els x hx).1) HX.out.len,HM9.out⟩;have hhigh:Cw.High (w4.heap.size+1) ⟨(m:Int),(l:Int),(o:Int),(t:Int),ao,k,c,outs⟩:=⟨High.of_owns HX.out.row,fun x hx=>(HX.out.els x hx).2.2⟩;refine ⟨.inr ⟨⟨(m:Int),(l:Int),(o:Int),(t:Int),ao,k,c,outs⟩,bb,ab,nb,cbp,HFN.out,rfl,hgood.high hhigh (yz HGE.out (fun g hg=>by cases hg;have:=HO.out;omega)),⟨hhigh.1.mono (by have:=HO.out;omega),fun x hx=>⟨(hhigh.2 x hx).1.mono (by have:=HO.out;omega),(hhigh.2 x hx).2.mono (by have:=HO.out;omega)⟩⟩,HX.out.tk.keep (fun i hi=>HGE.out.block i (by have:=HO.out;omega) (by have:=HO.out;simp;omega))⟩,jw HG.out HGE.out (fun g hg=>by cases hg;exact Nat.le_refl _)⟩

end
end Go.Proofs.YtkiamgcpcneggaaGreat
