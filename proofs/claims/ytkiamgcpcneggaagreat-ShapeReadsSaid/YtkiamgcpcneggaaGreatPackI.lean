import Derived.Test.YtkiamgcpcneggaaGreatPackL
import Derived.Test.YtkiamgcpcneggaaGreatPackD
import Derived.Deep.OwnRows
import Derived.Laws.CopyOwn
import Derived.Shelf.SlSorted.Search
import Derived.Test.YtkiamgcpcneggaaGreatProg
import Derived.Deep.RegionLaw
import Derived.Deep.AppendLies
import Derived.Deep.DeepMust
import Derived.Deep.DeepFit
import Derived.Maps.RangeWalk
import Derived.Laws.AppendOwnNone
import Derived.Laws.NewBlocks
set_option linter.all false
/- Used by the law. -/
namespace Go.Proofs.YtkiamgcpcneggaaGreat
open Go.RowKit

end Go.Proofs.YtkiamgcpcneggaaGreat

/- Used by the law. -/
namespace Go.Proofs.YtkiamgcpcneggaaGreat
open Go.RowKit

structure Wd where
 a:Option Addr
 n:Nat
 cap:Nat
 zs:List Int
def Wd.v (x:Wd):Value:=.slice x.a x.n x.cap
def Wd.Good (w:World) (x:Wd):Prop:=Sl .i64 w x.a x.n x.cap x.zs
def Wd.no:Wd:=⟨none,0,0,[]⟩
instance:Inhabited Wd:=⟨Wd.no⟩
theorem Wd.no_good (w:World):Wd.no.Good w:=Sl.nil
theorem Wd.Good.below {w w':World} {x:Wd} {B:Nat} (h:x.Good w) (hb:Below B w w') (hB:w.heap.size≤B):x.Good w':=Sl.below h hb hB

def nums (xs:List Wd):List (List Int):=xs.map Wd.zs
def vals (xs:List Wd):List Value:=xs.map Wd.v
theorem nums_length (xs:List Wd):(nums xs).length=xs.length:=by simp [nums]
theorem vals_length (xs:List Wd):(vals xs).length=xs.length:=by simp [vals]
theorem nums_app (xs ys:List Wd):nums (xs ++ ys)=nums xs ++ nums ys:=by simp [nums]
theorem vals_app (xs ys:List Wd):vals (xs ++ ys)=vals xs ++ vals ys:=by simp [vals]
theorem nums_at (xs:List Wd) (i:Nat):(nums xs).getD i []=(xs.getD i Wd.no).zs:=by
 simp only [nums,List.getD_eq_getElem?_getD,List.getElem?_map]
 cases xs[i]?<;>rfl

def Ws (w:World) (a:Option Addr) (n cap:Nat) (xs:List Wd):Prop :=
 xs.length=n∧n≤cap∧cap≤maxLen∧(∀ x ∈ xs,x.Good w) ∧
  (n=0∨∃ b off,a=some ⟨b,off,none⟩∧∀ i,i < n→w.cell? ⟨b,off + i,none⟩=some (xs.getD i Wd.no).v)

theorem Ws.below {w w':World} {a:Option Addr} {n cap B:Nat} {xs:List Wd} (h:Ws w a n cap xs) (hb:Below B w w') (hB:w.heap.size≤B):Ws w' a n cap xs:=by
 obtain ⟨h1,h2,h3,h4,h5⟩:=h
 refine ⟨h1,h2,h3,fun x hx=>(h4 x hx).below hb hB,?_⟩
 rcases h5 with h5|⟨b,off,ha,hc⟩
 ·exact .inl h5
 ·refine .inr ⟨b,off,ha,fun i hi=>?_⟩
  have hci:=hc i hi
  have hlt:=cell_lt hci
  rw [hb.cell (p:=⟨b,off + i,none⟩) (by show b < B;omega)]
  exact hci
theorem Ws.alloc {w:World} {a:Option Addr} {n cap:Nat} {xs:List Wd} (h:Ws w a n cap xs) (o:Obj):Ws (w.alloc o) a n cap xs :=
 h.below ((Below.refl w.heap.size w).alloc (Nat.le_refl _) o) (Nat.le_refl _)
theorem Ws.drewN {w:World} {a:Option Addr} {n cap:Nat} {xs:List Wd} (h:Ws w a n cap xs) (m:Nat):Ws (w.drewN m) a n cap xs:=h
theorem Ws.drawn {w w':World} {a:Option Addr} {n cap:Nat} {xs:List Wd} (h:Ws w a n cap xs) (hq:∃ q,w'=w.drewN q):Ws w' a n cap xs:=by
 obtain ⟨q,rfl⟩:=hq;exact h
theorem Ws.nil {w:World}:Ws w none 0 0 []:=⟨rfl,Nat.le_refl _,by unfold maxLen;omega,by simp,.inl rfl⟩

theorem Ws.good {w:World} {a:Option Addr} {n cap:Nat} {xs:List Wd} (h:Ws w a n cap xs) (i:Nat):(xs.getD i Wd.no).Good w:=by
 rw [List.getD_eq_getElem?_getD]
 cases hx:xs[i]? with
 | none=>exact Wd.no_good w
 | some x=>exact h.2.2.2.1 x (List.mem_of_getElem? hx)

theorem Ws.at {w:World} {a:Option Addr} {n cap:Nat} {xs:List Wd} (h:Ws w a n cap xs) (hn:0 < n) :
 ∃ b off,a=some ⟨b,off,none⟩∧b < w.heap.size∧∀ i,i < n→w.cell? ⟨b,off + i,none⟩=some (.slice (xs.getD i Wd.no).a (xs.getD i Wd.no).n (xs.getD i Wd.no).cap):=by
 obtain ⟨h1,h2,h3,h4,h5⟩:=h
 rcases h5 with h5|⟨b,off,ha,hc⟩
 ·omega
 ·exact ⟨b,off,ha,cell_lt (hc 0 hn),hc⟩

theorem Ws.one {w:World} {a:Option Addr} {n cap:Nat} {xs:List Wd} (h:Ws w a n cap xs) (i:Nat) (hi:i < n) :
 ∃ b off a1 n1 c1 zs,a=some ⟨b,off,none⟩∧b < w.heap.size∧xs.getD i Wd.no=⟨a1,n1,c1,zs⟩∧w.cell? ⟨b,off + i,none⟩=some (.slice a1 n1 c1)∧Sl .i64 w a1 n1 c1 zs∧(nums xs).getD i []=zs:=by
 obtain ⟨b,off,ha,hb,hc⟩:=h.at (by omega)
 exact ⟨b,off,_,_,_,_,ha,hb,rfl,hc i hi,h.good i,nums_at xs i⟩

theorem Ws.of_owns {w:World} {B:Nat} {T:TypeId} {a:Option Addr} {n cap:Nat} {xs:List Wd}
 (h:w.ownsRow B T 1 (.slice a n cap) n (vals xs)) (hw:∀ x ∈ xs,x.Good w) (hl:xs.length=n):Ws w a n cap xs:=by
 have h':=h
 obtain ⟨_,h2⟩:=h
 rcases h2 with ⟨hv,h0⟩|⟨g,c,cur,hv,hg,hh,hnc,hcm,hcs,ht⟩
 ·simp only [Value.slice.injEq] at hv
  obtain ⟨rfl,rfl,rfl⟩:=hv
  exact ⟨hl,Nat.le_refl _,by unfold maxLen;omega,hw,.inl rfl⟩
 ·simp only [Value.slice.injEq] at hv
  obtain ⟨rfl,_,rfl⟩:=hv
  refine ⟨hl,hnc,hcm,hw,.inr ⟨g,0,rfl,fun i hi=>?_⟩⟩
  rw [Nat.zero_add,h'.cellAt i (by omega)]
  simp [vals,hl,hi]

theorem Ws.piece {w:World} {b off n cap:Nat} {xs:List Wd} (h:Ws w (some ⟨b,off,none⟩) n cap xs) (i j:Nat) (hij:i + j≤n) :
 Ws w (some ⟨b,off + i,none⟩) j (cap - i) ((xs.drop i).take j):=by
 obtain ⟨h1,h2,h3,h4,h5⟩:=h
 refine ⟨by simp;omega,by omega,by unfold maxLen at *;omega,fun z hz=>h4 z (List.mem_of_mem_drop (List.mem_of_mem_take hz)),?_⟩
 rcases h5 with h5|⟨b',off',ha,hc⟩
 ·exact .inl (by omega)
 ·simp only [Option.some.injEq,Addr.mk.injEq] at ha
  obtain ⟨rfl,rfl,_⟩:=ha
  refine .inr ⟨b,off + i,rfl,fun m hm=>?_⟩
  rw [Nat.add_assoc,hc (i + m) (by omega)]
  simp [hm]
theorem Ws.first {w:World} {a:Option Addr} {n cap:Nat} {xs:List Wd} (h:Ws w a n cap xs) (j:Nat) (hj:j≤n):Ws w a j cap (xs.take j):=by
 obtain ⟨h1,h2,h3,h4,h5⟩:=h
 refine ⟨by simp;omega,by omega,h3,fun z hz=>h4 z (List.mem_of_mem_take hz),?_⟩
 rcases h5 with h5|⟨b',off',ha,hc⟩
 ·exact .inl (by omega)
 ·refine .inr ⟨b',off',ha,fun m hm=>?_⟩
  rw [hc m (by omega)]
  simp [hm]

end Go.Proofs.YtkiamgcpcneggaaGreat

/- Used by the law. -/
namespace Go.Proofs.YtkiamgcpcneggaaGreat
open Go.RowKit

theorem nums_take_same {xs ys:List Wd} {j:Nat} (h:(nums xs).take j=(nums ys).take j) (hx:j < xs.length) (hy:j < ys.length) (e:(nums xs).getD j []=(nums ys).getD j []) :
 (nums xs).take (j + 1)=(nums ys).take (j + 1):=by
 have hx':j < (nums xs).length:=by rw [nums_length];exact hx
 have hy':j < (nums ys).length:=by rw [nums_length];exact hy
 rw [List.take_succ_eq_append_getElem hx',List.take_succ_eq_append_getElem hy',h]
 simp only [List.getD_eq_getElem?_getD,List.getElem?_eq_getElem hx',List.getElem?_eq_getElem hy',Option.getD_some] at e
 rw [e]

set_option maxRecDepth 100000 in
set_option maxHeartbeats 800000 in
theorem sames_is (a b:Option Addr) (n m cap cap2:Nat) (xs ys:List Wd) (r:Bool) (w:World) (ha:Ws w a n cap xs) (hb:Ws w b m cap2 ys) (h:decide (nums xs=nums ys)=r) :
 Calls Tryz.prog 16 #[.slice a n cap,.slice b m cap2] w fun e w'=>e=.returned (.bool r)∧∃ q,w'=w.drewN q:=by
 subst h
 have hnc:=ha.2.1
 have hcm:=ha.2.2.1
 unfold maxLen at hcm
 have hmc:=hb.2.1
 have hcm2:=hb.2.2.1
 unfold maxLen at hcm2
 have HA:=Lib.hid ha
 have HB:=Lib.hid hb
 clear ha hb
 by_cases hnm:n=m
 ·subst hnm
  go_enter Tryz.func16,Tryz.ntmps16
  go_wp2
  go_loopw [5] (fun ix wr=>∃ j:Nat,j≤n∧ix=.int .i64 (j:Int)∧Hid ((nums xs).take j=(nums ys).take j)∧Hid (∃ q,wr=w.drewN q)) (fun ix _=>n - (intOf ix).toNat)
  case atStart=>exact ⟨0,Nat.zero_le _,rfl,rfl,⟨0,rfl⟩⟩
  case round =>
   obtain ⟨j,hj,rfl,HT,HQ⟩:=hrel
   by_cases hlt:j < n
   ·obtain ⟨b1,o1,a3,n3,c3,z3,rfl,_,_,hx1,hs1,hz1⟩:=(HA.out.drawn HQ.out).one j hlt
    obtain ⟨b2,o2,a4,n4,c4,z4,rfl,_,_,hx2,hs2,hz2⟩:=(HB.out.drawn HQ.out).one j hlt
    have HS1:=Lib.hid hs1
    have HS2:=Lib.hid hs2
    have HZ1:=Lib.hid hz1
    have HZ2:=Lib.hid hz2
    have hlti:(j:Int) < (n:Int):=by omega
    clear hs1 hs2 hz1 hz2
    by_cases he:z3=z4
    ·have hd:decide (z3=z4)=true:=by simpa using he
     have HE:=Lib.hid he
     have HD:=Lib.hid hd
     clear hd he
     go_wp2
     go_quiet ((go_at_call 38;exact Calls.quiet_of (same_is _ _ _ _ _ _ z3 z4 true _ (HS1.out.drewN _) (HS2.out.drewN _) HD.out)))
     go_wp2
     go_roundw
     case rel=>exact ⟨j + 1,by omega,by go_num,nums_take_same HT.out (by rw [HA.out.1];exact hlt) (by rw [HB.out.1];exact hlt) (by rw [HZ1.out,HZ2.out,HE.out]),(by obtain ⟨q,hq⟩:=HQ.out;exact ⟨_,by rw [hq,World.drewN_drewN]⟩)⟩
     case measure=>simp [intOf];omega
    ·have hd:decide (z3=z4)=false:=by simpa using he
     have hfin:decide (nums xs=nums ys)=false:=by
      rw [decide_eq_false_iff_not];intro h;apply he;rw [← HZ1.out,← HZ2.out,h]
     have HF:=Lib.hid hfin
     have HD:=Lib.hid hd
     clear he hfin hd
     go_wp2
     go_quiet ((go_at_call 38;exact Calls.quiet_of (same_is _ _ _ _ _ _ z3 z4 false _ (HS1.out.drewN _) (HS2.out.drewN _) HD.out)))
     go_wp2
     go_ret
     exact ⟨by rw [HF.out];rfl,(by obtain ⟨q,hq⟩:=HQ.out;exact ⟨_,by rw [hq,World.drewN_drewN]⟩)⟩
   ·have hfin:decide (nums xs=nums ys)=true:=by
     rw [decide_eq_true_iff]
     have h:=HT.out
     rwa [List.take_of_length_le (by rw [nums_length,HA.out.1];omega),List.take_of_length_le (by rw [nums_length,HB.out.1];omega)] at h
    have HF:=Lib.hid hfin
    clear hfin
    go_wp2
    go_ret
    exact ⟨by rw [HF.out];rfl,HQ.out⟩
 ·have hfin:decide (nums xs=nums ys)=false:=by
   rw [decide_eq_false_iff_not];intro h
   have:=congrArg List.length h
   rw [nums_length,nums_length,HA.out.1,HB.out.1] at this
   exact hnm this
  have h1:((n:Int) == (m:Int))=false:=by simp;omega
  have h2:((n:Int) != (m:Int))=true:=by simp;omega
  rw [hfin]
  clear hfin
  go_enter Tryz.func16,Tryz.ntmps16
  go_wp2
  go_ret
  exact ⟨rfl,0,rfl⟩

def Short (xs:List Wd):Prop:=∀ x ∈ xs,x.n≤100
set_option maxRecDepth 100000 in
theorem info_int:(Tryz.prog.info? 3).map (fun i=>(i.zero,i.size,i.bytes))=some (some (.int .i64 0),1,8):=by kernel_rfl
set_option maxRecDepth 100000 in
theorem info_words:(Tryz.prog.info? 51).map (fun i=>(i.zero,i.size,i.bytes))=some (some (.slice none 0 0),1,24):=by kernel_rfl

end Go.Proofs.YtkiamgcpcneggaaGreat

/-
 DERIVED: THE SHELF's CONTRACTS AT THIS DUMP,IN PLAIN WORDS (tools/lay-plain.mjs out of 'YtkiamgcpcneggaaGreatOrderLay.lean',which tools/lay-shelf.mjs wrote): THE SAME DECLARATIONS UNDER THE SAME NAMES: 'import','namespace','open','def','theorem' AND NOTHING ELSE: no command of the shelf's: FOR A HAND-IN. Each laying: the table of numbers ('.._ren') and one theorem,a field a fact of the dump's own or the kernel's comparison;each contract: ONE APPLICATION.
-/
namespace Go.Proofs
open Go.Shelf
end Go.Proofs

/- Used by the law. -/
namespace Go.Proofs.YtkiamgcpcneggaaGreat
open Go.RowKit Go.Sort

end Go.Proofs.YtkiamgcpcneggaaGreat

/- Used by the law. -/
namespace Go.Proofs.YtkiamgcpcneggaaGreat
open Go.RowKit

theorem words_oneCell (xs:List Wd):∀ v ∈ vals xs,v.oneCell'=true:=by
 intro v hv
 obtain ⟨x,_,rfl⟩:=List.mem_map.1 hv
 rfl

theorem owns_nil_words (w:World) (B:Nat):w.ownsRow B 51 1 (.slice none 0 0) 0 (vals []):=⟨rfl,.inl ⟨rfl,rfl⟩⟩

set_option maxRecDepth 100000 in
theorem Ws.newc {w:World} {t:TypeId} {B n m:Nat} (xs:List Wd) (hg:∀ x ∈ xs,x.Good w) (hl:xs.length≤maxLen) (hB:B=w.heap.size) (hn:xs.length=n) (hm:xs.length=m) :
 Ws (w.alloc (.cells (vals xs).toArray t)) (some ⟨B,0,none⟩) n m xs:=by
 subst hB hn hm
 refine ⟨rfl,Nat.le_refl _,hl,fun x hx=>(hg x hx).below ((Below.refl w.heap.size w).alloc (Nat.le_refl _) _) (Nat.le_refl _),.inr ⟨w.heap.size,0,rfl,fun i hi=>?_⟩⟩
 rw [World.cell?_alloc_at _ _ _ _ (by rfl)]
 simp [vals,hi]

abbrev GWd (w:World):Type:={ x:Wd // x.Good w }
instance (w:World):Inhabited (GWd w):=⟨⟨Wd.no,Wd.no_good w⟩⟩
def GWd.v {w:World} (x:GWd w):Value:=x.1.v
def GWd.cf {w:World} (x y:GWd w):Int:=cmpL x.1.zs y.1.zs

end Go.Proofs.YtkiamgcpcneggaaGreat

/- Used by the law. -/
namespace Go.Proofs.YtkiamgcpcneggaaGreat
open Go.RowKit

def Form (a:Option Addr) (c:Nat):Prop:=(a=none∧c=0)∨∃ g,a=some ⟨g,0,none⟩
theorem Form.nil {a:Option Addr} {c:Nat} (h:Form a c):a=none→c=0:=by
 intro e
 rcases h with ⟨_,h⟩|⟨g,h⟩
 ·exact h
 ·rw [e] at h;cases h
end Go.Proofs.YtkiamgcpcneggaaGreat

/- Used by the law. -/
namespace Go.Proofs.YtkiamgcpcneggaaGreat
open Go.RowKit

theorem Short.snoc {xs:List Wd} {x:Wd} (h:Short xs) (hx:x.n≤100):Short (xs ++ [x]):=by
 intro y hy
 rcases List.mem_append.1 hy with hy|hy
 ·exact h y hy
 ·simp only [List.mem_singleton] at hy;rw [hy];exact hx

def Wd.Far (k:Option Nat) (x:Wd):Prop:=x.n=0∨∃ b off,x.a=some ⟨b,off,none⟩∧k≠some b

theorem Wd.Good.grown {w w':World} {x:Wd} {k:Option Nat} (h:x.Good w) (hg:w.grownBy w' k) (hf:x.Far k):x.Good w':=by
 obtain ⟨h1,h2,h3,h4,h5⟩:=h
 refine ⟨h1,h2,h3,h4,?_⟩
 rcases h5 with h5|⟨b,off,ha,hc⟩
 ·exact .inl h5
 ·rcases hf with hf|⟨b',off',ha',hk⟩
  ·exact .inl hf
  ·rw [ha] at ha'
   simp only [Option.some.injEq,Addr.mk.injEq,and_true] at ha'
   obtain ⟨rfl,rfl⟩:=ha'
   exact .inr ⟨b,off,ha,fun i hi=>hg.cell (hc i hi) (fun e=>hk e.symm)⟩

theorem Wd.Good.far_new {w:World} {x:Wd} {H:Nat} (h:x.Good w) (hH:w.heap.size≤H):x.Far (some H):=by
 obtain ⟨h1,h2,h3,h4,h5⟩:=h
 rcases h5 with h5|⟨b,off,ha,hc⟩
 ·exact .inl h5
 ·rcases Nat.eq_zero_or_pos x.n with h0|hp
  ·exact .inl h0
  ·refine .inr ⟨b,off,ha,fun e=>?_⟩
   have:=cell_lt (hc 0 hp)
   simp only [Option.some.injEq] at e
   omega

end Go.Proofs.YtkiamgcpcneggaaGreat
