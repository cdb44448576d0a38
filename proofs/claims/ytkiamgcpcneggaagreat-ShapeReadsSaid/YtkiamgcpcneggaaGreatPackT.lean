import Derived.Test.YtkiamgcpcneggaaGreatPackS
import Derived.Test.YtkiamgcpcneggaaGreatPackM
import Derived.Test.YtkiamgcpcneggaaGreatPackD
import Derived.Maps.AppendAt
set_option linter.all false
/- Used by the law. -/
namespace Go.Proofs.YtkiamgcpcneggaaGreat
open Go.RowKit Tri

def lv (o:Option Int):Int:=o.getD (-1)
set_option maxRecDepth 100000 in
theorem arcMay_lv (n i:Nat) (o:Option Int) (s t:Int):arcMay n i o (s,t)=(decide (lv o < s) && Utf.good s && decide ((i:Int) < t) && decide (t < (n:Int))):=by
 unfold arcMay
 cases o with
 | none =>
   simp only [behind,lv,Option.getD_none]
   cases hg:Utf.good s with
   | false=>simp
   | true =>
     have:-1 < s:=by simp [Utf.good] at hg;omega
     simp [this]
 | some q =>
   simp only [behind,lv,Option.getD_some]
   rw [Bool.eq_iff_iff]
   simp only [Bool.and_eq_true,decide_eq_true_eq]
   constructor
   ·rintro ⟨⟨⟨a,b⟩,c⟩,d⟩;exact ⟨⟨⟨decide_eq_true d,a⟩,b⟩,c⟩
   ·rintro ⟨⟨⟨d,a⟩,b⟩,c⟩;exact ⟨⟨⟨a,b⟩,c⟩,of_decide_eq_true d⟩
theorem arcsOk_not {n i:Nat} {l:List (Int × Int)} {j:Nat} (h:arcsOk n i none (l.take j)=false):arcsOk n i none l=false:=by
 cases hc:arcsOk n i none l with
 | false=>rfl
 | true =>
   have:=arcsOk_pre (l.take j) (l.drop j) none (by rw [List.take_append_drop];exact hc)
   rw [h] at this;cases this

set_option maxRecDepth 100000 in
set_option maxHeartbeats 3200000 in
theorem checkC_is (lb ab nb:Nat) (p s t:Int) (i n cap:Nat) (a:Option Addr) (r:Bool) (W:World) (hl:W.heap[lb]?=some (.cells #[.int .i64 p] 3 (0,0))) (ha:W.cell? ⟨ab,0,none⟩=some (.int .i64 (i:Int))) (hn:W.cell? ⟨nb,0,none⟩=some (.slice a n cap)) (hne:ab≠lb) (hne':nb≠lb)
 (hs:(Lit.int .i64 s).wf=true) (hr:(decide (p < s) && Utf.good s && decide ((i:Int) < t) && decide (t < (n:Int)))=!r) :
 Calls Tryz.prog 59 #[.agg #[.int .i64 s,.int .i64 t],.pointer (some ⟨lb,0,none⟩),.pointer (some ⟨ab,0,none⟩),.pointer (some ⟨nb,0,none⟩)] W fun e w'=>e=.returned (.bool r)∧w'.heap[lb]?=some (.cells #[.int .i64 s] 3 (0,0))∧W.grownBy w' (some lb):=by
 have hlc:∀ o,(W.alloc o).cell? ⟨lb,0,none⟩=some (.int .i64 p):=fun o=>by
  rw [((Below.refl W.heap.size W).alloc (Nat.le_refl _) o).cell (p:=⟨lb,0,none⟩) (Array.getElem?_eq_some_iff.1 hl).1]
  simp only [World.cell?];rw [hl];rfl
 have hll:∀ o,(W.alloc o).heap[lb]?=some (.cells #[.int .i64 p] 3 (0,0)):=fun o=>by
  rw [((Below.refl W.heap.size W).alloc (Nat.le_refl _) o).block _ (Array.getElem?_eq_some_iff.1 hl).1];exact hl
 have hlf:∀ o,(W.alloc o).frozen? ⟨lb,0,none⟩=false:=fun o=>by
  simp only [World.frozen?];rw [hll o];rfl
 have hac:∀ o v,((W.alloc o).setCell ⟨lb,0,none⟩ v).cell? ⟨ab,0,none⟩=some (.int .i64 (i:Int)):=fun o v=>by
  rw [World.cell?_of_block (w:=W.alloc o) (heap_setCell_other _ _ _ _ hne),((Below.refl W.heap.size W).alloc (Nat.le_refl _) o).cell (p:=⟨ab,0,none⟩) (cell_lt ha)];exact ha
 have hnc:∀ o v,((W.alloc o).setCell ⟨lb,0,none⟩ v).cell? ⟨nb,0,none⟩=some (.slice a n cap):=fun o v=>by
  rw [World.cell?_of_block (w:=W.alloc o) (heap_setCell_other _ _ _ _ hne'),((Below.refl W.heap.size W).alloc (Nat.le_refl _) o).cell (p:=⟨nb,0,none⟩) (cell_lt hn)];exact hn
 have hltb:lb < W.heap.size:=(Array.getElem?_eq_some_iff.1 hl).1
 have hb0:∀ v,((W.alloc (Obj.cells #[.int .i64 s,.int .i64 t] 95)).setCell ⟨lb,0,none⟩ v).cell? ⟨W.heap.size,0,none⟩=some (.int .i64 s):=fun v=>by
  rw [World.cell?_of_block (w:=W.alloc _) (heap_setCell_other _ _ _ _ (show W.heap.size≠lb by omega))]
  exact (lit2 W (.int .i64 s) (.int .i64 t) 95 (0,0)).1
 have hb1:∀ v,((W.alloc (Obj.cells #[.int .i64 s,.int .i64 t] 95)).setCell ⟨lb,0,none⟩ v).cell? ⟨W.heap.size,1,none⟩=some (.int .i64 t):=fun v=>by
  rw [World.cell?_of_block (w:=W.alloc _) (heap_setCell_other _ _ _ _ (show W.heap.size≠lb by omega))]
  exact (lit2 W (.int .i64 s) (.int .i64 t) 95 (0,0)).2
 have hend:∀ o v,Hid (((W.alloc o).setCell ⟨lb,0,none⟩ v).heap[lb]?=some (.cells #[v] 3 (0,0))∧W.grownBy ((W.alloc o).setCell ⟨lb,0,none⟩ v) (some lb)):=fun o v=>by
  refine ⟨?_,?_⟩
  ·rw [heap_setCell_same _ _ _ _ _ _ (hll o)];rfl
  ·exact (World.grownBy_alloc W o (some lb)).trans ⟨rfl,rfl,rfl,by simp,fun k _ hk=>heap_setCell_other _ _ _ _ (fun e=>hk (by rw [e]))⟩
 have hbd:=bounds_i64 hs
 have HBD:=Lib.hid hbd
 have HN:=Lib.hid hn
 obtain ⟨g,hg⟩:∃ g,Utf.good s=g:=⟨_,rfl⟩
 have HG:=Lib.hid hg
 rw [hg] at hr
 clear hl hll ha hn hbd hg hs hltb
 by_cases c1:p < s
 ·have c1d:decide (s > p)=true:=decide_eq_true c1
  cases g
  ·obtain rfl:r=true:=by simpa using hr.symm
   clear hr c1
   go_enter Tryz.func59,Tryz.ntmps59
   go_wp2_with (go_at_call 60;refine (good_any s _ HBD.out.1 HBD.out.2).mono ?_;rintro e w' ⟨rfl,rfl⟩;rw [HG.out])
   go_ret
   exact ⟨rfl,(hend _ _).out⟩
  ·by_cases c2:t≤(i:Int)
   ·have c2d:decide (t≤(i:Int))=true:=decide_eq_true c2
    have:decide ((i:Int) < t)=false:=decide_eq_false (by omega)
    obtain rfl:r=true:=by rw [this] at hr;simpa using hr.symm
    clear hr c1 c2 this
    go_enter Tryz.func59,Tryz.ntmps59
    go_wp2_with (go_at_call 60;refine (good_any s _ HBD.out.1 HBD.out.2).mono ?_;rintro e w' ⟨rfl,rfl⟩;rw [HG.out])
    go_ret
    exact ⟨rfl,(hend _ _).out⟩
   ·have c2d:decide (t≤(i:Int))=false:=decide_eq_false c2
    have h2:decide ((i:Int) < t)=true:=decide_eq_true (by omega)
    have hrr:r=decide (t ≥ (n:Int)):=by
     rw [h2,show decide (p < s)=true from decide_eq_true c1] at hr
     by_cases c3:t < (n:Int)
     ·rw [show decide (t < (n:Int))=true from decide_eq_true c3] at hr
      rw [show decide (t ≥ (n:Int))=false from decide_eq_false (by omega)]
      simpa using hr.symm
     ·rw [show decide (t < (n:Int))=false from decide_eq_false c3] at hr
      rw [show decide (t ≥ (n:Int))=true from decide_eq_true (by omega)]
      simpa using hr.symm
    subst hrr
    clear hr c1 c2 h2
    go_enter Tryz.func59,Tryz.ntmps59
    go_wp2_with (go_at_call 60;refine (good_any s _ HBD.out.1 HBD.out.2).mono ?_;rintro e w' ⟨rfl,rfl⟩;rw [HG.out])
    go_ret
    exact ⟨by first|rfl|simp,(hend _ _).out⟩
 ·have c1d:decide (s > p)=false:=decide_eq_false c1
  obtain rfl:r=true:=by rw [show decide (p < s)=false from decide_eq_false c1] at hr;simpa using hr.symm
  clear hr c1
  go_enter Tryz.func59,Tryz.ntmps59
  go_wp2
  go_ret
  exact ⟨rfl,(hend _ _).out⟩

set_option maxRecDepth 100000 in
set_option maxHeartbeats 3200000 in
theorem indexArcs_is (lb ab nb i n cap sn sc:Nat) (a sa:Option Addr) (arcs:List (Int × Int)) (w:World) (hl:w.heap[lb]?=some (.cells #[.int .i64 (-1)] 3 (0,0))) (ha:w.cell? ⟨ab,0,none⟩=some (.int .i64 (i:Int))) (hn:w.cell? ⟨nb,0,none⟩=some (.slice a n cap)) (hne:ab≠lb) (hne':nb≠lb)
 (hs:Ars w sa sn sc arcs) (hb:0 < sn→∀ b off,sa=some ⟨b,off,none⟩→b≠lb) :
 Calls Tryz.prog 106 #[.slice sa sn sc,.func (.func 59) #[] #[.pointer (some ⟨lb,0,none⟩),.pointer (some ⟨ab,0,none⟩),.pointer (some ⟨nb,0,none⟩)]] w fun e w'=>∃ k:Int,e=.returned (.int .i64 k)∧decide (k ≥ 0)=!arcsOk n i none arcs∧w.grownBy w' (some lb):=by
 have hsl:=hs.2.1
 have hscm:=hs.2.2.1
 unfold maxLen at hscm
 have HS:=Lib.hid hs
 have HSL:=Lib.hid hs.1
 have HL:=Lib.hid hl
 have HAB:=Lib.hid ha
 have HNB:=Lib.hid hn
 have HB:=Lib.hid hb
 have HNE:Hid (ab≠lb∧nb≠lb):=⟨hne,hne'⟩
 clear hs hl ha hn hb hne hne'
 go_enter Tryz.func106,Tryz.ntmps106
 go_wp2
 go_loopw [8] (fun ix wr=>∃ j:Nat,j≤sn∧ix=.int .i64 (j:Int)∧Hid (arcsOk n i none (arcs.take j)=true)∧Hid (wr.heap[lb]?=some (.cells #[.int .i64 (lv (lastS none (arcs.take j)))] 3 (0,0)))∧Hid (w.grownBy wr (some lb))) (fun ix _=>sn - (intOf ix).toNat)
 case atStart=>exact ⟨0,Nat.zero_le _,rfl,rfl,HL.out,World.grownBy.refl w _⟩
 case round =>
  obtain ⟨j,hj,rfl,HT,HLJ,HG⟩:=hrel
  by_cases hlt:j < sn
  ·obtain ⟨b2,o2,s,t,rfl,hb2,hy1,hy2,hws,hwt,hz2⟩:=HS.out.one j hlt
   have hy1':wr.cell? ⟨b2,o2 + j * 2,none⟩=some (.int .i64 s):=HG.out.cell hy1 (fun e=>HB.out (by omega) b2 o2 rfl (Option.some.inj e))
   have hy2':wr.cell? ⟨b2,o2 + j * 2 + 1,none⟩=some (.int .i64 t):=HG.out.cell hy2 (fun e=>HB.out (by omega) b2 o2 rfl (Option.some.inj e))
   have HAJ:Hid (wr.cell? ⟨ab,0,none⟩=some (.int .i64 (i:Int))):=HG.out.cell HAB.out (fun e=>HNE.out.1 (Option.some.inj e))
   have HNJ:Hid (wr.cell? ⟨nb,0,none⟩=some (.slice a n cap)):=HG.out.cell HNB.out (fun e=>HNE.out.2 (Option.some.inj e))
   have HST:Hid (arcs.take (j + 1)=arcs.take j ++ [(s,t)]):=arcs_step (by rw [HSL.out];exact hlt) hz2
   have HLS:Hid (lastS none (arcs.take (j + 1))=some s):=lastS_take (by rw [HSL.out];exact hlt) hz2
   have HWS:=Lib.hid hws
   have hlti:(j:Int) < (sn:Int):=by omega
   obtain ⟨q,hq⟩:∃ q,arcMay n i (lastS none (arcs.take j)) (s,t)=!q:=⟨!arcMay n i (lastS none (arcs.take j)) (s,t),by simp⟩
   have HQ:Hid ((decide (lv (lastS none (arcs.take j)) < s) && Utf.good s && decide ((i:Int) < t) && decide (t < (n:Int)))=!q):=by show _=_;rw [← arcMay_lv];exact hq
   have HOK:Hid (arcsOk n i none (arcs.take (j + 1))=!q):=by show _=_;rw [HST.out,arcsOk_snoc,HT.out,hq];simp
   clear hy1 hy2 hz2 hws hwt hq hb2
   go_wp2_with fail
   refine (checkC_is lb ab nb _ s t i n cap a q wr HLJ.out HAJ.out HNJ.out HNE.out.1 HNE.out.2 HWS.out HQ.out).mono ?_
   rintro e w1 ⟨rfl,hl1,hg1⟩
   have HL1:=Lib.hid hl1
   have HG1:Hid (w.grownBy w1 (some lb)):=HG.out.trans hg1
   clear hl1 hg1
   cases q
   ·go_wp2
    go_roundw
    case rel=>exact ⟨j + 1,by omega,by go_num,HOK.out,(by show _=_;rw [HLS.out];exact HL1.out),HG1.out⟩
    case measure=>simp [intOf];omega
   ·go_wp2
    go_ret
    refine ⟨(j:Int),rfl,?_,HG1.out⟩
    rw [arcsOk_not HOK.out];simp
  ·obtain rfl:j=sn:=by omega
   have HALL:Hid (arcsOk n i none arcs=true):=by
    have h:=HT.out
    rw [List.take_of_length_le (by rw [HSL.out];exact Nat.le_refl _)] at h
    exact h
   go_wp2
   go_ret
   refine ⟨-1,rfl,?_,HG.out⟩
   rw [HALL.out];decide

set_option maxRecDepth 100000 in
set_option maxHeartbeats 1600000 in
theorem containsArcs_is (lb ab nb i n cap sn sc:Nat) (a sa:Option Addr) (arcs:List (Int × Int)) (r:Bool) (w:World) (hl:w.heap[lb]?=some (.cells #[.int .i64 (-1)] 3 (0,0))) (ha:w.cell? ⟨ab,0,none⟩=some (.int .i64 (i:Int))) (hn:w.cell? ⟨nb,0,none⟩=some (.slice a n cap)) (hne:ab≠lb) (hne':nb≠lb)
 (hs:Ars w sa sn sc arcs) (hb:0 < sn→∀ b off,sa=some ⟨b,off,none⟩→b≠lb) (hr:arcsOk n i none arcs=!r) :
 Calls Tryz.prog 61 #[.slice sa sn sc,.func (.func 59) #[] #[.pointer (some ⟨lb,0,none⟩),.pointer (some ⟨ab,0,none⟩),.pointer (some ⟨nb,0,none⟩)]] w fun e w'=>e=.returned (.bool r)∧w.grownBy w' (some lb):=by
 have hc:=indexArcs_is lb ab nb i n cap sn sc a sa arcs w hl ha hn hne hne' hs hb
 have HR:=Lib.hid hr
 clear hl ha hn hs hb hr
 go_enter Tryz.func61,Tryz.ntmps61
 go_wp2_with fail
 refine hc.mono ?_
 rintro e w1 ⟨k,rfl,hk,hg⟩
 have hk':decide (k ≥ 0)=r:=by rw [hk,HR.out];simp
 clear hk hc
 subst hk'
 go_wp2
 go_ret
 exact ⟨rfl,hg⟩

end Go.Proofs.YtkiamgcpcneggaaGreat

/- Used by the law. -/
namespace Go.Proofs.YtkiamgcpcneggaaGreat
open Go.RowKit Tri

set_option maxRecDepth 100000 in
theorem check_long {l:List St} (h:l.length=0∨6001 < l.length):check l=false:=by
 unfold check
 rcases h with h|h
 ·have:decide (1≤l.length)=false:=decide_eq_false (by omega)
  rw [this];simp
 ·have:decide (l.length≤6001)=false:=decide_eq_false (by omega)
  rw [this];simp
theorem checkA_step {n:Nat} {l:List St} {i:Nat} {s:St} (hi:i < l.length) (hs:l.getD i St.no=s) (h:checkA n 0 (l.take i)=true) (ho:arcsOk n i none s.arcs=true):checkA n 0 (l.take (i + 1))=true:=by
 have e:l.take (i + 1)=l.take i ++ [s]:=by rw [List.take_succ_eq_append_getElem hi,← hs];simp [hi]
 rw [e,checkA_app,h,Nat.zero_add,show (l.take i).length=i by simp;omega]
 simp [checkA,ho]

theorem three (w:World) (A B C:Obj):(((w.alloc A).alloc B).alloc C).heap[w.heap.size]?=some A∧(((w.alloc A).alloc B).alloc C).heap[w.heap.size + 1 + 1]?=some C∧Below w.heap.size w (((w.alloc A).alloc B).alloc C):=by
 have h1:=(World.size_alloc w A)
 have h2:=(World.size_alloc (w.alloc A) B)
 refine ⟨?_,?_,((Below.refl _ w).alloc (Nat.le_refl _) A).alloc (by omega) B |>.alloc (by omega) C⟩
 ·rw [((Below.refl _ ((w.alloc A).alloc B)).alloc (Nat.le_refl _) C).block _ (by omega),((Below.refl _ (w.alloc A)).alloc (Nat.le_refl _) B).block _ (by omega)]
  exact heap_alloc_new w A
 ·rw [show w.heap.size + 1 + 1=((w.alloc A).alloc B).heap.size by omega]
  exact heap_alloc_new _ C

set_option maxRecDepth 100000 in
set_option maxHeartbeats 6400000 in
theorem tcheck_is (a:Option Addr) (n cap:Nat) (xs:List Sw) (r:Bool) (w:World) (ha:Ss w a n cap xs) (hr:check (sts xs)=r) :
 Calls Tryz.prog 26 #[.slice a n cap] w fun e w'=>e=.returned (.bool r)∧Below w.heap.size w w':=by
 have hnc:=ha.2.1
 have hcm:=ha.2.2.1
 unfold maxLen at hcm
 have HA:=Lib.hid ha
 have HR:=Lib.hid hr
 have HL:Hid ((sts xs).length=n):=by show _=_;rw [sts_length,ha.1]
 have HBX:∀ o,Hid (Below w.heap.size w (w.alloc o)):=fun o=>(Below.refl _ w).alloc (Nat.le_refl _) o
 clear ha hr
 by_cases h0:n=0
 ·subst h0
  obtain rfl:r=false:=by rw [← HR.out];exact check_long (.inl HL.out)
  go_enter Tryz.func26,Tryz.ntmps26
  go_wp2
  go_ret
  exact ⟨rfl,(HBX _).out⟩
 have h0b:((n:Int) == 0)=false:=by simp;omega
 by_cases h1:6001 < n
 ·have h1d:decide ((n:Int) > 6001)=true:=decide_eq_true (by omega)
  obtain rfl:r=false:=by rw [← HR.out];exact check_long (.inr (by rw [HL.out];exact h1))
  clear h0 h1
  go_enter Tryz.func26,Tryz.ntmps26
  go_wp2
  go_ret
  exact ⟨rfl,(HBX _).out⟩
 have h1d:decide ((n:Int) > 6001)=false:=decide_eq_false (by omega)
 have HN1:Hid (1≤n∧n≤6001):=⟨by omega,by omega⟩
 clear h0 h1
 go_enter Tryz.func26,Tryz.ntmps26
 go_wp2
 go_loopw [17] (fun ix wr=>∃ i:Nat,i≤n∧ix=.int .i64 (i:Int)∧Hid (checkA n 0 ((sts xs).take i)=true)∧Hid (Below w.heap.size w wr)∧Hid (wr.cell? ⟨w.heap.size,0,none⟩=some (.slice a n cap))) (fun ix _=>n - (intOf ix).toNat)
 case atStart=>exact ⟨0,Nat.zero_le _,rfl,rfl,(HBX _).out,(by show _=_;simp only [World.cell?];rw [heap_alloc_new];rfl)⟩
 case round =>
  obtain ⟨i,hi,rfl,HCK,HBW,HCN⟩:=hrel
  by_cases hlt:i < n
  ·obtain ⟨b1,o1,f,sa,sn,sc,arcs,rfl,hbl,hx1,hx2,hars,hz1⟩:=(HA.out.below HBW.out (Nat.le_refl _)).one i hlt
   have HZ1:Hid ((sts xs).getD i St.no=⟨f,arcs⟩):=by show _=_;rw [sts_at,hz1];rfl
   have HAR:=Lib.hid hars
   have hlti:(i:Int) < (n:Int):=by omega
   obtain ⟨q,hq⟩:∃ q,arcsOk n i none arcs=!q:=⟨!arcsOk n i none arcs,by simp⟩
   have HQ:=Lib.hid hq
   clear hars hz1 hq hbl
   go_wp2_with fail
   obtain ⟨e1,e2,e3⟩:=three wr (Obj.cells #[.int .i64 (i:Int)] 3) (Obj.cells #[.bool f,.slice sa sn sc] 58) (Obj.cells #[.int .i64 (-1)] 3)
   have HWN:Hid (w.heap.size < wr.heap.size):=cell_lt HCN.out
   generalize (((wr.alloc (Obj.cells #[.int .i64 (i:Int)] 3)).alloc (Obj.cells #[.bool f,.slice sa sn sc] 58)).alloc (Obj.cells #[.int .i64 (-1)] 3))=w1 at *
   refine (containsArcs_is (wr.heap.size + 1 + 1) wr.heap.size w.heap.size i n cap sn sc _ sa arcs q w1 e2 (by simp only [World.cell?];rw [e1];rfl) (by rw [e3.cell (p:=⟨w.heap.size,0,none⟩) HWN.out];exact HCN.out) (by omega) (by have:=HWN.out;omega) (HAR.out.below e3 (Nat.le_refl _)) ?_ HQ.out).mono ?_
   ·intro hp b off hb
    obtain ⟨b',off',hb',hlt',_⟩:=HAR.out.at hp
    rw [hb] at hb'
    simp only [Option.some.injEq,Addr.mk.injEq,and_true] at hb'
    omega
   ·rintro e w2 ⟨rfl,hg⟩
    have HB2:Hid (Below wr.heap.size wr w2):=e3.grown hg e3.size (fun k hk=>by cases hk;omega)
    clear e1 e2 e3 hg
    cases q
    ·go_wp2
     go_roundw
     case rel=>exact ⟨i + 1,by omega,by go_num,checkA_step (by rw [HL.out];exact hlt) HZ1.out HCK.out HQ.out,HBW.out.trans (HB2.out.mono HBW.out.size),(by show _=_;rw [HB2.out.cell (p:=⟨w.heap.size,0,none⟩) HWN.out];exact HCN.out)⟩
     case measure=>simp [intOf];omega
    ·obtain rfl:r=false:=by
      rw [← HR.out]
      refine check_bad (j:=arcs.length) (by rw [HL.out];exact hlt) HZ1.out ?_
      rw [HL.out]
      show arcsOk n i none (arcs.take arcs.length)=false
      rw [List.take_length];exact HQ.out
     go_wp2
     go_ret
     exact ⟨rfl,HBW.out.trans (HB2.out.mono HBW.out.size)⟩
  ·obtain rfl:i=n:=by omega
   have hrr:r=true:=by
    have h:=HCK.out
    rw [List.take_of_length_le (by rw [HL.out];exact Nat.le_refl _)] at h
    rw [← HR.out]
    unfold check
    rw [HL.out,h,decide_eq_true HN1.out.1,decide_eq_true HN1.out.2];rfl
   subst hrr
   go_wp2
   go_ret
   exact ⟨rfl,HBW.out⟩

end Go.Proofs.YtkiamgcpcneggaaGreat
