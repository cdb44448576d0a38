import Derived.Test.YtkiamgcpcneggaaGreatPackAP
set_option linter.all false
set_option maxRecDepth 100000
set_option maxHeartbeats 12800000
namespace Go.Proofs.YtkiamgcpcneggaaGreat
section
open Go.RowKit

def imgCells:Array Value:=#[Value.slice none 0 0,Value.int .u64 0,Value.int .u64 0,Value.int .u64 0,Value.int .u64 0,Value.slice none 0 0]
theorem jq:(Tryz.prog.info? 28).map (·.size)=some 6:=by kernel_rfl

theorem il (tmps:Array Value) (w:World) (g h:Nat) (cs:Array Value) (e:Int) (hp:tmps.getD 2 undef=.pointer (some ⟨g,0,none⟩)) (hq:tmps.getD 3 undef=.pointer (some ⟨h,0,none⟩))
 (hg:w.heap[g]?=some (.cells cs 28 (0,0))) (h6:cs.size=6) (he:w.heap[h]?=some (.cells #[.int .i64 e] 33 (0,0))) :
 (results Tryz.f22 tmps).run Tryz.prog w=.ok (.tuple #[.agg cs,.int .i64 e]) w:=by
 have hp':tmps[2]?.getD undef=.pointer (some ⟨g,0,none⟩):=by simpa using hp
 have hq':tmps[3]?.getD undef=.pointer (some ⟨h,0,none⟩):=by simpa using hq
 have hi:(Tryz.prog.info? 28).map (·.size)=some cs.size:=by rw [h6];exact jq
 have hl:=run_loadVar_row (P:=Tryz.prog) w g 28 28 cs (0,0) _ hg Tryz.underlying28 (by rfl) hi
 have hc:w.cell? ⟨h,0,none⟩=some (.int .i64 e):=by rw [cell_of_row w h 0 _ _ _ he];rfl
 simp [results,Tryz.results22,asAddr,hp',hq',hl];simp [go_sem,hc]

theorem amm (p q:Addr) (w:World) :
 CallsD Tryz.prog 51 #[.pointer (some p),.pointer (some q)] .returning w fun e u' w'=>e=.returned (.tuple #[])/\u'=.returning/\w'=w:=by
 refine callsD_of_wpS Tryz.func51 rfl fun c₀ cs hu=>?_;apply wpS_seq;apply wpS_region;simp [wpOpsS,go_sem,recoverD,hu,Tryz.ntmps51,Exit.thenS];refine wpS_cond (t:=false) (by simp [Act.eval,Array.replicate]) ?_
 simp only [Bool.false_eq_true,if_false];refine wpS_of_wp (wp_skip ?_);cases c₀
 simp_all [bodyPostS,results,Tryz.results51]

theorem aiy (g h:Nat) (cs0:Array Value) (x:Int) (u:TypeId) (pv:Value) (older:List PanicEntry) (w:World) (hg:w.heap[g]?=some (.cells cs0 28 (0,0))) (h6:cs0.size=6) (he:w.heap[h]?=some (.cells #[.int .i64 x] 33 (0,0))) (hne:g≠h) :
 CallsD Tryz.prog 51 #[.pointer (some ⟨g,0,none⟩),.pointer (some ⟨h,0,none⟩)] (.panicking ({ v:=.iface u pv,recovered:=false }::older)) w fun e u' w' =>
  e=.returned (.tuple #[])/\u'=.panicking ({ v:=.iface u pv,recovered:=true }::older)/\w'.heap[g]?=some (.cells imgCells 28 (0,0))/\w'.heap[h]?=some (.cells #[.int .i64 150] 33 (0,0))/\∀B,B<=g->B<=h->Below B w w':=by
 refine callsD_of_wpS Tryz.func51 rfl fun c₀ cs hu=>?_;apply wpS_seq;apply wpS_region;simp [wpOpsS,go_sem,recoverD,hu,Tryz.ntmps51,Exit.thenS];refine wpS_cond (t:=true) (by simp [Act.eval,Array.replicate]) ?_
 simp only [if_true];refine wpS_of_wp ?_;have hi:(Tryz.prog.info? 28).map (·.size)=some imgCells.size:=jq;generalize hQ:(fun (e:Exit) (a':Act) (w':World)=>bodyPostS Tryz.prog Tryz.f51 c₀ cs (fun e u' w'=>e=.returned (.tuple #[])/\u'=FrameMode.panicking ({ v:=Value.iface u pv,recovered:=true }::older)/\w'.heap[g]?=some (.cells imgCells 28 (0,0))/\w'.heap[h]?=some (.cells #[.int .i64 150] 33 (0,0))/\∀B,B<=g->B<=h->Below B w w') e a' ({ c₀ with mode:=FrameMode.panicking ({ v:=Value.iface u pv,recovered:=true }::older) }::cs) w')=Q;show Code.wp _ _ _ { tmps:=#[Value.pointer (some ⟨g,0,none⟩),Value.pointer (some ⟨h,0,none⟩),Value.iface u pv,Value.bool true,undef],defers:=[] } w
 go_wp2_with (first
  | (refine ai (by rfl) 28 (.tmp 0) (.tmp 4) (by rfl) g imgCells (by rfl) (by rfl) 28 cs0 hg hi h6 (by simp [imgCells,Value.oneCell']) ?_;intro w1 hw1 hg1 hs1;have HW1:=hdq hw1;have HG1:=hdq hg1;have hh1:w1.heap[h]?=_:=(hg1.block h (hltq he) (by simp;omega)).trans he;have HH1:=hdq hh1;have hx1:w1.cell? ⟨h,0,none⟩=some (.int .i64 x):=(by rw [cell_of_row w1 h 0 _ _ _ hh1];rfl);have hf1:w1.frozen? ⟨h,0,none⟩=false:=(by simp [World.frozen?,hh1]);clear hw1 hg1 hs1 hh1)
  | fail)
 subst hQ;have hc:(w1.setCell ⟨h,0,none⟩ (.int .i64 150)).heap[h]?=some (.cells #[.int .i64 150] 33 (0,0)):=by rw [heap_setCell_same _ _ _ _ _ _ HH1.out];rfl
 have hc2:(w1.setCell ⟨h,0,none⟩ (.int .i64 150)).heap[g]?=some (.cells imgCells 28 (0,0)):=by rw [heap_setCell_other _ _ _ _ (by show g≠h;exact hne)];exact HW1.out
 refine ⟨rfl,_,rfl,.tuple #[],by simp [results,Tryz.results51],rfl,rfl,hc2,hc,fun B hBg hBh=>?_⟩
 refine ⟨HG1.out.os,HG1.out.tape,HG1.out.output,by have:=HG1.out.size;simp;omega,fun k hk=>?_⟩
 rw [heap_setCell_other _ _ _ _ (by show k≠h;omega)]
 rcases Nat.lt_or_ge k w.heap.size with hlt|hge
 ·exact HG1.out.block k hlt (by simp;omega)
 ·have:=(hltq he);omega

end
section
open Go.RowKit

theorem ni {P:Program} {w:World} {ops:Array Oper} {o:Oper} {act:Act} {K:Act->World->Prop} {Q:Exit->Act->World->Prop} {E:Prop} (hw:Region.wanted o (yielded ops act.tmps)=true) (ty:TypeId) (x y:Operand) (ho:o.op=.store ty x y)
 (g:Nat) (cells:Array Value) (hx:act.eval x=.pointer (some ⟨g,0,none⟩)) (hy:act.eval y=.agg cells)
 (t:TypeId) (old:Array Value) (hg:w.heap[g]?=some (.cells old t (0,0))) (hi:(P.info? ty).map (·.size)=some cells.size)
 (hold:old.size=cells.size) (h1:cells.all (·.oneCell')=true)
 (h:∀w',w'.heap[g]?=some (.cells cells t (0,0))->w.grownBy w' (some g)->w'.heap.size=w.heap.size->K (act.put o.dst undef) w') :
 if Region.wanted o (yielded ops act.tmps)=true then o.wp P act w K Q else E:=by
 rw [if_pos hw];exact wp_store_row ty x y ho g cells hx hy t old hg hi hold h1 (h _ (setRow_heap _ _ _ _ _ _ hg) ⟨rfl,rfl,rfl,by simp,fun k _ hk=>setRow_other _ _ _ _ (fun e=>hk (by rw [e]))⟩ (size_setRow _ _ _))

theorem Sl.set8 {w:World} {a:Option Addr} {n cap g j:Nat} {zs:List Int} {cs:Array Value} {T:TypeId} {fr:Nat × Nat} (h:Sl .u8 w a n cap zs) (hg:w.heap[g]?=some (.cells cs T fr)) (hno:∀(i:Nat) (z:Int),cs[i]?≠some (.int .u8 z)) (v:Value):Sl .u8 (w.setCell ⟨g,j,none⟩ v) a n cap zs:=by
 obtain ⟨h1,h2,h3,h4,h5⟩:=h;refine ⟨h1,h2,h3,h4,?_⟩;rcases h5 with h5|⟨b,off,ha,hc⟩
 ·exact .inl h5
 ·refine .inr ⟨b,off,ha,fun i hi=>?_⟩;have e:=hc i hi
  have hne:b≠g:=by
   intro hb;subst hb;rw [cell_of_row w b (off+i) cs T fr hg] at e;exact hno _ _ e
  rw [World.cell?,heap_setCell_other _ _ _ _ hne];exact e
theorem Tk.set8 {w:World} {B tb:Nat} {b:List Int} {a:Option Addr} {n cap g j:Nat} {cs:Array Value} {T:TypeId} {fr:Nat × Nat} (h:Tk w B tb b a n cap) (hg:w.heap[g]?=some (.cells cs T fr)) (hno:∀(i:Nat) (z:Int),cs[i]?≠some (.int .u8 z)) (hne:g≠tb) (v:Value):Tk (w.setCell ⟨g,j,none⟩ v) B tb b a n cap :=
 ⟨by rw [heap_setCell_other _ _ _ _ (by show tb≠g;omega)];exact h.box,h.sl.set8 hg hno v,h.low,h.le⟩
theorem axj (x:Int):∀(i:Nat) (z:Int),(#[Value.int .i64 x]:Array Value)[i]?≠some (.int .u8 z):=by
 intro i z
 match i with
 | 0=>simp
 | i+1=>simp
theorem axk (a:Option Addr) (n c:Nat):∀(i:Nat) (z:Int),(#[Value.slice a n c,Value.int .u64 0,Value.int .u64 0,Value.int .u64 0,Value.int .u64 0,Value.slice none 0 0]:Array Value)[i]?≠some (.int .u8 z):=by
 intro i z
 match i with
 | 0=>simp
 | 1=>simp
 | 2=>simp
 | 3=>simp
 | 4=>simp
 | 5=>simp
 | i+6=>simp
theorem aqy {w:World} {G:Nat} {u v0 v1 v2 v3 v4 m l o t r:Value} {T:TypeId} (h:w.heap[G]?=some (.cells #[u,v0,v1,v2,v3,v4] T (0,0))) :
 (((((w.setCell ⟨G,1,none⟩ m).setCell ⟨G,2,none⟩ l).setCell ⟨G,3,none⟩ o).setCell ⟨G,4,none⟩ t).setCell ⟨G,5,none⟩ r).heap[G]?=some (.cells #[u,m,l,o,t,r] T (0,0)):=by
 have h1:(w.setCell ⟨G,1,none⟩ m).heap[G]?=some (.cells #[u,m,v1,v2,v3,v4] T (0,0)):=by rw [heap_setCell_same _ _ _ _ _ _ h];rfl
 have h2:((w.setCell ⟨G,1,none⟩ m).setCell ⟨G,2,none⟩ l).heap[G]?=some (.cells #[u,m,l,v2,v3,v4] T (0,0)):=by rw [heap_setCell_same _ _ _ _ _ _ h1];rfl
 have h3:(((w.setCell ⟨G,1,none⟩ m).setCell ⟨G,2,none⟩ l).setCell ⟨G,3,none⟩ o).heap[G]?=some (.cells #[u,m,l,o,v3,v4] T (0,0)):=by rw [heap_setCell_same _ _ _ _ _ _ h2];rfl
 have h4:((((w.setCell ⟨G,1,none⟩ m).setCell ⟨G,2,none⟩ l).setCell ⟨G,3,none⟩ o).setCell ⟨G,4,none⟩ t).heap[G]?=some (.cells #[u,m,l,o,t,v4] T (0,0)):=by rw [heap_setCell_same _ _ _ _ _ _ h3];rfl
 rw [heap_setCell_same _ _ _ _ _ _ h4];rfl

theorem axl {b y:List Int} (h:Crc.opn b=some y):y.length<=b.length:=by
 unfold Crc.opn at h;split at h
 ·cases h;simp
 ·cases h
theorem jd {tmps:Array Value} {V w:World} {g h:Nat} {cs0:Array Value} {x:Int} {b:List Int} (hp:tmps.getD 2 undef=.pointer (some ⟨g,0,none⟩)) (hq:tmps.getD 3 undef=.pointer (some ⟨h,0,none⟩)) (hgV:V.heap[g]?=some (.cells cs0 28 (0,0))) (h6:cs0.size=6)
 (heV:V.heap[h]?=some (.cells #[.int .i64 x] 33 (0,0))) (hne:g≠h) (hr:Img.read b=.inr 150) (hB:Below w.heap.size w V) (hg:w.heap.size<=g) (hh:w.heap.size<=h) :
 Leaves Tryz.prog Tryz.f22 tmps (fun e w'=>ImgIs w' e (Img.read b)/\Below w.heap.size w w') [{ target:=.fn (.func 51) #[.pointer (some ⟨g,0,none⟩),.pointer (some ⟨h,0,none⟩)],args:=#[] }] (.panicking formPanic) V:=by
 refine leaves_cons (f:=51) (args:=#[.pointer (some ⟨g,0,none⟩),.pointer (some ⟨h,0,none⟩)]) (by simp) (by simp [go_sem]) ?_
 refine (aiy g h cs0 x _ _ [] V hgV h6 heV hne).mono ?_;rintro e u' w' ⟨rfl,rfl,h1,h2,h3⟩;exact ⟨_,il tmps w' g h imgCells 150 hp hq h1 rfl h2,.inr ⟨150,hr,rfl⟩,hB.trans (h3 _ hg hh)⟩
theorem aqz {tmps:Array Value} {V w:World} {g h:Nat} {b:List Int} {x:Iw} (hp:tmps.getD 2 undef=.pointer (some ⟨g,0,none⟩)) (hq:tmps.getD 3 undef=.pointer (some ⟨h,0,none⟩)) (hgV:V.heap[g]?=some (.cells #[.slice x.a x.n x.cap,.int .u64 x.c.m,.int .u64 x.c.l,.int .u64 x.c.o,.int .u64 x.c.t,.slice x.c.a x.c.n x.c.cap] 28 (0,0)))
 (heV:V.heap[h]?=some (.cells #[.int .i64 0] 33 (0,0))) (hr:Img.read b=.inl x.im) (hx:x.Good V) (hB:Below w.heap.size w V) :
 Leaves Tryz.prog Tryz.f22 tmps (fun e w'=>ImgIs w' e (Img.read b)/\Below w.heap.size w w') [{ target:=.fn (.func 51) #[.pointer (some ⟨g,0,none⟩),.pointer (some ⟨h,0,none⟩)],args:=#[] }] .returning V:=by
 refine leaves_cons (f:=51) (args:=#[.pointer (some ⟨g,0,none⟩),.pointer (some ⟨h,0,none⟩)]) (by simp) (by simp [go_sem]) ?_
 refine (amm ⟨g,0,none⟩ ⟨h,0,none⟩ V).mono ?_;rintro e u' w' ⟨rfl,rfl,rfl⟩;exact ⟨_,il tmps w' g h _ 0 hp hq hgV rfl heV,.inl ⟨x,hr,hx,rfl⟩,hB⟩

theorem auy (a:Option Addr) (n cap:Nat) (b:List Int) (w:World) (hs:Sl .u8 w a n cap b) (hn:n<=200000000000) :
 Calls Tryz.prog 22 #[.slice a n cap] w fun e w'=>ImgIs w' e (Img.read b)/\Below w.heap.size w w':=by
 have hmx:Tryz.prog.follows .mixedOrders=true:=by kernel_rfl
 have hmf:∀(fn:Fn) (first cap:Array Value) (w:World),(Instr.makeFunc fn first cap).run Tryz.prog w=.ok (.func fn first cap) w:=fun _ _ _ _=>rfl
 have HS:=hdq hs;obtain ⟨W2,hW2⟩:∃W2,W2=(w.alloc (.cells imgCells 28)).alloc (.cells #[.int .i64 0] 33):=⟨_,rfl⟩
 have HW2:Hid (W2.heap.size=w.heap.size+2/\Below w.heap.size w W2/\W2.heap[w.heap.size]?=some (.cells imgCells 28 (0,0))/\W2.heap[w.heap.size+1]?=some (.cells #[.int .i64 0] 33 (0,0))):=by
  rw [hW2];refine ⟨by simp,((Below.refl _ w).alloc lrf _).alloc (by simp) _,?_,?_⟩
  ·rw [heap_alloc_old _ _ (by simp)];exact han w _
  ·have h:=han (w.alloc (.cells imgCells 28)) (.cells #[.int .i64 0] 33);have e:(w.alloc (.cells imgCells 28)).heap.size=w.heap.size+1:=by simp
   rwa [e] at h
 have HCO:=hdq (auf a n cap b W2 (hs.below HW2.out.2.1 lrf) (by omega))
 rw [hW2] at HCO;have HE2:=hdq hW2;clear hs hW2;go_enter_defers Tryz.func22,Tryz.ntmps22;go_wp2_with fail;refine HCO.out.mono ?_;rintro e w1 ⟨ho,hb1⟩;rw [<-HE2.out] at hb1;have hg1:w1.heap[w.heap.size]?=_:=(hb1.block _ (by have:=HW2.out.1;omega)).trans HW2.out.2.2.1
 have hh1:w1.heap[w.heap.size+1]?=_:=(hb1.block _ (by have:=HW2.out.1;omega)).trans HW2.out.2.2.2
 have hx1:w1.cell? ⟨w.heap.size+1,0,none⟩=some (.int .i64 0):=by rw [cell_of_row w1 _ 0 _ _ _ hh1];rfl
 have hf1:w1.frozen? ⟨w.heap.size+1,0,none⟩=false:=by simp [World.frozen?,hh1]
 have HG1:=hdq hg1;have HH1:=hdq hh1;have B1:Hid (Below w.heap.size w w1):=HW2.out.2.1.trans (hb1.mono (by have:=HW2.out.1;omega))
 have Z1:Hid (w.heap.size+2<=w1.heap.size):=by have h:=hb1.size;rw [HW2.out.1] at h;exact h
 clear hg1 hh1 hb1 HCO HE2
 cases hr:Crc.opn b with
 | none =>
   rcases ho with ⟨y,a1,n1,c1,h1,-,-⟩|⟨-,rfl⟩
   ·rw [hr] at h1;cases h1
   have HR:=hdq (Img.asb hr);clear hr;go_wp2;obtain ⟨V,hV⟩:∃V,V=w1.setCell ⟨w.heap.size+1,0,none⟩ (.int .i64 140):=⟨_,rfl⟩;rw [<-hV];have HGV:Hid (V.heap[w.heap.size]?=some (.cells imgCells 28 (0,0))):=by show _=_;rw [hV,heap_setCell_other _ _ _ _ (by show w.heap.size≠w.heap.size+1;omega)];exact HG1.out
   have HHV:Hid (V.heap[w.heap.size+1]?=some (.cells #[.int .i64 140] 33 (0,0))):=by show _=_;rw [hV,heap_setCell_same _ _ _ _ _ _ HH1.out];rfl
   have BV:Hid (Below w.heap.size w V):=by rw [hV];exact B1.out.setCell (p:=⟨w.heap.size+1,0,none⟩) (by show w.heap.size<=w.heap.size+1;omega) _
   have hxV:V.cell? ⟨w.heap.size+1,0,none⟩=some (.int .i64 140):=by rw [cell_of_row V _ 0 _ _ _ HHV.out];rfl
   have hltV:w.heap.size+1<V.heap.size:=(hltq HHV.out);clear hV hx1 hf1;refine wp_region_held_drew (S:=(fun _=>True)) (by kernel_rfl) (by first|(trivial)|((try dsimp only);trivial)) (fun hHeld=>?_)
   refine em 0 1 (fun K hK=>?_) (fun K hK=>?_)
   ·go_simp;refine k_h hK (by trivial) (fun hHeld=>?_)
    clear hK K;refine em 1 2 (fun K hK=>?_) (fun K hK=>?_)
    ·go_simp;refine k_h hK (by trivial) (fun hHeld=>?_)
     clear hK K;refine r_h 2 (fun K hK=>?_);refine ni (by rfl) 28 (.tmp 2) (.tmp 15) (by rfl) w.heap.size imgCells (by rfl) (by rfl) 28 imgCells (show V.drew.heap[w.heap.size]?=_ from HGV.out) jq rfl (by simp [imgCells,Value.oneCell']) ?_
     intro wS hwS hgS hsS;have HGS:=hdq hwS;have hhS:wS.heap[w.heap.size+1]?=_:=(hgS.block _ hltV (by simp)).trans HHV.out
     have HHS:=hdq hhS;have hxS:wS.cell? ⟨w.heap.size+1,0,none⟩=some (.int .i64 140):=(by rw [cell_of_row wS _ 0 _ _ _ hhS];rfl)
     have hfS:wS.frozen? ⟨w.heap.size+1,0,none⟩=false:=(by simp [World.frozen?,hhS])
     have BS:Hid (Below w.heap.size w wS):=BV.out.grown (show V.grownBy wS (some w.heap.size) from ⟨hgS.os,hgS.tape,hgS.output,hgS.size,hgS.block⟩) (by omega) (fun k hk=>by cases hk;exact Nat.le_refl _)
     clear hwS hgS hsS hhS;refine k_h hK (by trivial) (fun hHeld=>?_)
     clear hK K;refine r_h 3 (fun K hK=>?_);go_simp;refine k_h hK (by trivial) (fun hHeld=>?_)
     clear hK K;refine wpAnyH_done (by kernel_rfl) ?_ _
     go_wp2;have hfin:(wS.setCell ⟨w.heap.size+1,0,none⟩ (.int .i64 140)).heap[w.heap.size+1]?=some (.cells #[.int .i64 140] 33 (0,0)):=by rw [heap_setCell_same _ _ _ _ _ _ HHS.out];rfl
     have hfin2:(wS.setCell ⟨w.heap.size+1,0,none⟩ (.int .i64 140)).heap[w.heap.size]?=some (.cells imgCells 28 (0,0)):=by rw [heap_setCell_other _ _ _ _ (by show w.heap.size≠w.heap.size+1;omega)];exact HGS.out
     exact ⟨_,il _ _ w.heap.size (w.heap.size+1) imgCells 140 (by rfl) (by rfl) hfin2 rfl hfin,.inr ⟨140,HR.out,rfl⟩,BS.out.setCell (p:=⟨w.heap.size+1,0,none⟩) (by show w.heap.size<=w.heap.size+1;omega) _⟩
    ·refine ni (by rfl) 28 (.tmp 2) (.tmp 15) (by rfl) w.heap.size imgCells (by rfl) (by rfl) 28 imgCells (show V.drew.heap[w.heap.size]?=_ from HGV.out) jq rfl (by simp [imgCells,Value.oneCell']) ?_
     intro wS hwS hgS hsS;have HGS:=hdq hwS;have hhS:wS.heap[w.heap.size+1]?=_:=(hgS.block _ hltV (by simp)).trans HHV.out
     have HHS:=hdq hhS;have hxS:wS.cell? ⟨w.heap.size+1,0,none⟩=some (.int .i64 140):=(by rw [cell_of_row wS _ 0 _ _ _ hhS];rfl)
     have hfS:wS.frozen? ⟨w.heap.size+1,0,none⟩=false:=(by simp [World.frozen?,hhS])
     have BS:Hid (Below w.heap.size w wS):=BV.out.grown (show V.grownBy wS (some w.heap.size) from ⟨hgS.os,hgS.tape,hgS.output,hgS.size,hgS.block⟩) (by omega) (fun k hk=>by cases hk;exact Nat.le_refl _)
     clear hwS hgS hsS hhS;refine k_h hK (by trivial) (fun hHeld=>?_)
     clear hK K;refine r_h 1 (fun K hK=>?_);go_simp;refine k_h hK (by trivial) (fun hHeld=>?_)
     clear hK K;refine r_h 3 (fun K hK=>?_);go_simp;refine k_h hK (by trivial) (fun hHeld=>?_)
     clear hK K;refine wpAnyH_done (by kernel_rfl) ?_ _
     go_wp2;have hfin:(wS.setCell ⟨w.heap.size+1,0,none⟩ (.int .i64 140)).heap[w.heap.size+1]?=some (.cells #[.int .i64 140] 33 (0,0)):=by rw [heap_setCell_same _ _ _ _ _ _ HHS.out];rfl
     have hfin2:(wS.setCell ⟨w.heap.size+1,0,none⟩ (.int .i64 140)).heap[w.heap.size]?=some (.cells imgCells 28 (0,0)):=by rw [heap_setCell_other _ _ _ _ (by show w.heap.size≠w.heap.size+1;omega)];exact HGS.out
     exact ⟨_,il _ _ w.heap.size (w.heap.size+1) imgCells 140 (by rfl) (by rfl) hfin2 rfl hfin,.inr ⟨140,HR.out,rfl⟩,BS.out.setCell (p:=⟨w.heap.size+1,0,none⟩) (by show w.heap.size<=w.heap.size+1;omega) _⟩
   ·go_simp;refine k_h hK (by trivial) (fun hHeld=>?_)
    clear hK K;refine r_h 0 (fun K hK=>?_);go_simp;refine k_h hK (by trivial) (fun hHeld=>?_)
    clear hK K;refine r_h 2 (fun K hK=>?_);refine ni (by rfl) 28 (.tmp 2) (.tmp 15) (by rfl) w.heap.size imgCells (by rfl) (by rfl) 28 imgCells (show V.drew.heap[w.heap.size]?=_ from HGV.out) jq rfl (by simp [imgCells,Value.oneCell']) ?_
    intro wS hwS hgS hsS;have HGS:=hdq hwS;have hhS:wS.heap[w.heap.size+1]?=_:=(hgS.block _ hltV (by simp)).trans HHV.out
    have HHS:=hdq hhS;have hxS:wS.cell? ⟨w.heap.size+1,0,none⟩=some (.int .i64 140):=(by rw [cell_of_row wS _ 0 _ _ _ hhS];rfl)
    have hfS:wS.frozen? ⟨w.heap.size+1,0,none⟩=false:=(by simp [World.frozen?,hhS])
    have BS:Hid (Below w.heap.size w wS):=BV.out.grown (show V.grownBy wS (some w.heap.size) from ⟨hgS.os,hgS.tape,hgS.output,hgS.size,hgS.block⟩) (by omega) (fun k hk=>by cases hk;exact Nat.le_refl _)
    clear hwS hgS hsS hhS;refine k_h hK (by trivial) (fun hHeld=>?_)
    clear hK K;refine r_h 3 (fun K hK=>?_);go_simp;refine k_h hK (by trivial) (fun hHeld=>?_)
    clear hK K;refine wpAnyH_done (by kernel_rfl) ?_ _
    go_wp2;have hfin:(wS.setCell ⟨w.heap.size+1,0,none⟩ (.int .i64 140)).heap[w.heap.size+1]?=some (.cells #[.int .i64 140] 33 (0,0)):=by rw [heap_setCell_same _ _ _ _ _ _ HHS.out];rfl
    have hfin2:(wS.setCell ⟨w.heap.size+1,0,none⟩ (.int .i64 140)).heap[w.heap.size]?=some (.cells imgCells 28 (0,0)):=by rw [heap_setCell_other _ _ _ _ (by show w.heap.size≠w.heap.size+1;omega)];exact HGS.out
    exact ⟨_,il _ _ w.heap.size (w.heap.size+1) imgCells 140 (by rfl) (by rfl) hfin2 rfl hfin,.inr ⟨140,HR.out,rfl⟩,BS.out.setCell (p:=⟨w.heap.size+1,0,none⟩) (by show w.heap.size<=w.heap.size+1;omega) _⟩
 | some y =>
   obtain ⟨a1,n1,c1,rfl,hsy⟩:=ho.some hr;have HR:=hdq hr;have HY:=hdq hsy;clear hr hsy
   have hn1:n1<=200000000000:=by
    have h1:=HY.out.1;have h2:=axl HR.out;have h3:=HS.out.1;omega
   obtain ⟨V,hV⟩:∃V,V=w1.setCell ⟨w.heap.size+1,0,none⟩ (.int .i64 0):=⟨_,rfl⟩;have HGV:Hid (V.heap[w.heap.size]?=some (.cells imgCells 28 (0,0))):=by show _=_;rw [hV,heap_setCell_other _ _ _ _ (by show w.heap.size≠w.heap.size+1;omega)];exact HG1.out
   have HHV:Hid (V.heap[w.heap.size+1]?=some (.cells #[.int .i64 0] 33 (0,0))):=by show _=_;rw [hV,heap_setCell_same _ _ _ _ _ _ HH1.out];rfl
   have BV:Hid (Below w.heap.size w V):=by rw [hV];exact B1.out.setCell (p:=⟨w.heap.size+1,0,none⟩) (by show w.heap.size<=w.heap.size+1;omega) _
   have ZV:Hid (V.heap.size=w1.heap.size):=by show _=_;rw [hV];simp
   have HYV:Hid (Sl .u8 V a1 n1 c1 y):=by rw [hV];exact HY.out.set8 HH1.out (axj 0) _
   obtain ⟨W3,hW3⟩:∃W3,W3=V.alloc (.cells #[.slice a1 n1 c1] 86):=⟨_,rfl⟩;have Z3:Hid (W3.heap.size=w1.heap.size+1):=by show _=_;rw [hW3];simp [ZV.out]
   have T3:Hid (Tk W3 w1.heap.size w1.heap.size y a1 n1 c1):=by
    rw [hW3];refine ⟨?_,HYV.out.alloc _,Low.of HY.out,Nat.le_refl _⟩;have h:=han V (.cells #[.slice a1 n1 c1] 86)
    rwa [ZV.out] at h
   have G3:Hid (W3.heap[w.heap.size]?=some (.cells imgCells 28 (0,0))):=by show _=_;rw [hW3,heap_alloc_old _ _ (by rw [ZV.out];have:=Z1.out;omega)];exact HGV.out
   have H3:Hid (W3.heap[w.heap.size+1]?=some (.cells #[.int .i64 0] 33 (0,0))):=by show _=_;rw [hW3,heap_alloc_old _ _ (by rw [ZV.out];have:=Z1.out;omega)];exact HHV.out
   have B3:Hid (Below w.heap.size w W3):=by rw [hW3];exact BV.out.alloc BV.out.size _
   have HCS:=hdq (aqv w1.heap.size w1.heap.size a1 n1 c1 y W3 T3.out hn1);rw [hW3,hV] at HCS;have HWE:Hid ((w1.setCell ⟨w.heap.size+1,0,none⟩ (.int .i64 0)).alloc (.cells #[.slice a1 n1 c1] 86)=W3):=by show _=_;rw [hW3,hV]
   clear hW3 hV ho HYV HGV HHV BV T3;go_wp2_with fail;refine HCS.out.mono ?_;rintro e w4 ⟨h4,hg4⟩;rw [HWE.out] at hg4 h4;have B4:Hid (Below w.heap.size w w4):=B3.out.trans (qj hg4 (by have:=Z1.out;omega) (by have:=Z3.out;have:=Z1.out;omega))
   have G4:Hid (w4.heap[w.heap.size]?=some (.cells imgCells 28 (0,0))):=(hg4.block _ (by have:=Z3.out;have:=Z1.out;omega) (by have:=Z1.out;simp;omega)).trans G3.out
   have H4:Hid (w4.heap[w.heap.size+1]?=some (.cells #[.int .i64 0] 33 (0,0))):=(hg4.block _ (by have:=Z3.out;have:=Z1.out;omega) (by have:=Z1.out;simp;omega)).trans H3.out
   obtain ⟨hr,rfl⟩|⟨xs,r4,sa,sn,sc,a4,n4,c4,hr,rfl,hss,hhs,hhx,ht4⟩:=h4
   ·exact jd (by rfl) (by rfl) G4.out rfl H4.out (by omega) (Img.ik HR.out (fun x r h _=>by rw [Img.qBody,hr] at h;cases h)) B4.out (by omega) (by omega)
   rw [Z3.out] at hhs hhx;have R4:=hdq hr;have Z4:Hid (w1.heap.size+1<=w4.heap.size):=by have h:=hg4.size;rw [Z3.out] at h;exact h
   have hq0:w4.cell? ⟨w.heap.size,0,none⟩=some (.slice none 0 0):=by rw [cell_of_row w4 _ 0 _ _ _ G4.out];rfl
   have hf0:w4.frozen? ⟨w.heap.size,0,none⟩=false:=by have h:=G4.out;simp [World.frozen?,h]
   obtain ⟨W5,hW5⟩:∃W5,W5=w4.setCell ⟨w.heap.size,0,none⟩ (.slice sa sn sc):=⟨_,rfl⟩;have T5:Hid (Tk W5 w1.heap.size w1.heap.size r4 a4 n4 c4):=by rw [hW5];exact ht4.set8 G4.out (axk none 0 0) (by have:=Z1.out;omega) _
   have G5:Hid (W5.heap[w.heap.size]?=some (.cells #[Value.slice sa sn sc,Value.int .u64 0,Value.int .u64 0,Value.int .u64 0,Value.int .u64 0,Value.slice none 0 0] 28 (0,0))):=by show _=_;rw [hW5,heap_setCell_same _ _ _ _ _ _ G4.out];rfl
   have H5:Hid (W5.heap[w.heap.size+1]?=some (.cells #[.int .i64 0] 33 (0,0))):=by show _=_;rw [hW5,heap_setCell_other _ _ _ _ (by show w.heap.size+1≠w.heap.size;omega)];exact H4.out
   have B5:Hid (Below w.heap.size w W5):=by rw [hW5];exact B4.out.setCell (p:=⟨w.heap.size,0,none⟩) lrf _
   have Z5:Hid (w1.heap.size+1<=W5.heap.size):=by show _<=_;rw [hW5];simpa using Z4.out
   have S5:Hid (Ss W5 sa sn sc xs/\High (w1.heap.size+1) sa sn/\∀x∈xs,High (w1.heap.size+1) x.a x.n):=by
    refine ⟨?_,hhs,hhx⟩;rw [hW5];exact hss.high hhs hhx (fun b' h1 _=>heap_setCell_other _ _ _ _ (by show b'≠w.heap.size;have:=Z1.out;omega))
   have HCC:=hdq (aux w1.heap.size w1.heap.size a4 n4 c4 r4 W5 T5.out);rw [hW5] at HCC;have HW5:Hid (w4.setCell ⟨w.heap.size,0,none⟩ (.slice sa sn sc)=W5):=hW5.symm;clear hW5 hr hss hhs hhx ht4 hg4 HCS HWE T5 G3 H3 B3;go_wp2_with fail;refine HCC.out.mono ?_;rintro e w6 ⟨h6,hg6⟩;rw [HW5.out] at hg6 h6;have B6:Hid (Below w.heap.size w w6):=B5.out.trans (qj hg6 (by have:=Z1.out;omega) B5.out.size)
   have G6:Hid (w6.heap[w.heap.size]?=some (.cells #[Value.slice sa sn sc,Value.int .u64 0,Value.int .u64 0,Value.int .u64 0,Value.int .u64 0,Value.slice none 0 0] 28 (0,0))):=(hg6.block _ (by have:=Z5.out;have:=Z1.out;omega) (by have:=Z1.out;simp;omega)).trans G5.out
   have H6:Hid (w6.heap[w.heap.size+1]?=some (.cells #[.int .i64 0] 33 (0,0))):=(hg6.block _ (by have:=Z5.out;have:=Z1.out;omega) (by have:=Z1.out;simp;omega)).trans H5.out
   have Z6:Hid (w1.heap.size+1<=w6.heap.size):=Nat.le_trans Z5.out hg6.size;have S6:Hid (Ss w6 sa sn sc xs/\High (w1.heap.size+1) sa sn/\∀x∈xs,High (w1.heap.size+1) x.a x.n):=⟨S5.out.1.high S5.out.2.1 S5.out.2.2 (ei hg6 (by omega)),S5.out.2⟩
   obtain ⟨hr,rfl⟩|⟨cw,l6,a6,n6,c6,hr,he,hcg,hch,-⟩:=h6
   ·exact jd (by rfl) (by rfl) G6.out rfl H6.out (by omega) (Img.ik HR.out (fun x r h _=>by rw [Img.qBody,R4.out] at h;simp only at h;rw [hr] at h;cases h)) B6.out (by omega) (by omega)
   obtain ⟨cm,cl,co,ct,ra,rn,rcap,rs⟩:=cw;have he:e=.returned (.agg #[.int .u64 cm,.int .u64 cl,.int .u64 co,.int .u64 ct,.slice ra rn rcap]):=he;subst he;have HQB:Hid (Img.qBody y=some (⟨sts xs,Cw.c ⟨cm,cl,co,ct,ra,rn,rcap,rs⟩⟩,l6)):=by show _=_;rw [Img.qBody,R4.out];simp only;rw [hr]
   have HCG:Hid (Cw.Good w6 ⟨cm,cl,co,ct,ra,rn,rcap,rs⟩/\Cw.High (w1.heap.size+1) ⟨cm,cl,co,ct,ra,rn,rcap,rs⟩):=⟨hcg,hch.1.mono Z5.out,fun x hx=>⟨(hch.2 x hx).1.mono Z5.out,(hch.2 x hx).2.mono Z5.out⟩⟩;have p0:w6.cell? ⟨w.heap.size,0,none⟩=some (.slice sa sn sc):=by rw [cell_of_row w6 _ 0 _ _ _ G6.out];rfl
   have p1:w6.cell? ⟨w.heap.size,1,none⟩=some (.int .u64 0):=by rw [cell_of_row w6 _ 1 _ _ _ G6.out];rfl
   have p2:w6.cell? ⟨w.heap.size,2,none⟩=some (.int .u64 0):=by rw [cell_of_row w6 _ 2 _ _ _ G6.out];rfl
   have p3:w6.cell? ⟨w.heap.size,3,none⟩=some (.int .u64 0):=by rw [cell_of_row w6 _ 3 _ _ _ G6.out];rfl
   have p4:w6.cell? ⟨w.heap.size,4,none⟩=some (.int .u64 0):=by rw [cell_of_row w6 _ 4 _ _ _ G6.out];rfl
   have p5:w6.cell? ⟨w.heap.size,5,none⟩=some (.slice none 0 0):=by rw [cell_of_row w6 _ 5 _ _ _ G6.out];rfl
   have hfz:∀j,w6.frozen? ⟨w.heap.size,j,none⟩=false:=by
    intro j;have h:=G6.out;simp [World.frozen?,h]
   clear hr hcg hch hg6 HCC HW5 R4 S5 G5 H5 B5 hq0 hf0 G4 H4 B4;go_wp2_with fail;obtain ⟨WS,hWS⟩:∃WS,WS=((((w6.setCell ⟨w.heap.size,1,none⟩ (.int .u64 cm)).setCell ⟨w.heap.size,2,none⟩ (.int .u64 cl)).setCell ⟨w.heap.size,3,none⟩ (.int .u64 co)).setCell ⟨w.heap.size,4,none⟩ (.int .u64 ct)).setCell ⟨w.heap.size,5,none⟩ (.slice ra rn rcap):=⟨_,rfl⟩;rw [<-hWS];have GS:Hid (WS.heap[w.heap.size]?=some (.cells #[Value.slice sa sn sc,Value.int .u64 cm,Value.int .u64 cl,Value.int .u64 co,Value.int .u64 ct,Value.slice ra rn rcap] 28 (0,0))):=by rw [hWS];exact aqy G6.out
   have HSET:Hid (∀b,b≠w.heap.size->WS.heap[b]?=w6.heap[b]?):=by
    intro b' hb';rw [hWS,heap_setCell_other _ _ _ _ hb',heap_setCell_other _ _ _ _ hb',heap_setCell_other _ _ _ _ hb',heap_setCell_other _ _ _ _ hb',heap_setCell_other _ _ _ _ hb']
   have HSS:Hid (WS.heap[w.heap.size+1]?=some (.cells #[.int .i64 0] 33 (0,0))):=(HSET.out _ (by omega)).trans H6.out
   have HSZ:Hid (WS.heap.size=w6.heap.size):=by show _=_;rw [hWS];simp
   have BS:Hid (Below w.heap.size w WS):=by
    rw [hWS];have h0:=Nat.le_refl w.heap.size;exact ((((B6.out.setCell (p:=⟨w.heap.size,1,none⟩) h0 _).setCell (p:=⟨w.heap.size,2,none⟩) h0 _).setCell (p:=⟨w.heap.size,3,none⟩) h0 _).setCell (p:=⟨w.heap.size,4,none⟩) h0 _).setCell (p:=⟨w.heap.size,5,none⟩) h0 _
   have hkeep:∀b,w1.heap.size+1<=b->b<w6.heap.size->WS.heap[b]?=w6.heap[b]?:=fun b' h1 _=>HSET.out b' (by have:=Z1.out;omega)
   have XS:Hid (Iw.Good WS ⟨sa,sn,sc,xs,⟨cm,cl,co,ct,ra,rn,rcap,rs⟩⟩):=⟨S6.out.1.high S6.out.2.1 S6.out.2.2 hkeep,HCG.out.1.high HCG.out.2 hkeep⟩;have HHI:Hid (High (w1.heap.size+1) sa sn/\(∀x∈xs,High (w1.heap.size+1) x.a x.n)/\Cw.High (w1.heap.size+1) ⟨cm,cl,co,ct,ra,rn,rcap,rs⟩):=⟨S6.out.2.1,S6.out.2.2,HCG.out.2⟩;clear hkeep hWS p0 p1 p2 p3 p4 p5 hfz;refine (adq ⟨sa,sn,sc,xs,⟨cm,cl,co,ct,ra,rn,rcap,rs⟩⟩ WS XS.out).mono ?_;rintro e w7 ⟨h7,hb7⟩;have B7:Hid (Below w.heap.size w w7):=BS.out.trans (hb7.mono BS.out.size);have G7:Hid (w7.heap[w.heap.size]?=some (.cells #[Value.slice sa sn sc,Value.int .u64 cm,Value.int .u64 cl,Value.int .u64 co,Value.int .u64 ct,Value.slice ra rn rcap] 28 (0,0))):=(hb7.block _ (hltq GS.out)).trans GS.out;have H7:Hid (w7.heap[w.heap.size+1]?=some (.cells #[.int .i64 0] 33 (0,0))):=(hb7.block _ (hltq HSS.out)).trans HSS.out;have X7:Hid (Iw.Good w7 ⟨sa,sn,sc,xs,⟨cm,cl,co,ct,ra,rn,rcap,rs⟩⟩):=XS.out.below hb7 lrf;clear hb7 GS HSS HSET HSZ BS XS S6 HCG B6 G6 H6;rcases h7 with ⟨hd1,rfl⟩|⟨hd1,hd2,rfl⟩|⟨hd1,hd2,a7,n7,c7,rfl,hs7⟩
   ·have HD:=hdq hd1;clear hd1;go_wp2;exact jd (by rfl) (by rfl) G7.out rfl H7.out (by omega) (Img.ik HR.out (fun x r h hx=>by rw [HQB.out] at h;cases h;exact absurd (hx.2.1.1.symm.trans HD.out) (by simp))) B7.out (by omega) (by omega)
   ·have HD:=hdq hd2;clear hd1 hd2;go_wp2;exact jd (by rfl) (by rfl) G7.out rfl H7.out (by omega) (Img.ik HR.out (fun x r h hx=>by rw [HQB.out] at h;cases h;exact absurd (hx.2.1.2.symm.trans HD.out) (by simp))) B7.out (by omega) (by omega)
   ·have HD:=hdq (And.intro hd1 hd2);obtain ⟨r,hr⟩:∃r,decide (Crc.lock (Img.body (Iw.im ⟨sa,sn,sc,xs,⟨cm,cl,co,ct,ra,rn,rcap,rs⟩⟩))=b)=r:=⟨_,rfl⟩;have HRE:=hdq hr;have HEQ:=hdq (ahi a7 a n7 c7 n cap _ b r w7 hs7 (HS.out.below B7.out lrf) hr);clear hd1 hd2 hr hs7
    cases r with
    | false =>
      go_wp2_with (first|(go_at_call 54;refine HEQ.out.mono ?_;rintro e w8 ⟨rfl,hw8⟩;subst hw8)|fail)
      exact jd (by rfl) (by rfl) G7.out rfl H7.out (by omega) (Img.ik HR.out (fun x r h hx=>by rw [HQB.out] at h;cases h;exact absurd hx.2.2 (of_decide_eq_false HRE.out))) B7.out (by omega) (by omega)
    | true =>
      have HI:Hid (Img.read b=.inl (Iw.im ⟨sa,sn,sc,xs,⟨cm,cl,co,ct,ra,rn,rcap,rs⟩⟩)):=Img.read_of ⟨X7.out.2.plain,HD.out,of_decide_eq_true HRE.out⟩
      go_wp2_with (first
       | (go_at_call 54;refine HEQ.out.mono ?_;rintro e w8 ⟨rfl,hw8⟩;subst hw8)
       | (refine wpList_load_row (by rfl) 28 (.tmp 2) (by rfl) w.heap.size (by rfl) 28 #[Value.slice sa sn sc,Value.int .u64 cm,Value.int .u64 cl,Value.int .u64 co,Value.int .u64 ct,Value.slice ra rn rcap] (0,0) _ G7.out Tryz.underlying28 (by rfl) jq ?_)
       | (refine ai (by rfl) 28 (.tmp 2) (.tmp 38) (by rfl) w.heap.size #[Value.slice sa sn sc,Value.int .u64 cm,Value.int .u64 cl,Value.int .u64 co,Value.int .u64 ct,Value.slice ra rn rcap] (by rfl) (by rfl) 28 #[Value.slice sa sn sc,Value.int .u64 cm,Value.int .u64 cl,Value.int .u64 co,Value.int .u64 ct,Value.slice ra rn rcap] G7.out jq rfl (by simp [Value.oneCell']) ?_;intro we hwe hge hsze;have hhe:we.heap[w.heap.size+1]?=_:=(hge.block _ (hltq H7.out) (by simp)).trans H7.out;have GE:=hdq hwe;have HE:=hdq hhe;have RE:=hdq hge;have hxe:we.cell? ⟨w.heap.size+1,0,none⟩=some (.int .i64 0):=(by rw [cell_of_row we _ 0 _ _ _ hhe];rfl);have hfe:we.frozen? ⟨w.heap.size+1,0,none⟩=false:=(by simp [World.frozen?,hhe]);clear hwe hge hsze hhe)
       | fail)
      have hgE:(we.setCell ⟨w.heap.size+1,0,none⟩ (.int .i64 0)).heap[w.heap.size]?=some (.cells #[Value.slice sa sn sc,Value.int .u64 cm,Value.int .u64 cl,Value.int .u64 co,Value.int .u64 ct,Value.slice ra rn rcap] 28 (0,0)):=by rw [heap_setCell_other _ _ _ _ (by show w.heap.size≠w.heap.size+1;omega)];exact GE.out
      have hhE:(we.setCell ⟨w.heap.size+1,0,none⟩ (.int .i64 0)).heap[w.heap.size+1]?=some (.cells #[.int .i64 0] 33 (0,0)):=by rw [heap_setCell_same _ _ _ _ _ _ HE.out];rfl
      have hcE:∀b,w1.heap.size+1<=b->b<w7.heap.size->(we.setCell ⟨w.heap.size+1,0,none⟩ (.int .i64 0)).heap[b]?=w7.heap[b]?:=by
       intro b' h1 h2;rw [heap_setCell_other _ _ _ _ (by show b'≠w.heap.size+1;have:=Z1.out;omega)]
       exact RE.out.block b' h2 (by have:=Z1.out;simp;omega)
      exact aqz (x:=⟨sa,sn,sc,xs,⟨cm,cl,co,ct,ra,rn,rcap,rs⟩⟩) (by rfl) (by rfl) hgE hhE HI.out ⟨X7.out.1.high HHI.out.1 HHI.out.2.1 hcE,X7.out.2.high HHI.out.2.2 hcE⟩ ((B7.out.grown RE.out B7.out.size (fun k hk=>by cases hk;exact Nat.le_refl _)).setCell (p:=⟨w.heap.size+1,0,none⟩) (by show w.heap.size<=w.heap.size+1;omega) _)

end

end Go.Proofs.YtkiamgcpcneggaaGreat
