/- For every image ShapeReads answers true, and turns nothing that was there. No condition. -/
import Derived.Test.YtkiamgcpcneggaaGreatRows
import Derived.Test.YtkiamgcpcneggaaGreatPackAL
import Derived.Test.YtkiamgcpcneggaaGreatPackAI
import Derived.Test.YtkiamgcpcneggaaGreatPackH
import Derived.Deep.RegionHeld3
import Derived.WalkKit
import Derived.ProofKit
import Derived.OpenShut
import Derived.ShutString
import Derived.ChangeOld
import Derived.Below
import Derived.Deep.Matrix
import Derived.SizedLaws
set_option linter.all false
namespace Go.Proofs.YtkiamgcpcneggaaGreat.shapeReads
open Go.ChangeShapes Go.WideShapes Go.ChangeAt Go.RowKit
set_option linter.unusedVariables false

theorem own:ownKnob Tryz.prog.godebug=none:=by kernel_rfl
theorem laidOut:laidOutB Tryz.prog=true:=by kernel_rfl

/-- a slice of integers that came in -/
def IsRow (k:IntKind) (w:World) (a:Option Addr) (len cap:Nat) (zs:List Int):Prop :=
 (a=none∧len=0∧cap=0∧zs=[]) ∨
 ∃ x,a=some x∧len≤cap∧cap≤maxLen∧zs.length=cap∧(∀ i,i < zs.length→w.cell? (x.add i)=some (.int k (zs.getD i 0)))∧∀ n ∈ zs,(Lit.int k n).wf=true

/-! ### STEP 1: the walk -/
set_option maxHeartbeats 6400000 in
set_option maxRecDepth 100000 in
theorem walk (x0:Iw) (w:World) (w0:x0.Good w) (n0:(x0.a=none→x0.cap=0)∧(x0.c.a=none→x0.c.cap=0)) :
 Calls Tryz.prog 5 #[x0.v] w fun e w'=>e=.returned (.bool true)∧Below w.heap.size w w':=by
 have HX_0a:=Lib.hid w0
 have HMX:Hid (Tryz.prog.follows .mixedOrders=true):=by show _=_;kernel_rfl
 clear w0 n0
 obtain ⟨⟨L,e1⟩,hw1⟩:∃ g,Shp.wrd x0.im=g:=⟨_,rfl⟩
 have HW1:=Lib.hid hw1
 have HE1:Hid (Shp.chk x0.im=e1):=by have h:=(Shp.wrd_err x0.im).1;rw [hw1] at h;exact h.symm
 have HBX:Hid (∀ o,Below w.heap.size w (w.alloc o)):=fun o=>(Below.refl _ w).alloc (Nat.le_refl _) o
 have HNW:Hid (∀ o,(w.alloc o).heap[w.heap.size]?=some o):=fun o=>heap_alloc_new w o
 have HSZ:Hid (∀ o,(w.alloc o).heap.size=w.heap.size + 1):=fun o=>World.size_alloc w o
 clear hw1
 simp only [Iw.v]
 go_enter Tryz.func5,Tryz.ntmps5
 go_wp2_with fail
 refine (awake_any _).mono ?_
 rintro e v1 ⟨rfl,B1⟩
 have HB_0:Hid (Below w.heap.size w v1):=(HBX.out _).trans (B1.mono (by simp))
 have HP_0:Hid (v1.heap[w.heap.size]?=some (.cells #[Value.slice x0.a x0.n x0.cap,Value.int .u64 x0.c.m,Value.int .u64 x0.c.l,Value.int .u64 x0.c.o,Value.int .u64 x0.c.t,Value.slice x0.c.a x0.c.n x0.c.cap] 28 (0,0))):=(B1.block _ (by rw [HSZ.out];exact Nat.lt_succ_self _)).trans (HNW.out _)
 have HX_0:=Lib.hid (HX_0a.out.below HB_0.out (Nat.le_refl _))
 clear B1 HBX HNW HSZ HX_0a
 go_wp2_with first
  | (refine wpList_load_row_w (by rfl) 28 (.tmp 1) (by rfl) w.heap.size (by rfl) 28 #[Value.slice x0.a x0.n x0.cap,Value.int .u64 x0.c.m,Value.int .u64 x0.c.l,Value.int .u64 x0.c.o,Value.int .u64 x0.c.t,Value.slice x0.c.a x0.c.n x0.c.cap] (0,0) _ HP_0.out Tryz.underlying28 (by rfl) (show _=some (#[Value.slice x0.a x0.n x0.cap,Value.int .u64 x0.c.m,Value.int .u64 x0.c.l,Value.int .u64 x0.c.o,Value.int .u64 x0.c.t,Value.slice x0.c.a x0.c.n x0.c.cap]:Array Value).size from info_im16) ?_)
 refine (few16_is x0 _ HX_0.out).mono ?_
 rintro e v2 ⟨he,hb⟩
 have HP_1:=Lib.hid ((hb.block _ (Array.getElem?_eq_some_iff.1 HP_0.out).1).trans HP_0.out)
 have HX_1:=Lib.hid (HX_0.out.below hb (Nat.le_refl _))
 have HB_1:=Lib.hid (HB_0.out.trans (hb.mono HB_0.out.size))
 clear HP_0 HX_0 HB_0 hb
 rcases he with rfl|⟨rfl,-,-,-,-⟩
 ·go_wp2
  go_ret
  exact ⟨rfl,HB_1.out⟩
 go_wp2_with first
  | (refine wpList_load_row_w (by rfl) 28 (.tmp 1) (by rfl) w.heap.size (by rfl) 28 #[Value.slice x0.a x0.n x0.cap,Value.int .u64 x0.c.m,Value.int .u64 x0.c.l,Value.int .u64 x0.c.o,Value.int .u64 x0.c.t,Value.slice x0.c.a x0.c.n x0.c.cap] (0,0) _ HP_1.out Tryz.underlying28 (by rfl) (show _=some (#[Value.slice x0.a x0.n x0.cap,Value.int .u64 x0.c.m,Value.int .u64 x0.c.l,Value.int .u64 x0.c.o,Value.int .u64 x0.c.t,Value.slice x0.c.a x0.c.n x0.c.cap]:Array Value).size from info_im16) ?_)
 refine (swords_is x0 L e1 v2 HX_1.out HW1.out).mono ?_
 rintro e v3 ⟨a3,k3,d3,o3,rfl,hm,hn3,hb⟩
 have hm3:=hm.words
 have HNIL3:=Lib.hid hm.nil
 have HN3:=Lib.hid hn3
 have HL3:Hid (L.length=k3):=by show _=_;rw [← hn3,nums_length,hm.len]
 clear hm hn3
 have HP_2:=Lib.hid ((hb.block _ (Array.getElem?_eq_some_iff.1 HP_1.out).1).trans HP_1.out)
 have HX_2:=Lib.hid (HX_1.out.below hb (Nat.le_refl _))
 have HB_2:=Lib.hid (HB_1.out.trans (hb.mono HB_1.out.size))
 clear HP_1 HX_1 HB_1 hb
 have HU_2:=Lib.hid (hm3)
 clear hm3
 simp only []
 by_cases h0:e1=0
 case neg =>
  have hz:(e1 == 0)=false:=by simp [h0]
  have hself:(e1 == e1)=true:=by simp
  go_wp2_with first
   | (refine wpList_load_row_w (by rfl) 28 (.tmp 1) (by rfl) w.heap.size (by rfl) 28 #[Value.slice x0.a x0.n x0.cap,Value.int .u64 x0.c.m,Value.int .u64 x0.c.l,Value.int .u64 x0.c.o,Value.int .u64 x0.c.t,Value.slice x0.c.a x0.c.n x0.c.cap] (0,0) _ HP_2.out Tryz.underlying28 (by rfl) (show _=some (#[Value.slice x0.a x0.n x0.cap,Value.int .u64 x0.c.m,Value.int .u64 x0.c.l,Value.int .u64 x0.c.o,Value.int .u64 x0.c.t,Value.slice x0.c.a x0.c.n x0.c.cap]:Array Value).size from info_im16) ?_)
  refine (scheck_is x0 e1 v3 HX_2.out HE1.out).mono ?_
  rintro e v4 ⟨rfl,hb⟩
  have HP_3:=Lib.hid ((hb.block _ (Array.getElem?_eq_some_iff.1 HP_2.out).1).trans HP_2.out)
  have HX_3:=Lib.hid (HX_2.out.below hb (Nat.le_refl _))
  have HU_3:=Lib.hid (HU_2.out.below hb (Nat.le_refl _))
  have HB_3:=Lib.hid (HB_2.out.trans (hb.mono HB_2.out.size))
  clear HP_2 HX_2 HU_2 HB_2 hb
  go_wp2
  go_ret
  exact ⟨rfl,HB_3.out⟩
 subst h0
 have hz:((0:Int) == 0)=true:=rfl
 have hck:=HE1.out
 obtain ⟨hok1,hok2,hok3,-,-⟩:=Shp.chk_ok hck
 have hL:Wlk.wds x0.im.sts 0=L:=by
  have h:=HW1.out
  unfold Shp.wrd at h
  rw [if_pos hck] at h
  exact (Prod.mk.inj h).1
 rw [hL] at hok3
 have HWDS:=Lib.hid hL
 have HK300:Hid (k3≤300):=by rw [← HL3.out];exact hok3
 have HWI:Hid (∀ u ∈ L,1≤u.length∧u.length≤20∧Wlk.hasC (sts x0.xs) u=true):=fun u hu=>Shp.chk_words hck (by rw [hL];exact hu)
 have HCK:=Lib.hid hck
 have hk3:k3≤300:=HK300.out
 clear hck hok1 hok2 hok3 hL
 go_wp2
 go_loopw [6] (fun ix wr=>∃ i:Nat,i≤k3∧ix=.int .i64 (i:Int)∧Hid (∀ j,j < i→Wl.fit (L.getD j [])=true)∧Hid (Below v3.heap.size v3 wr)) (fun ix _=>k3 - (intOf ix).toNat)
 case atStart=>exact ⟨0,Nat.zero_le _,rfl,fun j hj=>absurd hj (by omega),Below.refl _ _⟩
 case round =>
  obtain ⟨i,hi,rfl,HF,HBR⟩:=hrel
  have HBW:Hid (Below w.heap.size w wr):=HB_2.out.trans (HBR.out.mono HB_2.out.size)
  by_cases hlt:i < k3
  case pos =>
   have HUW:=Lib.hid (HU_2.out.below HBR.out (Nat.le_refl _))
   have HXW:=Lib.hid (HX_2.out.below HBR.out (Nat.le_refl _))
   obtain ⟨b,off,za,zn,zc,zs,rfl,hbl,-,hc,hz1,hzs⟩:=HUW.out.one i hlt
   rw [HN3.out] at hzs
   have hmem:zs ∈ L:=by rw [← hzs,List.getD_eq_getElem?_getD,List.getElem?_eq_getElem (by rw [HL3.out];exact hlt),Option.getD_some];exact List.getElem_mem _
   obtain ⟨hz2,hz3,hz4⟩:=HWI.out zs hmem
   rw [hz1.1] at hz2 hz3
   have HZ:=Lib.hid hz1
   have HZS:=Lib.hid hzs
   have HHAS:=Lib.hid hz4
   have HKA:Hid (∀ W,Below wr.heap.size wr W→W.cell? ⟨w.heap.size,0,none⟩=some (.slice x0.a x0.n x0.cap)∧W.cell? ⟨b,off + i,none⟩=some (.slice za zn zc)):=fun W hW=>by
    have e1:W.heap[w.heap.size]?=_:=(hW.block _ (Nat.lt_of_lt_of_le (Array.getElem?_eq_some_iff.1 HP_2.out).1 HBR.out.size)).trans ((HBR.out.block _ (Array.getElem?_eq_some_iff.1 HP_2.out).1).trans HP_2.out)
    exact ⟨(six_cells e1).1,by rw [hW.cell (p:=⟨b,off + i,none⟩) hbl];exact hc⟩
   have HD:Hid (Below wr.heap.size wr wr.drew):=below_drawn (Below.refl _ wr) ⟨1,rfl⟩
   have hltz:(i:Int) < (k3:Int):=by omega
   have hbd:(0:Int)≤(i:Int)∧(i:Int) < (k3:Int):=⟨by omega,hltz⟩
   have hd1:decide ((zn:Int) < 1)=false:=decide_eq_false (by omega)
   have hd2:decide ((zn:Int) > 20)=false:=decide_eq_false (by omega)
   have hd3:decide (20 < (zn:Int))=false:=decide_eq_false (by omega)
   have hn1:¬ (zn:Int) < 1:=by omega
   have hn2:¬ (20:Int) < (zn:Int):=by omega
   have hmx:=HMX.out
   clear hbl hc hz1 hzs hmem hz2 hz3 hz4
   go_wp2
   refine wp_region_held_drew (S:=(fun W=>W.cell? ⟨w.heap.size,0,none⟩=some (.slice x0.a x0.n x0.cap)∧W.cell? ⟨b,off + i,none⟩=some (.slice za zn zc))) (by kernel_rfl) (by first|(first|exact HKA.out _ B5.out|exact HKA.out _ HD.out|exact HKA.out _ (Below.refl _ _))|((try dsimp only);first|exact HKA.out _ B5.out|exact HKA.out _ HD.out|exact HKA.out _ (Below.refl _ _))) (fun hHeld=>?_)
   refine wpAnyH_take (i:=0) (v:=?vh1) rfl (by kernel_rfl) (by kernel_rfl) (by kernel_rfl) (fun _ _ _ h=>h) (Or.inl ⟨by rfl,?hh1⟩) (by assumption) ?rh1
   case hh1=>intro w hSw;(try dsimp only at hSw);go_simp;try with_reducible rfl
   simp only [Act.put,List.getElem_toArray,List.getElem_cons_succ,List.getElem_cons_zero,List.setIfInBounds_toArray,List.set_cons_succ,List.set_cons_zero]
   refine wpAnyH_take (i:=1) (v:=?vh4) rfl (by kernel_rfl) (by kernel_rfl) (by kernel_rfl) (fun _ _ _ h=>h) (Or.inl ⟨by rfl,?hh4⟩) (by assumption) ?rh4
   case hh4=>intro w hSw;(try dsimp only at hSw);go_simp;try with_reducible rfl
   simp only [Act.put,List.getElem_toArray,List.getElem_cons_succ,List.getElem_cons_zero,List.setIfInBounds_toArray,List.set_cons_succ,List.set_cons_zero]
   refine wpAnyH_take (i:=2) (v:=?vh7) rfl (by kernel_rfl) (by kernel_rfl) (by kernel_rfl) (fun _ _ _ h=>h) (Or.inl ⟨by rfl,?hh7⟩) (by assumption) ?rh7
   case hh7=>intro w hSw;(try dsimp only at hSw);go_simp;try with_reducible rfl
   simp only [Act.put,List.getElem_toArray,List.getElem_cons_succ,List.getElem_cons_zero,List.setIfInBounds_toArray,List.set_cons_succ,List.set_cons_zero]
   refine wpAnyH_take (i:=3) (v:=?vh10) rfl (by kernel_rfl) (by kernel_rfl) (by kernel_rfl) (fun _ _ _ h=>h) (Or.inl ⟨by rfl,?hh10⟩) (by assumption) ?rh10
   case hh10=>intro w hSw;(try dsimp only at hSw);go_simp;try with_reducible rfl
   simp only [Act.put,List.getElem_toArray,List.getElem_cons_succ,List.getElem_cons_zero,List.setIfInBounds_toArray,List.set_cons_succ,List.set_cons_zero]
   refine wpAnyH_take (i:=4) (v:=?vh13) rfl (by kernel_rfl) (by kernel_rfl) (by kernel_rfl) (fun _ _ _ h=>h) (Or.inl ⟨by rfl,?hh13⟩) (by assumption) ?rh13
   case hh13=>intro w hSw;(try dsimp only at hSw);go_simp;try with_reducible rfl
   simp only [Act.put,List.getElem_toArray,List.getElem_cons_succ,List.getElem_cons_zero,List.setIfInBounds_toArray,List.set_cons_succ,List.set_cons_zero]
   refine wpAnyH_take (i:=5) (v:=?vh16) rfl (by kernel_rfl) (by kernel_rfl) (by kernel_rfl) (fun _ _ _ h=>h) (Or.inl ⟨by rfl,?hh16⟩) (by assumption) ?rh16
   case hh16=>intro w hSw;(try dsimp only at hSw);go_simp;try with_reducible rfl
   simp only [Act.put,List.getElem_toArray,List.getElem_cons_succ,List.getElem_cons_zero,List.setIfInBounds_toArray,List.set_cons_succ,List.set_cons_zero]
   refine wpAnyH_take (i:=6) (v:=?vh19) rfl (by kernel_rfl) (by kernel_rfl) (by kernel_rfl) (fun _ _ _ h=>h) (Or.inl ⟨by rfl,?hh19⟩) (by assumption) ?rh19
   case hh19=>intro w hSw;(try dsimp only at hSw);go_simp;try with_reducible rfl
   simp only [Act.put,List.getElem_toArray,List.getElem_cons_succ,List.getElem_cons_zero,List.setIfInBounds_toArray,List.set_cons_succ,List.set_cons_zero]
   refine wpAnyH_take (i:=7) (v:=?vh22) rfl (by kernel_rfl) (by kernel_rfl) (by kernel_rfl) (fun _ _ _ h=>h) (Or.inl ⟨by rfl,?hh22⟩) (by assumption) ?rh22
   case hh22=>intro w hSw;(try dsimp only at hSw);go_simp;try with_reducible rfl
   simp only [Act.put,List.getElem_toArray,List.getElem_cons_succ,List.getElem_cons_zero,List.setIfInBounds_toArray,List.set_cons_succ,List.set_cons_zero]
   refine wpAnyH_take (i:=8) (v:=?vh25) rfl (by kernel_rfl) (by kernel_rfl) (by kernel_rfl) (fun _ _ _ h=>h) (Or.inl ⟨by rfl,?hh25⟩) (by assumption) ?rh25
   case hh25=>intro w hSw;(try dsimp only at hSw);go_simp;try with_reducible rfl
   simp only [Act.put,List.getElem_toArray,List.getElem_cons_succ,List.getElem_cons_zero,List.setIfInBounds_toArray,List.set_cons_succ,List.set_cons_zero]
   refine wpAnyH_take (i:=9) (v:=?vh28) rfl (by kernel_rfl) (by kernel_rfl) (by kernel_rfl) (fun _ _ _ h=>h) (Or.inl ⟨by rfl,?hh28⟩) (by assumption) ?rh28
   case hh28=>intro w hSw;(try dsimp only at hSw);go_simp;try with_reducible rfl
   simp only [Act.put,List.getElem_toArray,List.getElem_cons_succ,List.getElem_cons_zero,List.setIfInBounds_toArray,List.set_cons_succ,List.set_cons_zero]
   refine wpAnyH_take (i:=10) (v:=?vh31) rfl (by kernel_rfl) (by kernel_rfl) (by kernel_rfl) (fun _ _ _ h=>h) (Or.inl ⟨by rfl,?hh31⟩) (by assumption) ?rh31
   case hh31=>intro w hSw;(try dsimp only at hSw);go_simp;try with_reducible rfl
   simp only [Act.put,List.getElem_toArray,List.getElem_cons_succ,List.getElem_cons_zero,List.setIfInBounds_toArray,List.set_cons_succ,List.set_cons_zero]
   refine wpAnyH_take (i:=11) (v:=?vh34) rfl (by kernel_rfl) (by kernel_rfl) (by kernel_rfl) (fun _ _ _ h=>h) (Or.inl ⟨by rfl,?hh34⟩) (by assumption) ?rh34
   case hh34=>intro w hSw;(try dsimp only at hSw);go_simp;try with_reducible rfl
   simp only [Act.put,List.getElem_toArray,List.getElem_cons_succ,List.getElem_cons_zero,List.setIfInBounds_toArray,List.set_cons_succ,List.set_cons_zero]
   refine wpAnyH_take (i:=12) (v:=?vh37) rfl (by kernel_rfl) (by kernel_rfl) (by kernel_rfl) (fun _ _ _ h=>h) (Or.inl ⟨by rfl,?hh37⟩) (by assumption) ?rh37
   case hh37=>intro w hSw;(try dsimp only at hSw);go_simp;try with_reducible rfl
   simp only [Act.put,List.getElem_toArray,List.getElem_cons_succ,List.getElem_cons_zero,List.setIfInBounds_toArray,List.set_cons_succ,List.set_cons_zero]
   refine wpAnyH_take (i:=13) (v:=?vh40) rfl (by kernel_rfl) (by kernel_rfl) (by kernel_rfl) (fun _ _ _ h=>h) (Or.inl ⟨by rfl,?hh40⟩) (by assumption) ?rh40
   case hh40=>intro w hSw;(try dsimp only at hSw);go_simp;try with_reducible rfl
   simp only [Act.put,List.getElem_toArray,List.getElem_cons_succ,List.getElem_cons_zero,List.setIfInBounds_toArray,List.set_cons_succ,List.set_cons_zero]
   refine wpAnyH_take (i:=14) (v:=?vh43) rfl (by kernel_rfl) (by kernel_rfl) (by kernel_rfl) (fun _ _ _ h=>h) (Or.inl ⟨by rfl,?hh43⟩) (by assumption) ?rh43
   case hh43=>intro w hSw;(try dsimp only at hSw);go_simp;try with_reducible rfl
   simp only [Act.put,List.getElem_toArray,List.getElem_cons_succ,List.getElem_cons_zero,List.setIfInBounds_toArray,List.set_cons_succ,List.set_cons_zero]
   refine wpAnyH_take (i:=15) (v:=?vh46) rfl (by kernel_rfl) (by kernel_rfl) (by kernel_rfl) (fun _ _ _ h=>h) (Or.inl ⟨by rfl,?hh46⟩) (by assumption) ?rh46
   case hh46=>intro w hSw;(try dsimp only at hSw);go_simp;try with_reducible rfl
   simp only [Act.put,List.getElem_toArray,List.getElem_cons_succ,List.getElem_cons_zero,List.setIfInBounds_toArray,List.set_cons_succ,List.set_cons_zero]
   refine wpAnyH_take (i:=16) (v:=?vh49) rfl (by kernel_rfl) (by kernel_rfl) (by kernel_rfl) (fun _ _ _ h=>h) (Or.inl ⟨by rfl,?hh49⟩) (by assumption) ?rh49
   case hh49=>intro w hSw;(try dsimp only at hSw);go_simp;try with_reducible rfl
   simp only [Act.put,List.getElem_toArray,List.getElem_cons_succ,List.getElem_cons_zero,List.setIfInBounds_toArray,List.set_cons_succ,List.set_cons_zero]
   refine wpAnyH_take (i:=17) (v:=?vh52) rfl (by kernel_rfl) (by kernel_rfl) (by kernel_rfl) (fun _ _ _ h=>h) (Or.inl ⟨by rfl,?hh52⟩) (by assumption) ?rh52
   case hh52=>intro w hSw;(try dsimp only at hSw);go_simp;try with_reducible rfl
   simp only [Act.put,List.getElem_toArray,List.getElem_cons_succ,List.getElem_cons_zero,List.setIfInBounds_toArray,List.set_cons_succ,List.set_cons_zero]
   refine wpAnyH_take (i:=18) (v:=?vh55) rfl (by kernel_rfl) (by kernel_rfl) (by kernel_rfl) (fun _ _ _ h=>h) (Or.inl ⟨by rfl,?hh55⟩) (by assumption) ?rh55
   case hh55=>intro w hSw;(try dsimp only at hSw);go_simp;try with_reducible rfl
   simp only [Act.put,List.getElem_toArray,List.getElem_cons_succ,List.getElem_cons_zero,List.setIfInBounds_toArray,List.set_cons_succ,List.set_cons_zero]
   refine wpAnyH_take (i:=19) (v:=?vh58) rfl (by kernel_rfl) (by kernel_rfl) (by kernel_rfl) (fun _ _ _ h=>h) (Or.inl ⟨by rfl,?hh58⟩) (by assumption) ?rh58
   case hh58=>intro w hSw;(try dsimp only at hSw);go_simp;try with_reducible rfl
   simp only [Act.put,List.getElem_toArray,List.getElem_cons_succ,List.getElem_cons_zero,List.setIfInBounds_toArray,List.set_cons_succ,List.set_cons_zero]
   refine wpAnyH_take (i:=20) (v:=?vh61) rfl (by kernel_rfl) (by kernel_rfl) (by kernel_rfl) (fun _ _ _ h=>h) (Or.inl ⟨by rfl,?hh61⟩) (by assumption) ?rh61
   case hh61=>intro w hSw;(try dsimp only at hSw);go_simp;try with_reducible rfl
   simp only [Act.put,List.getElem_toArray,List.getElem_cons_succ,List.getElem_cons_zero,List.setIfInBounds_toArray,List.set_cons_succ,List.set_cons_zero]
   refine wpAnyH_ready (rs:=[21]) (by kernel_rfl) (by simp) ?_
   refine AllReadyH.cons rfl (fun K hK=>?_) AllReadyH.nil
   go_simp
   refine (whas_is x0.a za x0.n x0.cap zn zc x0.xs zs _ true ((HXW.out.below HD.out (Nat.le_refl _)).1) (HZ.out.below HD.out (Nat.le_refl _)) HHAS.out).mono ?_
   rintro e w5 ⟨rfl,hb5⟩
   have B5:Hid (Below wr.heap.size wr w5):=HD.out.trans hb5
   clear hb5
   refine hK.out _ _ (by first|(first|exact HKA.out _ B5.out|exact HKA.out _ HD.out|exact HKA.out _ (Below.refl _ _))|((try dsimp only);first|exact HKA.out _ B5.out|exact HKA.out _ HD.out|exact HKA.out _ (Below.refl _ _))) (fun hHeld=>?_)
   clear hK K
   try simp only [Act.put,List.getElem_toArray,List.getElem_cons_succ,List.getElem_cons_zero,List.setIfInBounds_toArray,List.set_cons_succ,List.set_cons_zero]
   refine wpAnyH_take (i:=22) (v:=?vh74) rfl (by kernel_rfl) (by kernel_rfl) (by kernel_rfl) (fun _ _ _ h=>h) (Or.inl ⟨by rfl,?hh74⟩) (by assumption) ?rh74
   case hh74=>intro w hSw;(try dsimp only at hSw);go_simp;try with_reducible rfl
   simp only [Act.put,List.getElem_toArray,List.getElem_cons_succ,List.getElem_cons_zero,List.setIfInBounds_toArray,List.set_cons_succ,List.set_cons_zero]
   refine wpAnyH_take (i:=23) (v:=?vh77) rfl (by kernel_rfl) (by kernel_rfl) (by kernel_rfl) (fun _ _ _ h=>h) (Or.inl ⟨by rfl,?hh77⟩) (by assumption) ?rh77
   case hh77=>intro w hSw;(try dsimp only at hSw);go_simp;try with_reducible rfl
   simp only [Act.put,List.getElem_toArray,List.getElem_cons_succ,List.getElem_cons_zero,List.setIfInBounds_toArray,List.set_cons_succ,List.set_cons_zero]
   refine wpAnyH_done (by kernel_rfl) ?_ _
   clear hHeld
   have HB5:Hid (Below w.heap.size w w5):=HBW.out.trans (B5.out.mono HBW.out.size)
   have kc:w5.cell? ⟨b,off + i,none⟩=some (.slice za zn zc):=(HKA.out _ B5.out).2
   obtain ⟨q,hq⟩:∃ q,Wl.fit zs=q:=⟨_,rfl⟩
   have HQ:=Lib.hid hq
   clear hq
   go_wp2_with fail
   refine (wfit_is za zn zc zs q w5 (HZ.out.below B5.out (Nat.le_refl _)) HQ.out).mono ?_
   rintro e w6 ⟨rfl,hw6⟩
   subst hw6
   cases q with
   | false =>
     go_wp2
     go_ret
     exact ⟨rfl,HB5.out⟩
   | true =>
     go_wp2
     go_roundw
     case rel =>
      refine ⟨i + 1,by omega,by go_num,Lib.hid fun j hj=>?_,HBR.out.trans (B5.out.mono HBR.out.size)⟩
      by_cases hji:j < i
      ·exact HF.out j hji
      ·obtain rfl:j=i:=by omega
       rw [HZS.out];exact HQ.out
     case measure=>simp [intOf];omega
  case neg =>
   obtain rfl:k3=i:=by omega
   have HP_w:=Lib.hid ((HBR.out.block _ (Array.getElem?_eq_some_iff.1 HP_2.out).1).trans HP_2.out)
   have HUW:=Lib.hid (HU_2.out.below HBR.out (Nat.le_refl _))
   have HXW:=Lib.hid (HX_2.out.below HBR.out (Nat.le_refl _))
   have hfit:∀ u ∈ L,Wl.fit u=true:=by
    intro u hu
    obtain ⟨j,hj,rfl⟩:=List.getElem_of_mem hu
    have h:=HF.out j (by rw [← HL3.out];exact hj)
    rw [List.getD_eq_getElem?_getD,List.getElem?_eq_getElem hj,Option.getD_some] at h
    exact h
   obtain ⟨m1,m2,m3⟩:=Shp.mk_again HCK.out (by rw [HWDS.out];exact hfit)
   rw [HWDS.out] at m1 m2 m3
   have M1:=Lib.hid m1
   have M2:=Lib.hid m2
   have M3:=Lib.hid m3
   clear hfit m1 m2 m3
   obtain ⟨p0,p1,p2,p3,p4,p5⟩:=six_cells HP_w.out
   go_wp2_with fail
   refine (smake_is a3 k3 d3 o3 x0.c (⟨Daw.dmake L,x0.c.c⟩,0) wr HUW.out HNIL3.out HXW.out.2 (by rw [HN3.out];exact M1.out)).mono ?_
   rintro e v5 ⟨y5,rfl,hg5,hy5,-,hb5⟩
   have HB5:Hid (Below w.heap.size w v5):=HBW.out.trans (hb5.mono HBW.out.size)
   have HP5:=Lib.hid ((hb5.block _ (Array.getElem?_eq_some_iff.1 HP_w.out).1).trans HP_w.out)
   have HU5:=Lib.hid (HUW.out.below hb5 (Nat.le_refl _))
   have HG5:=Lib.hid hg5
   have HY5:=Lib.hid hy5
   have HXX:Hid (x0.xs.length=x0.n):=HXW.out.1.1
   have HNB:Hid (∀ o:Obj,(v5.alloc o).heap[v5.heap.size]?=some o):=fun o=>heap_alloc_new v5 o
   clear p0 p1 p2 p3 p4 p5
   clear hg5 hy5 hb5 HUW HXW HP_w
   simp only [Iw.v]
   go_wp2_with first
    | (refine wpList_load_row_w (by rfl) 28 (.tmp 7) (by rfl) v5.heap.size (by rfl) 28 #[Value.slice y5.a y5.n y5.cap,Value.int .u64 y5.c.m,Value.int .u64 y5.c.l,Value.int .u64 y5.c.o,Value.int .u64 y5.c.t,Value.slice y5.c.a y5.c.n y5.c.cap] (0,0) _ (HNB.out _) Tryz.underlying28 (by rfl) (show _=some (#[Value.slice y5.a y5.n y5.cap,Value.int .u64 y5.c.m,Value.int .u64 y5.c.l,Value.int .u64 y5.c.o,Value.int .u64 y5.c.t,Value.slice y5.c.a y5.c.n y5.c.cap]:Array Value).size from info_im16) ?_)
   refine (swords_is y5 L 0 _ (HG5.out.alloc _) (by rw [HY5.out];exact M2.out)).mono ?_
   rintro e v6 ⟨a6,k6,d6,o6,rfl,hm,hn6,hb6⟩
   have HV6:=Lib.hid hm.words
   have HN6:=Lib.hid hn6
   have hb56:Below v5.heap.size v5 v6:=((Below.refl _ v5).alloc (Nat.le_refl _) _).trans (hb6.mono (by simp))
   have HB6:Hid (Below w.heap.size w v6):=HB5.out.trans (hb56.mono HB5.out.size)
   have HQ6:Hid (v6.heap[v5.heap.size]?=some (.cells #[Value.slice y5.a y5.n y5.cap,Value.int .u64 y5.c.m,Value.int .u64 y5.c.l,Value.int .u64 y5.c.o,Value.int .u64 y5.c.t,Value.slice y5.c.a y5.c.n y5.c.cap] 28 (0,0))):=(hb6.block _ (by simp)).trans (HNB.out _)
   have HP6:=Lib.hid ((hb56.block _ (Array.getElem?_eq_some_iff.1 HP5.out).1).trans HP5.out)
   have HU6:=Lib.hid (HU5.out.below hb56 (Nat.le_refl _))
   have hyn:y5.n=(Daw.dmake L).length:=by
    have h:(sts y5.xs).length=y5.n:=by rw [sts_length];exact HG5.out.1.1
    have h2:sts y5.xs=Daw.dmake L:=congrArg Img.Im.sts HY5.out
    rw [← h,h2]
   have hxn:x0.im.sts.length=x0.n:=by show (sts x0.xs).length=_;rw [sts_length];exact HXX.out
   have hle:y5.n≤x0.n:=by rw [hyn,← hxn];exact M3.out
   have HLE:Hid (y5.n≤x0.n):=hle
   clear hm hn6 hb6 hb56 HNB hyn hxn hle HP5 HU5
   simp only []
   go_wp2_with fail
   refine (sames_is a6 a3 k6 k3 d6 d3 o6 o3 true _ HV6.out HU6.out (by rw [HN6.out,HN3.out];simp)).mono ?_
   rintro e v7 ⟨rfl,hq⟩
   have hb7:=drawn_below hq
   have HB7:Hid (Below w.heap.size w v7):=HB6.out.trans (hb7.mono HB6.out.size)
   have hq7:v7.heap[v5.heap.size]?=some (.cells #[Value.slice y5.a y5.n y5.cap,Value.int .u64 y5.c.m,Value.int .u64 y5.c.l,Value.int .u64 y5.c.o,Value.int .u64 y5.c.t,Value.slice y5.c.a y5.c.n y5.c.cap] 28 (0,0)):=(hb7.block _ (Array.getElem?_eq_some_iff.1 HQ6.out).1).trans HQ6.out
   have hp7:v7.heap[w.heap.size]?=some (.cells #[Value.slice x0.a x0.n x0.cap,Value.int .u64 x0.c.m,Value.int .u64 x0.c.l,Value.int .u64 x0.c.o,Value.int .u64 x0.c.t,Value.slice x0.c.a x0.c.n x0.c.cap] 28 (0,0)):=(hb7.block _ (Array.getElem?_eq_some_iff.1 HP6.out).1).trans HP6.out
   have c1:=(six_cells hq7).1
   have c2:=(six_cells hp7).1
   have g1:(y5.n:Int)≤(x0.n:Int):=by have:=HLE.out;omega
   have g2:decide ((y5.n:Int)≤(x0.n:Int))=true:=decide_eq_true g1
   have g3:(k3:Int)≤300:=by omega
   have g4:decide ((k3:Int)≤300)=true:=decide_eq_true g3
   clear hq hb7 hq7 hp7
   go_wp2
   go_ret
   exact ⟨rfl,HB7.out⟩

set_option maxRecDepth 100000 in
theorem lifted (os:Os) (started:os.Started) (H:Type) (enc:TypeId × Value→H) :
 ReturnsInHanded {} Tryz.checked os 5 .any (Rows.shapeReadsSpec.pre6 enc Tryz.prog Tryz.f5 Rows.shapeReadsRow.domain false) (Rows.shapeReadsSpec.post enc Tryz.prog Tryz.f5 false true false false):=by
 refine returnsInHanded_of_change (C:=Tryz.checked) own started (by kernel_rfl) Tryz.func5
  (ChangeSpec.witness6 (enc:=enc) (C:=Tryz.checked) false ⟨#[],#[.agg #[.slice none 0 0,.int .u64 0,.int .u64 0,.int .u64 0,.int .u64 0,.slice none 0 0]],[]⟩ 8 (by kernel_rfl) (by kernel_rfl) (by kernel_rfl) (by kernel_rfl)) ?_
 intro W base args ds gs before hval0 hW hcnd _
 have hval:∀ (j:Nat) t v,Tryz.f5.params[j]?=some t→args[j]?=some v→Value.okWide Tryz.prog W .any base t v:=hval0
 have hW':=hW
 obtain ⟨p,q,hA0,hV,rfl,hfz,hnd⟩:=hW
 have hA:DataW.TrodAll enc Tryz.prog W 0 (fun _=>true) true Tryz.f5.params.toList args.toList ds p:=hA0
 rw [Tryz.params5] at hA hval
 obtain ⟨v0,vs0,d0,ds0,p0,q0,hargs,rfl,rfl,h0,r0⟩:=trodAll_cons hA
 obtain ⟨rfl,rfl,rfl⟩:=trodAll_nil r0
 obtain rfl:args=#[v0]:=by cases args;simp_all
 obtain ⟨rfl,rfl⟩:=trodVars_none hV
 have k0:=h0
 have lt0:∀ x ∈ p0,x.block < W.heap.size:=by obtain ⟨m,hm⟩:=k0;exact DataW.trod_lt m _ _ _ hm
 obtain ⟨x0,rfl,w0,n0⟩:=Iw.open (hval 0 28 v0 rfl rfl) h0
 clear hA0 hval0
 refine (walk x0 W w0 n0).mono fun e W' ⟨he,bel⟩=>?_
 subst he
 exact ⟨_,rfl,_,_,_,[],_,[],hW',trodAll_mk1 (shut_bool Tryz.underlying4 _),(trodAll_cons_mk (Below.trod laidOut (by kernel_rfl) (of_decide_eq_true (by kernel_rfl)) k0 bel lt0) trodAll_mk0),rfl,bel.frame _,fun h=>by cases h⟩

theorem over:Rows.shapeReadsRow.holds Tryz.pinned (OpenSpec.ofChange Rows.shapeReadsSpec) :=
 OpenClaim.holds_of_wide 5 Tryz.f5 rfl rfl rfl rfl rfl rfl rfl ⟨rfl,rfl,rfl,rfl,rfl⟩ rfl rfl rfl rfl rfl (by kernel_rfl) Tryz.func5 (by kernel_rfl)
  (of_decide_eq_true (by kernel_rfl)) (by unfold Func.isWrapper;first|(rw [if_pos (by decide +kernel)];kernel_rfl)|(rw [if_neg (by decide +kernel)];exact ⟨rfl,rfl⟩))
  (fun os started H enc _=>lifted os started H enc)

/-- the statement -/
theorem proved:Rows.ShapeReadsSaid:=over
#print axioms proved
end Go.Proofs.YtkiamgcpcneggaaGreat.shapeReads
