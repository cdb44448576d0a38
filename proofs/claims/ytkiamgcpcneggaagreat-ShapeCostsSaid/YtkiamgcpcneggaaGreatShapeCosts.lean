/- For every image, and all costs, ShapeCosts answers true, and turns nothing that was there. No condition. -/
import Derived.Test.YtkiamgcpcneggaaGreatRows
import Derived.Test.YtkiamgcpcneggaaGreatPackAL
import Derived.Test.YtkiamgcpcneggaaGreatPackAI
import Derived.WalkKit
import Derived.ProofKit
import Derived.OpenShut
import Derived.ShutString
import Derived.ChangeOld
import Derived.Below
import Derived.Deep.Matrix
import Derived.SizedLaws
set_option linter.all false
namespace Go.Proofs.YtkiamgcpcneggaaGreat.shapeCosts
open Go.ChangeShapes Go.WideShapes Go.ChangeAt Go.RowKit
set_option linter.unusedVariables false

theorem own:ownKnob Tryz.prog.godebug=none:=by kernel_rfl
theorem laidOut:laidOutB Tryz.prog=true:=by kernel_rfl

/-- a slice of integers that came in -/
def IsRow (k:IntKind) (w:World) (a:Option Addr) (len cap:Nat) (zs:List Int):Prop :=
 (a=none∧len=0∧cap=0∧zs=[]) ∨
 ∃ x,a=some x∧len≤cap∧cap≤maxLen∧zs.length=cap∧(∀ i,i < zs.length→w.cell? (x.add i)=some (.int k (zs.getD i 0)))∧∀ n ∈ zs,(Lit.int k n).wf=true

theorem rule_code {x:Img.Im} (h:Tri.check x.sts=true):(Shp.chk x == 60)=!File.check x.c:=by
 have h1:=Shp.chk_rule h
 cases h2:File.check x.c with
 | false=>rw [h1.2 h2];rfl
 | true =>
   have h3:¬ Shp.chk x=60:=fun h4=>by rw [h1.1 h4] at h2;cases h2
   simp [h3]

/-! ### STEP 1: the walk -/
set_option maxHeartbeats 6400000 in
set_option maxRecDepth 100000 in
theorem walk (x0:Iw) (x1:Cw) (w:World) (w0:x0.Good w) (n0:(x0.a=none→x0.cap=0)∧(x0.c.a=none→x0.c.cap=0)) (w1:x1.Good w) (n1:x1.a=none→x1.cap=0) :
 Calls Tryz.prog 6 #[x0.v,x1.v] w fun e w'=>e=.returned (.bool true)∧Below w.heap.size w w':=by
 have HX_0a:=Lib.hid w0
 have HK_0a:=Lib.hid w1
 clear w0 n0 w1 n1
 obtain ⟨⟨L1,e1⟩,hw1⟩:∃ g,Shp.wrd x0.im=g:=⟨_,rfl⟩
 obtain ⟨⟨L2,e2⟩,hw2⟩:∃ g,Shp.wrd ⟨x0.im.sts,x1.c⟩=g:=⟨_,rfl⟩
 have HW1:=Lib.hid hw1
 have HW2:=Lib.hid hw2
 have HBX:Hid (∀ o p,Below w.heap.size w ((w.alloc o).alloc p)):=fun o p=>((Below.refl _ w).alloc (Nat.le_refl _) o).alloc (by simp) p
 have HN0:Hid (∀ o p,((w.alloc o).alloc p).heap[w.heap.size]?=some o):=fun o p=>(((Below.refl (w.alloc o).heap.size (w.alloc o)).alloc (Nat.le_refl _) p).block _ (by simp)).trans (heap_alloc_new w o)
 have HN1:Hid (∀ o p,((w.alloc o).alloc p).heap[w.heap.size + 1]?=some p):=fun o p=>by have h:=heap_alloc_new (w.alloc o) p;rw [World.size_alloc] at h;exact h
 have HSZ:Hid (∀ o p,((w.alloc o).alloc p).heap.size=w.heap.size + 1 + 1):=fun o p=>by rw [World.size_alloc,World.size_alloc]
 clear hw1 hw2
 simp only [Iw.v,Cw.v,Cw.cells]
 go_enter Tryz.func6,Tryz.ntmps6
 go_wp2_with fail
 refine (awake_any _).mono ?_
 rintro e v1 ⟨rfl,hb1⟩
 have HB_0:Hid (Below w.heap.size w v1):=(HBX.out _ _).trans (hb1.mono (by rw [HSZ.out];omega))
 have HP_0:Hid (v1.heap[w.heap.size]?=some (.cells #[Value.slice x0.a x0.n x0.cap,Value.int .u64 x0.c.m,Value.int .u64 x0.c.l,Value.int .u64 x0.c.o,Value.int .u64 x0.c.t,Value.slice x0.c.a x0.c.n x0.c.cap] 28 (0,0))):=(hb1.block _ (by rw [HSZ.out];omega)).trans (HN0.out _ _)
 have HQ_0:Hid (v1.heap[w.heap.size + 1]?=some (.cells #[Value.int .u64 x1.m,Value.int .u64 x1.l,Value.int .u64 x1.o,Value.int .u64 x1.t,Value.slice x1.a x1.n x1.cap] 26 (0,0))):=(hb1.block _ (by rw [HSZ.out];omega)).trans (HN1.out _ _)
 have HX_0:=Lib.hid (HX_0a.out.below HB_0.out (Nat.le_refl _))
 have HK_0:=Lib.hid (HK_0a.out.below HB_0.out (Nat.le_refl _))
 clear hb1 HBX HN0 HN1 HSZ HX_0a HK_0a
 have HYN:Hid (∀ o:Obj,(v1.alloc o).heap[v1.heap.size]?=some o):=fun o=>heap_alloc_new v1 o
 have HPA:Hid (∀ o,(v1.alloc o).heap[w.heap.size]?=some (.cells #[Value.slice x0.a x0.n x0.cap,Value.int .u64 x0.c.m,Value.int .u64 x0.c.l,Value.int .u64 x0.c.o,Value.int .u64 x0.c.t,Value.slice x0.c.a x0.c.n x0.c.cap] 28 (0,0))):=fun o=>(((Below.refl v1.heap.size v1).alloc (Nat.le_refl _) o).block _ (Array.getElem?_eq_some_iff.1 HP_0.out).1).trans HP_0.out
 have k0:v1.cell? ⟨w.heap.size,0,none⟩=some (.slice x0.a x0.n x0.cap):=(six_cells HP_0.out).1
 go_wp2_with first
  | (refine wpList_load_row_w (by rfl) 26 (.tmp 3) (by rfl) (w.heap.size + 1) (by rfl) 26 #[Value.int .u64 x1.m,Value.int .u64 x1.l,Value.int .u64 x1.o,Value.int .u64 x1.t,Value.slice x1.a x1.n x1.cap] (0,0) _ HQ_0.out Tryz.underlying26 (by rfl) (show _=some (#[Value.int .u64 x1.m,Value.int .u64 x1.l,Value.int .u64 x1.o,Value.int .u64 x1.t,Value.slice x1.a x1.n x1.cap]:Array Value).size from info_c16) ?_)
  | (refine wpList_load_row_w (by rfl) 28 (.tmp 2) (by rfl) w.heap.size (by rfl) 28 #[Value.slice x0.a x0.n x0.cap,Value.int .u64 x0.c.m,Value.int .u64 x0.c.l,Value.int .u64 x0.c.o,Value.int .u64 x0.c.t,Value.slice x0.c.a x0.c.n x0.c.cap] (0,0) _ (HPA.out _) Tryz.underlying28 (by rfl) (show _=some (#[Value.slice x0.a x0.n x0.cap,Value.int .u64 x0.c.m,Value.int .u64 x0.c.l,Value.int .u64 x0.c.o,Value.int .u64 x0.c.t,Value.slice x0.c.a x0.c.n x0.c.cap]:Array Value).size from info_im16) ?_)
 refine (few16_is x0 _ (HX_0.out.alloc _)).mono ?_
 rintro e v2 ⟨he,hb0⟩
 have hr:v2.heap[v1.heap.size]?=some (.cells #[Value.slice x0.a x0.n x0.cap,Value.int .u64 x1.m,Value.int .u64 x1.l,Value.int .u64 x1.o,Value.int .u64 x1.t,Value.slice x1.a x1.n x1.cap] 28 (0,0)):=(hb0.block _ (by simp)).trans (HYN.out _)
 have hb:Below v1.heap.size v1 v2:=((Below.refl _ v1).alloc (Nat.le_refl _) _).trans (hb0.mono (by simp))
 clear hb0 k0 HYN HPA
 have HP_1:=Lib.hid ((hb.block _ (Array.getElem?_eq_some_iff.1 HP_0.out).1).trans HP_0.out)
 have HQ_1:=Lib.hid ((hb.block _ (Array.getElem?_eq_some_iff.1 HQ_0.out).1).trans HQ_0.out)
 have HX_1:=Lib.hid (HX_0.out.below hb (Nat.le_refl _))
 have HK_1:=Lib.hid (HK_0.out.below hb (Nat.le_refl _))
 have HB_1:=Lib.hid (HB_0.out.trans (hb.mono HB_0.out.size))
 clear HP_0 HQ_0 HX_0 HK_0 HB_0 hb
 have HR_1:=Lib.hid (hr)
 have HY:Hid (Iw.Good v2 ⟨x0.a,x0.n,x0.cap,x0.xs,x1⟩):=⟨HX_1.out.1,HK_1.out⟩
 clear hr
 rcases he with rfl|⟨rfl,-,-,-,-⟩
 ·go_wp2
  go_ret
  exact ⟨rfl,HB_1.out⟩
 go_wp2_with first
  | (refine wpList_load_row_w (by rfl) 28 (.tmp 6) (by rfl) v1.heap.size (by rfl) 28 #[Value.slice x0.a x0.n x0.cap,Value.int .u64 x1.m,Value.int .u64 x1.l,Value.int .u64 x1.o,Value.int .u64 x1.t,Value.slice x1.a x1.n x1.cap] (0,0) _ HR_1.out Tryz.underlying28 (by rfl) (show _=some (#[Value.slice x0.a x0.n x0.cap,Value.int .u64 x1.m,Value.int .u64 x1.l,Value.int .u64 x1.o,Value.int .u64 x1.t,Value.slice x1.a x1.n x1.cap]:Array Value).size from info_im16) ?_)
 refine (few16_is ⟨x0.a,x0.n,x0.cap,x0.xs,x1⟩ v2 HY.out).mono ?_
 rintro e v3 ⟨he,hb⟩
 clear HY
 have HP_2:=Lib.hid ((hb.block _ (Array.getElem?_eq_some_iff.1 HP_1.out).1).trans HP_1.out)
 have HQ_2:=Lib.hid ((hb.block _ (Array.getElem?_eq_some_iff.1 HQ_1.out).1).trans HQ_1.out)
 have HX_2:=Lib.hid (HX_1.out.below hb (Nat.le_refl _))
 have HK_2:=Lib.hid (HK_1.out.below hb (Nat.le_refl _))
 have HR_2:=Lib.hid ((hb.block _ (Array.getElem?_eq_some_iff.1 HR_1.out).1).trans HR_1.out)
 have HB_2:=Lib.hid (HB_1.out.trans (hb.mono HB_1.out.size))
 clear HP_1 HQ_1 HX_1 HK_1 HR_1 HB_1 hb
 rcases he with rfl|⟨rfl,-,-,-,-⟩
 ·go_wp2
  go_ret
  exact ⟨rfl,HB_2.out⟩
 go_wp2_with first
  | (refine wpList_load_row_w (by rfl) 28 (.tmp 2) (by rfl) w.heap.size (by rfl) 28 #[Value.slice x0.a x0.n x0.cap,Value.int .u64 x0.c.m,Value.int .u64 x0.c.l,Value.int .u64 x0.c.o,Value.int .u64 x0.c.t,Value.slice x0.c.a x0.c.n x0.c.cap] (0,0) _ HP_2.out Tryz.underlying28 (by rfl) (show _=some (#[Value.slice x0.a x0.n x0.cap,Value.int .u64 x0.c.m,Value.int .u64 x0.c.l,Value.int .u64 x0.c.o,Value.int .u64 x0.c.t,Value.slice x0.c.a x0.c.n x0.c.cap]:Array Value).size from info_im16) ?_)
 refine (swords_is x0 L1 e1 v3 HX_2.out HW1.out).mono ?_
 rintro e v4 ⟨a4,k4,d4,o4,rfl,hm,hn4,hb⟩
 have hm4:=hm.words
 have HN4:=Lib.hid hn4
 clear hm hn4
 have HP_3:=Lib.hid ((hb.block _ (Array.getElem?_eq_some_iff.1 HP_2.out).1).trans HP_2.out)
 have HQ_3:=Lib.hid ((hb.block _ (Array.getElem?_eq_some_iff.1 HQ_2.out).1).trans HQ_2.out)
 have HX_3:=Lib.hid (HX_2.out.below hb (Nat.le_refl _))
 have HK_3:=Lib.hid (HK_2.out.below hb (Nat.le_refl _))
 have HR_3:=Lib.hid ((hb.block _ (Array.getElem?_eq_some_iff.1 HR_2.out).1).trans HR_2.out)
 have HB_3:=Lib.hid (HB_2.out.trans (hb.mono HB_2.out.size))
 clear HP_2 HQ_2 HX_2 HK_2 HR_2 HB_2 hb
 have HU_3:=Lib.hid (hm4)
 clear hm4
 simp only []
 go_wp2_with first
  | (refine wpList_load_row_w (by rfl) 28 (.tmp 6) (by rfl) v1.heap.size (by rfl) 28 #[Value.slice x0.a x0.n x0.cap,Value.int .u64 x1.m,Value.int .u64 x1.l,Value.int .u64 x1.o,Value.int .u64 x1.t,Value.slice x1.a x1.n x1.cap] (0,0) _ HR_3.out Tryz.underlying28 (by rfl) (show _=some (#[Value.slice x0.a x0.n x0.cap,Value.int .u64 x1.m,Value.int .u64 x1.l,Value.int .u64 x1.o,Value.int .u64 x1.t,Value.slice x1.a x1.n x1.cap]:Array Value).size from info_im16) ?_)
 refine (swords_is ⟨x0.a,x0.n,x0.cap,x0.xs,x1⟩ L2 e2 v4 ⟨HX_3.out.1,HK_3.out⟩ HW2.out).mono ?_
 rintro e v5 ⟨a5,k5,d5,o5,rfl,hm,hn5,hb⟩
 have hm5:=hm.words
 have HN5:=Lib.hid hn5
 clear hm hn5
 have HP_4:=Lib.hid ((hb.block _ (Array.getElem?_eq_some_iff.1 HP_3.out).1).trans HP_3.out)
 have HQ_4:=Lib.hid ((hb.block _ (Array.getElem?_eq_some_iff.1 HQ_3.out).1).trans HQ_3.out)
 have HX_4:=Lib.hid (HX_3.out.below hb (Nat.le_refl _))
 have HK_4:=Lib.hid (HK_3.out.below hb (Nat.le_refl _))
 have HR_4:=Lib.hid ((hb.block _ (Array.getElem?_eq_some_iff.1 HR_3.out).1).trans HR_3.out)
 have HU_4:=Lib.hid (HU_3.out.below hb (Nat.le_refl _))
 have HB_4:=Lib.hid (HB_3.out.trans (hb.mono HB_3.out.size))
 clear HP_3 HQ_3 HX_3 HK_3 HR_3 HU_3 HB_3 hb
 have HV_4:=Lib.hid (hm5)
 clear hm5
 simp only []
 obtain ⟨c,hc⟩:∃ c,Tri.check (sts x0.xs)=c:=⟨_,rfl⟩
 obtain ⟨r0,hr0⟩:∃ r,File.check x0.c.c=r:=⟨_,rfl⟩
 obtain ⟨r1,hr1⟩:∃ r,File.check x1.c=r:=⟨_,rfl⟩
 have he1:Shp.chk x0.im=e1:=by have h:=(Shp.wrd_err x0.im).1;rw [HW1.out] at h;exact h.symm
 have he2:Shp.chk ⟨x0.im.sts,x1.c⟩=e2:=by have h:=(Shp.wrd_err ⟨x0.im.sts,x1.c⟩).1;rw [HW2.out] at h;exact h.symm
 have HC:=Lib.hid hc
 have HR0:=Lib.hid hr0
 have HR1:=Lib.hid hr1
 have HE1:=Lib.hid he1
 have HE2:=Lib.hid he2
 clear hc hr0 hr1 he1 he2
 obtain ⟨p0,p1,p2,p3,p4,p5⟩:=six_cells HP_4.out
 go_wp2_with fail
 refine (tcheck_is x0.a x0.n x0.cap x0.xs c v5 HX_4.out.1 HC.out).mono ?_
 rintro e v6 ⟨rfl,hb⟩
 clear p0 p1 p2 p3 p4 p5
 have HP_5:=Lib.hid ((hb.block _ (Array.getElem?_eq_some_iff.1 HP_4.out).1).trans HP_4.out)
 have HQ_5:=Lib.hid ((hb.block _ (Array.getElem?_eq_some_iff.1 HQ_4.out).1).trans HQ_4.out)
 have HX_5:=Lib.hid (HX_4.out.below hb (Nat.le_refl _))
 have HK_5:=Lib.hid (HK_4.out.below hb (Nat.le_refl _))
 have HR_5:=Lib.hid ((hb.block _ (Array.getElem?_eq_some_iff.1 HR_4.out).1).trans HR_4.out)
 have HU_5:=Lib.hid (HU_4.out.below hb (Nat.le_refl _))
 have HV_5:=Lib.hid (HV_4.out.below hb (Nat.le_refl _))
 have HB_5:=Lib.hid (HB_4.out.trans (hb.mono HB_4.out.size))
 clear HP_4 HQ_4 HX_4 HK_4 HR_4 HU_4 HV_4 HB_4 hb
 cases c with
 | false =>
   obtain rfl:e1=100:=by rw [← HE1.out];exact Shp.chk_auto HC.out
   obtain rfl:e2=100:=by rw [← HE2.out];exact Shp.chk_auto HC.out
   go_wp2
   go_ret
   exact ⟨rfl,HB_5.out⟩
 | true =>
   have hq1:(e1 == 60)=!r0:=by
    rw [← HE1.out,← HR0.out]
    exact rule_code HC.out
   have hq2:(e2 == 60)=!r1:=by
    rw [← HE2.out,← HR1.out]
    exact rule_code (x:=⟨x0.im.sts,x1.c⟩) HC.out
   have HQ1:=Lib.hid hq1
   have HQ2:=Lib.hid hq2
   clear hq1 hq2
   obtain ⟨p0,p1,p2,p3,p4,p5⟩:=six_cells HP_5.out
   go_wp2_with fail
   refine (fcheck_is x0.c r0 v6 HX_5.out.2 HR0.out).mono ?_
   rintro e v7 ⟨rfl,hb⟩
   clear p0 p1 p2 p3 p4 p5
   have HP_6:=Lib.hid ((hb.block _ (Array.getElem?_eq_some_iff.1 HP_5.out).1).trans HP_5.out)
   have HQ_6:=Lib.hid ((hb.block _ (Array.getElem?_eq_some_iff.1 HQ_5.out).1).trans HQ_5.out)
   have HX_6:=Lib.hid (HX_5.out.below hb (Nat.le_refl _))
   have HK_6:=Lib.hid (HK_5.out.below hb (Nat.le_refl _))
   have HR_6:=Lib.hid ((hb.block _ (Array.getElem?_eq_some_iff.1 HR_5.out).1).trans HR_5.out)
   have HU_6:=Lib.hid (HU_5.out.below hb (Nat.le_refl _))
   have HV_6:=Lib.hid (HV_5.out.below hb (Nat.le_refl _))
   have HB_6:=Lib.hid (HB_5.out.trans (hb.mono HB_5.out.size))
   clear HP_5 HQ_5 HX_5 HK_5 HR_5 HU_5 HV_5 HB_5 hb
   cases r0 with
   | false =>
     cases r1 with
     | false =>
       have hq1:=HQ1.out
       have hq2:=HQ2.out
       obtain ⟨p0,p1,p2,p3,p4,p5⟩:=six_cells HP_6.out
       go_wp2_with fail
       refine (fcheck_is x0.c _ v7 HX_6.out.2 HR0.out).mono ?_
       rintro e v8 ⟨rfl,hb⟩
       clear p0 p1 p2 p3 p4 p5
       have HP_7:=Lib.hid ((hb.block _ (Array.getElem?_eq_some_iff.1 HP_6.out).1).trans HP_6.out)
       have HQ_7:=Lib.hid ((hb.block _ (Array.getElem?_eq_some_iff.1 HQ_6.out).1).trans HQ_6.out)
       have HX_7:=Lib.hid (HX_6.out.below hb (Nat.le_refl _))
       have HK_7:=Lib.hid (HK_6.out.below hb (Nat.le_refl _))
       have HR_7:=Lib.hid ((hb.block _ (Array.getElem?_eq_some_iff.1 HR_6.out).1).trans HR_6.out)
       have HU_7:=Lib.hid (HU_6.out.below hb (Nat.le_refl _))
       have HV_7:=Lib.hid (HV_6.out.below hb (Nat.le_refl _))
       have HB_7:=Lib.hid (HB_6.out.trans (hb.mono HB_6.out.size))
       clear HP_6 HQ_6 HX_6 HK_6 HR_6 HU_6 HV_6 HB_6 hb
       go_wp2_with first
        | (refine wpList_load_row_w (by rfl) 26 (.tmp 3) (by rfl) (w.heap.size + 1) (by rfl) 26 #[Value.int .u64 x1.m,Value.int .u64 x1.l,Value.int .u64 x1.o,Value.int .u64 x1.t,Value.slice x1.a x1.n x1.cap] (0,0) _ HQ_7.out Tryz.underlying26 (by rfl) (show _=some (#[Value.int .u64 x1.m,Value.int .u64 x1.l,Value.int .u64 x1.o,Value.int .u64 x1.t,Value.slice x1.a x1.n x1.cap]:Array Value).size from info_c16) ?_)
       refine (fcheck_is x1 _ v8 HK_7.out HR1.out).mono ?_
       rintro e v9 ⟨rfl,hb⟩
       have HP_8:=Lib.hid ((hb.block _ (Array.getElem?_eq_some_iff.1 HP_7.out).1).trans HP_7.out)
       have HQ_8:=Lib.hid ((hb.block _ (Array.getElem?_eq_some_iff.1 HQ_7.out).1).trans HQ_7.out)
       have HX_8:=Lib.hid (HX_7.out.below hb (Nat.le_refl _))
       have HK_8:=Lib.hid (HK_7.out.below hb (Nat.le_refl _))
       have HR_8:=Lib.hid ((hb.block _ (Array.getElem?_eq_some_iff.1 HR_7.out).1).trans HR_7.out)
       have HU_8:=Lib.hid (HU_7.out.below hb (Nat.le_refl _))
       have HV_8:=Lib.hid (HV_7.out.below hb (Nat.le_refl _))
       have HB_8:=Lib.hid (HB_7.out.trans (hb.mono HB_7.out.size))
       clear HP_7 HQ_7 HX_7 HK_7 HR_7 HU_7 HV_7 HB_7 hb
       go_wp2
       go_ret
       exact ⟨rfl,HB_8.out⟩
     | true =>
       have hq1:=HQ1.out
       have hq2:=HQ2.out
       obtain ⟨p0,p1,p2,p3,p4,p5⟩:=six_cells HP_6.out
       go_wp2_with fail
       refine (fcheck_is x0.c _ v7 HX_6.out.2 HR0.out).mono ?_
       rintro e v8 ⟨rfl,hb⟩
       clear p0 p1 p2 p3 p4 p5
       have HP_7:=Lib.hid ((hb.block _ (Array.getElem?_eq_some_iff.1 HP_6.out).1).trans HP_6.out)
       have HQ_7:=Lib.hid ((hb.block _ (Array.getElem?_eq_some_iff.1 HQ_6.out).1).trans HQ_6.out)
       have HX_7:=Lib.hid (HX_6.out.below hb (Nat.le_refl _))
       have HK_7:=Lib.hid (HK_6.out.below hb (Nat.le_refl _))
       have HR_7:=Lib.hid ((hb.block _ (Array.getElem?_eq_some_iff.1 HR_6.out).1).trans HR_6.out)
       have HU_7:=Lib.hid (HU_6.out.below hb (Nat.le_refl _))
       have HV_7:=Lib.hid (HV_6.out.below hb (Nat.le_refl _))
       have HB_7:=Lib.hid (HB_6.out.trans (hb.mono HB_6.out.size))
       clear HP_6 HQ_6 HX_6 HK_6 HR_6 HU_6 HV_6 HB_6 hb
       go_wp2_with first
        | (refine wpList_load_row_w (by rfl) 26 (.tmp 3) (by rfl) (w.heap.size + 1) (by rfl) 26 #[Value.int .u64 x1.m,Value.int .u64 x1.l,Value.int .u64 x1.o,Value.int .u64 x1.t,Value.slice x1.a x1.n x1.cap] (0,0) _ HQ_7.out Tryz.underlying26 (by rfl) (show _=some (#[Value.int .u64 x1.m,Value.int .u64 x1.l,Value.int .u64 x1.o,Value.int .u64 x1.t,Value.slice x1.a x1.n x1.cap]:Array Value).size from info_c16) ?_)
       refine (fcheck_is x1 _ v8 HK_7.out HR1.out).mono ?_
       rintro e v9 ⟨rfl,hb⟩
       have HP_8:=Lib.hid ((hb.block _ (Array.getElem?_eq_some_iff.1 HP_7.out).1).trans HP_7.out)
       have HQ_8:=Lib.hid ((hb.block _ (Array.getElem?_eq_some_iff.1 HQ_7.out).1).trans HQ_7.out)
       have HX_8:=Lib.hid (HX_7.out.below hb (Nat.le_refl _))
       have HK_8:=Lib.hid (HK_7.out.below hb (Nat.le_refl _))
       have HR_8:=Lib.hid ((hb.block _ (Array.getElem?_eq_some_iff.1 HR_7.out).1).trans HR_7.out)
       have HU_8:=Lib.hid (HU_7.out.below hb (Nat.le_refl _))
       have HV_8:=Lib.hid (HV_7.out.below hb (Nat.le_refl _))
       have HB_8:=Lib.hid (HB_7.out.trans (hb.mono HB_7.out.size))
       clear HP_7 HQ_7 HX_7 HK_7 HR_7 HU_7 HV_7 HB_7 hb
       go_wp2
       go_ret
       exact ⟨rfl,HB_8.out⟩
   | true =>
     go_wp2_with first
      | (refine wpList_load_row_w (by rfl) 26 (.tmp 3) (by rfl) (w.heap.size + 1) (by rfl) 26 #[Value.int .u64 x1.m,Value.int .u64 x1.l,Value.int .u64 x1.o,Value.int .u64 x1.t,Value.slice x1.a x1.n x1.cap] (0,0) _ HQ_6.out Tryz.underlying26 (by rfl) (show _=some (#[Value.int .u64 x1.m,Value.int .u64 x1.l,Value.int .u64 x1.o,Value.int .u64 x1.t,Value.slice x1.a x1.n x1.cap]:Array Value).size from info_c16) ?_)
     refine (fcheck_is x1 r1 v7 HK_6.out HR1.out).mono ?_
     rintro e v8 ⟨rfl,hb⟩
     have HP_7:=Lib.hid ((hb.block _ (Array.getElem?_eq_some_iff.1 HP_6.out).1).trans HP_6.out)
     have HQ_7:=Lib.hid ((hb.block _ (Array.getElem?_eq_some_iff.1 HQ_6.out).1).trans HQ_6.out)
     have HX_7:=Lib.hid (HX_6.out.below hb (Nat.le_refl _))
     have HK_7:=Lib.hid (HK_6.out.below hb (Nat.le_refl _))
     have HR_7:=Lib.hid ((hb.block _ (Array.getElem?_eq_some_iff.1 HR_6.out).1).trans HR_6.out)
     have HU_7:=Lib.hid (HU_6.out.below hb (Nat.le_refl _))
     have HV_7:=Lib.hid (HV_6.out.below hb (Nat.le_refl _))
     have HB_7:=Lib.hid (HB_6.out.trans (hb.mono HB_6.out.size))
     clear HP_6 HQ_6 HX_6 HK_6 HR_6 HU_6 HV_6 HB_6 hb
     cases r1 with
     | false =>
       have hq1:=HQ1.out
       have hq2:=HQ2.out
       obtain ⟨p0,p1,p2,p3,p4,p5⟩:=six_cells HP_7.out
       go_wp2_with fail
       refine (fcheck_is x0.c _ v8 HX_7.out.2 HR0.out).mono ?_
       rintro e v9 ⟨rfl,hb⟩
       clear p0 p1 p2 p3 p4 p5
       have HP_8:=Lib.hid ((hb.block _ (Array.getElem?_eq_some_iff.1 HP_7.out).1).trans HP_7.out)
       have HQ_8:=Lib.hid ((hb.block _ (Array.getElem?_eq_some_iff.1 HQ_7.out).1).trans HQ_7.out)
       have HX_8:=Lib.hid (HX_7.out.below hb (Nat.le_refl _))
       have HK_8:=Lib.hid (HK_7.out.below hb (Nat.le_refl _))
       have HR_8:=Lib.hid ((hb.block _ (Array.getElem?_eq_some_iff.1 HR_7.out).1).trans HR_7.out)
       have HU_8:=Lib.hid (HU_7.out.below hb (Nat.le_refl _))
       have HV_8:=Lib.hid (HV_7.out.below hb (Nat.le_refl _))
       have HB_8:=Lib.hid (HB_7.out.trans (hb.mono HB_7.out.size))
       clear HP_7 HQ_7 HX_7 HK_7 HR_7 HU_7 HV_7 HB_7 hb
       go_wp2_with first
        | (refine wpList_load_row_w (by rfl) 26 (.tmp 3) (by rfl) (w.heap.size + 1) (by rfl) 26 #[Value.int .u64 x1.m,Value.int .u64 x1.l,Value.int .u64 x1.o,Value.int .u64 x1.t,Value.slice x1.a x1.n x1.cap] (0,0) _ HQ_8.out Tryz.underlying26 (by rfl) (show _=some (#[Value.int .u64 x1.m,Value.int .u64 x1.l,Value.int .u64 x1.o,Value.int .u64 x1.t,Value.slice x1.a x1.n x1.cap]:Array Value).size from info_c16) ?_)
       refine (fcheck_is x1 _ v9 HK_8.out HR1.out).mono ?_
       rintro e v10 ⟨rfl,hb⟩
       have HP_9:=Lib.hid ((hb.block _ (Array.getElem?_eq_some_iff.1 HP_8.out).1).trans HP_8.out)
       have HQ_9:=Lib.hid ((hb.block _ (Array.getElem?_eq_some_iff.1 HQ_8.out).1).trans HQ_8.out)
       have HX_9:=Lib.hid (HX_8.out.below hb (Nat.le_refl _))
       have HK_9:=Lib.hid (HK_8.out.below hb (Nat.le_refl _))
       have HR_9:=Lib.hid ((hb.block _ (Array.getElem?_eq_some_iff.1 HR_8.out).1).trans HR_8.out)
       have HU_9:=Lib.hid (HU_8.out.below hb (Nat.le_refl _))
       have HV_9:=Lib.hid (HV_8.out.below hb (Nat.le_refl _))
       have HB_9:=Lib.hid (HB_8.out.trans (hb.mono HB_8.out.size))
       clear HP_8 HQ_8 HX_8 HK_8 HR_8 HU_8 HV_8 HB_8 hb
       go_wp2
       go_ret
       exact ⟨rfl,HB_9.out⟩
     | true =>
       have hww:Shp.wrd ⟨x0.im.sts,x1.c⟩=Shp.wrd x0.im:=Shp.wrd_costs HR0.out HR1.out
       rw [HW1.out,HW2.out] at hww
       obtain ⟨rfl,rfl⟩:=Prod.mk.inj hww
       clear hww
       have hself:(e2 == e2)=true:=by simp
       go_wp2_with fail
       refine (sames_is a4 a5 k4 k5 d4 d5 o4 o5 true _ HU_7.out HV_7.out (by rw [HN4.out,HN5.out];simp)).mono ?_
       rintro e v9 ⟨rfl,hq⟩
       have HB9:Hid (Below w.heap.size w v9):=HB_7.out.trans ((drawn_below hq).mono HB_7.out.size)
       clear hq
       go_wp2
       go_ret
       exact ⟨rfl,HB9.out⟩

set_option maxRecDepth 100000 in
theorem lifted (os:Os) (started:os.Started) (H:Type) (enc:TypeId × Value→H) :
 ReturnsInHanded {} Tryz.checked os 6 .any (Rows.shapeCostsSpec.pre6 enc Tryz.prog Tryz.f6 Rows.shapeCostsRow.domain false) (Rows.shapeCostsSpec.post enc Tryz.prog Tryz.f6 false true false false):=by
 refine returnsInHanded_of_change (C:=Tryz.checked) own started (by kernel_rfl) Tryz.func6
  (ChangeSpec.witness6 (enc:=enc) (C:=Tryz.checked) false ⟨#[],#[.agg #[.slice none 0 0,.int .u64 0,.int .u64 0,.int .u64 0,.int .u64 0,.slice none 0 0],.agg #[.int .u64 0,.int .u64 0,.int .u64 0,.int .u64 0,.slice none 0 0]],[]⟩ 8 (by kernel_rfl) (by kernel_rfl) (by kernel_rfl) (by kernel_rfl)) ?_
 intro W base args ds gs before hval0 hW hcnd _
 have hval:∀ (j:Nat) t v,Tryz.f6.params[j]?=some t→args[j]?=some v→Value.okWide Tryz.prog W .any base t v:=hval0
 have hW':=hW
 obtain ⟨p,q,hA0,hV,rfl,hfz,hnd⟩:=hW
 have hA:DataW.TrodAll enc Tryz.prog W 0 (fun _=>true) true Tryz.f6.params.toList args.toList ds p:=hA0
 rw [Tryz.params6] at hA hval
 obtain ⟨v0,vs0,d0,ds0,p0,q0,hargs,rfl,rfl,h0,r0⟩:=trodAll_cons hA
 obtain ⟨v1,vs1,d1,ds1,p1,q1,rfl,rfl,rfl,h1,r1⟩:=trodAll_cons r0
 obtain ⟨rfl,rfl,rfl⟩:=trodAll_nil r1
 obtain rfl:args=#[v0,v1]:=by cases args;simp_all
 obtain ⟨rfl,rfl⟩:=trodVars_none hV
 have k0:=h0
 have lt0:∀ x ∈ p0,x.block < W.heap.size:=by obtain ⟨m,hm⟩:=k0;exact DataW.trod_lt m _ _ _ hm
 obtain ⟨x0,rfl,w0,n0⟩:=Iw.open (hval 0 28 v0 rfl rfl) h0
 have k1:=h1
 have lt1:∀ x ∈ p1,x.block < W.heap.size:=by obtain ⟨m,hm⟩:=k1;exact DataW.trod_lt m _ _ _ hm
 obtain ⟨x1,rfl,w1,n1⟩:=Cw.open (hval 1 26 v1 rfl rfl) h1
 clear hA0 hval0
 refine (walk x0 x1 W w0 n0 w1 n1).mono fun e W' ⟨he,bel⟩=>?_
 subst he
 exact ⟨_,rfl,_,_,_,[],_,[],hW',trodAll_mk1 (shut_bool Tryz.underlying4 _),(trodAll_cons_mk (Below.trod laidOut (by kernel_rfl) (of_decide_eq_true (by kernel_rfl)) k0 bel lt0) (trodAll_cons_mk (Below.trod laidOut (by kernel_rfl) (of_decide_eq_true (by kernel_rfl)) k1 bel lt1) trodAll_mk0)),rfl,bel.frame _,fun h=>by cases h⟩

theorem over:Rows.shapeCostsRow.holds Tryz.pinned (OpenSpec.ofChange Rows.shapeCostsSpec) :=
 OpenClaim.holds_of_wide 6 Tryz.f6 rfl rfl rfl rfl rfl rfl rfl ⟨rfl,rfl,rfl,rfl,rfl⟩ rfl rfl rfl rfl rfl (by kernel_rfl) Tryz.func6 (by kernel_rfl)
  (of_decide_eq_true (by kernel_rfl)) (by unfold Func.isWrapper;first|(rw [if_pos (by decide +kernel)];kernel_rfl)|(rw [if_neg (by decide +kernel)];exact ⟨rfl,rfl⟩))
  (fun os started H enc _=>lifted os started H enc)

/-- the statement -/
theorem proved:Rows.ShapeCostsSaid:=over
#print axioms proved
end Go.Proofs.YtkiamgcpcneggaaGreat.shapeCosts
