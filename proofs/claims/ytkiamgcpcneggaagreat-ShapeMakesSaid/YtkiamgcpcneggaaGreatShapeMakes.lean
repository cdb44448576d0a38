/- For all words, and all costs, ShapeMakes answers true, and turns nothing that was there. No condition. -/
import Derived.Test.YtkiamgcpcneggaaGreatRows
import Derived.Test.YtkiamgcpcneggaaGreatPackAL
import Derived.Test.YtkiamgcpcneggaaGreatPackAR
import Derived.Test.YtkiamgcpcneggaaGreatPackAQ
import Derived.Test.YtkiamgcpcneggaaGreatPackAI
set_option linter.all false
set_option maxRecDepth 100000
set_option maxHeartbeats 12800000
namespace Go.Proofs.YtkiamgcpcneggaaGreat.shapeMakes
open Go.ChangeShapes Go.WideShapes Go.ChangeAt Go.RowKit
set_option linter.unusedVariables false

theorem own:ownKnob Tryz.prog.godebug=none:=by kernel_rfl
theorem laidOut:laidOutB Tryz.prog=true:=by kernel_rfl

/-- a slice of integers that came in -/
def IsRow (k:IntKind) (w:World) (a:Option Addr) (len cap:Nat) (zs:List Int):Prop :=
 (a=none/\len=0/\cap=0/\zs=[]) \/
 ∃x,a=some x/\len<=cap/\cap<=maxLen/\zs.length=cap/\(∀i,i<zs.length->w.cell? (x.add i)=some (.int k (zs.getD i 0)))/\∀n∈zs,(Lit.int k n).wf=true

theorem auz {w':World} {e:Ending} {x:Img.Im} (h:WriteIs w' e x) (h1:Tri.check x.sts=true) (h2:File.check x.c=true) :
 ∃a n c,e=.returned (.tuple #[.slice a n c,.int .i64 0])/\Sl .u8 w' a n c (Crc.lock (Img.body x)):=by
 rcases h with ⟨h,-⟩|⟨-,h,-⟩|⟨-,-,h⟩
 ·rw [h1] at h;cases h
 ·rw [h2] at h;cases h
 ·exact h

theorem walk (a0:Option Addr) (len0 cap0:Nat) (x0:List Wd) (x1:Cw) (w:World) (w0:Ws w a0 len0 cap0 x0) (n0:a0=none->cap0=0) (w1:x1.Good w) (n1:x1.a=none->x1.cap=0) :
 Calls Tryz.prog 4 #[.slice a0 len0 cap0,x1.v] w fun e w'=>e=.returned (.bool true)/\Below w.heap.size w w':=by
 have HU_0a:=hdq w0;have HK_0a:=hdq w1;have HNIL:=hdq n0;clear w0 n0 w1 n1;obtain ⟨⟨X,er⟩,hg⟩:∃g,Shp.mk (nums x0) x1.c=g:=⟨_,rfl⟩;obtain ⟨⟨wl,f⟩,hf⟩:∃g,Wl.write (nums x0)=g:=⟨_,rfl⟩;have HG:=hdq hg;have HF:=hdq hf;have HBX:Hid (∀o,Below w.heap.size w (w.alloc o)):=fun o=>(Below.refl _ w).alloc lrf o;have HNW:Hid (∀o,(w.alloc o).heap[w.heap.size]?=some o):=fun o=>han w o;have HSZ:Hid (∀o,(w.alloc o).heap.size=w.heap.size+1):=fun o=>World.size_alloc w o;clear hg hf;simp only [Cw.v,Cw.cells];go_enter Tryz.func4,Tryz.ntmps4;go_wp2_with fail;refine (aqm _).mono ?_;rintro e v1 ⟨rfl,hb1⟩;have HB_0:Hid (Below w.heap.size w v1):=(HBX.out _).trans (hb1.mono (by simp))
 have HQ_0:Hid (v1.heap[w.heap.size]?=some (.cells #[Value.int .u64 x1.m,Value.int .u64 x1.l,Value.int .u64 x1.o,Value.int .u64 x1.t,Value.slice x1.a x1.n x1.cap] 26 (0,0))):=(hb1.block _ (by rw [HSZ.out];exact Nat.lt_succ_self _)).trans (HNW.out _)
 have HU_0:=hdq (HU_0a.out.below HB_0.out lrf);have HK_0:=hdq (HK_0a.out.below HB_0.out lrf);clear hb1 HBX HNW HSZ HU_0a HK_0a;go_wp2_with fail;refine (axq 100 100 a0 len0 cap0 x0 v1 rfl HU_0.out).mono ?_;rintro e v2 ⟨he,hv⟩;subst hv;rcases he with rfl|⟨rfl,-⟩
 ·go_wp2;go_ret;exact ⟨rfl,HB_0.out⟩
 have k4:v1.cell? ⟨w.heap.size,4,none⟩=some (.slice x1.a x1.n x1.cap):=by rw [cell_of_row v1 _ 4 _ _ _ HQ_0.out];rfl
 go_wp2_with fail;refine (asm x1.a x1.n x1.cap x1.xs 300 (by omega) _ HK_0.out.1).mono ?_
 rintro e v2 ⟨he,hv⟩;subst hv;clear k4;rcases he with rfl|⟨rfl,-,-⟩
 ·go_wp2;go_ret;exact ⟨rfl,HB_0.out⟩
 go_wp2_with first
  | (refine ag (by rfl) 26 (.tmp 3) (by rfl) w.heap.size (by rfl) 26 #[Value.int .u64 x1.m,Value.int .u64 x1.l,Value.int .u64 x1.o,Value.int .u64 x1.t,Value.slice x1.a x1.n x1.cap] (0,0) _ HQ_0.out Tryz.underlying26 (by rfl) (show _=some (#[Value.int .u64 x1.m,Value.int .u64 x1.l,Value.int .u64 x1.o,Value.int .u64 x1.t,Value.slice x1.a x1.n x1.cap]:Array Value).size from fu) ?_)
 refine (rq a0 len0 cap0 x0 x1 (X,er) _ HU_0.out HNIL.out HK_0.out HG.out).mono ?_;rintro e v2 ⟨y2,rfl,hg2,hy2,-,hb⟩;have HIM:=hdq hy2;have HYN:Hid (∀o:Obj,(v2.alloc o).heap[v2.heap.size]?=some o):=fun o=>han v2 o;have HQ_1:=hdq ((hb.block _ (hltq HQ_0.out)).trans HQ_0.out);have HU_1:=hdq (HU_0.out.below hb lrf);have HK_1:=hdq (HK_0.out.below hb lrf);have HB_1:=hdq (HB_0.out.trans (hb.mono HB_0.out.size));clear HQ_0 HU_0 HK_0 HB_0 hb;have HG2_1:=hdq (hg2);clear hg2 hy2;simp only [Iw.v];go_wp2_with fail;refine (acw a0 len0 cap0 x0 (wl,f) _ (HU_1.out.alloc _) HF.out).mono ?_;rintro e v3 ⟨a3,c3,rfl,-,-,hb0⟩;have hyb:v3.heap[v2.heap.size]?=some (.cells #[Value.slice y2.a y2.n y2.cap,Value.int .u64 y2.c.m,Value.int .u64 y2.c.l,Value.int .u64 y2.c.o,Value.int .u64 y2.c.t,Value.slice y2.c.a y2.c.n y2.c.cap] 28 (0,0)):=(hb0.block _ (by simp)).trans (HYN.out _)
 have hb:Below v2.heap.size v2 v3:=((Below.refl _ v2).alloc lrf _).trans (hb0.mono (by simp))
 clear hb0 HYN;have HQ_2:=hdq ((hb.block _ (hltq HQ_1.out)).trans HQ_1.out);have HU_2:=hdq (HU_1.out.below hb lrf);have HK_2:=hdq (HK_1.out.below hb lrf);have HG2_2:=hdq (HG2_1.out.below hb lrf);have HB_2:=hdq (HB_1.out.trans (hb.mono HB_1.out.size));clear HQ_1 HU_1 HK_1 HG2_1 HB_1 hb;have HY_2:=hdq (hyb);clear hyb;simp only [];by_cases h0:er=0
 case neg =>
  have hz:(er==0)=false:=by simp [h0]
  obtain ⟨hor,hX⟩:=Shp.ayc HG.out h0
  have hyn:y2.n=0:=by
   have h:(sts y2.xs).length=y2.n:=by rw [ar];exact HG2_2.out.1.1
   have h2:sts y2.xs=X.sts:=congrArg Img.Im.sts HIM.out;rw [<-h,h2,hX];rfl
  have hff:(Wl.write (nums x0)).2=f:=by rw [HF.out]
  rw [hff] at hor;have HYN0:=hdq hyn;have HOR:=hdq hor;clear hff hor hX hyn h0;by_cases hf0:f=0
  case pos =>
   subst hf0;have hz0:((0:Int)==0)=true:=rfl;have HCF:Hid (File.check x1.c=false):=HOR.out.resolve_left (fun h=>h rfl)
   go_wp2_with first
    | (refine ag (by rfl) 26 (.tmp 3) (by rfl) w.heap.size (by rfl) 26 #[Value.int .u64 x1.m,Value.int .u64 x1.l,Value.int .u64 x1.o,Value.int .u64 x1.t,Value.slice x1.a x1.n x1.cap] (0,0) _ HQ_2.out Tryz.underlying26 (by rfl) (show _=some (#[Value.int .u64 x1.m,Value.int .u64 x1.l,Value.int .u64 x1.o,Value.int .u64 x1.t,Value.slice x1.a x1.n x1.cap]:Array Value).size from fu) ?_)
   refine (nv x1 false _ HK_2.out HCF.out).mono ?_;rintro e v4 ⟨rfl,hb⟩;have HQ_3:=hdq ((hb.block _ (hltq HQ_2.out)).trans HQ_2.out);have HU_3:=hdq (HU_2.out.below hb lrf);have HK_3:=hdq (HK_2.out.below hb lrf);have HG2_3:=hdq (HG2_2.out.below hb lrf);have HY_3:=hdq ((hb.block _ (hltq HY_2.out)).trans HY_2.out);have HB_3:=hdq (HB_2.out.trans (hb.mono HB_2.out.size));clear HQ_2 HU_2 HK_2 HG2_2 HY_2 HB_2 hb;have k0:=(va HY_3.out).1;rw [HYN0.out] at k0;go_wp2;go_ret;exact ⟨rfl,HB_3.out⟩
  case neg =>
   have hz1:(f==0)=false:=by simp [hf0]
   have k0:=(va HY_2.out).1;rw [HYN0.out] at k0;go_wp2;go_ret;exact ⟨rfl,HB_2.out⟩
 subst h0;have hz:((0:Int)==0)=true:=rfl;obtain ⟨q1,q2,q3,q4,q5⟩:=Shp.avf HG.out;obtain rfl:f=0:=by rw [HF.out] at q1;exact q1
 obtain ⟨q6,q7,-,-,-⟩:=Shp.ape q4;have Q3:=hdq q3;have Q4:=hdq q4;have Q5:=hdq q5;have Q6:=hdq q6;have Q7:=hdq q7;clear q1 q2 q3 q4 q5 q6 q7
 go_wp2_with first
  | (refine ag (by rfl) 28 (.tmp 6) (by rfl) v2.heap.size (by rfl) 28 #[Value.slice y2.a y2.n y2.cap,Value.int .u64 y2.c.m,Value.int .u64 y2.c.l,Value.int .u64 y2.c.o,Value.int .u64 y2.c.t,Value.slice y2.c.a y2.c.n y2.c.cap] (0,0) _ HY_2.out Tryz.underlying28 (by rfl) (show _=some (#[Value.slice y2.a y2.n y2.cap,Value.int .u64 y2.c.m,Value.int .u64 y2.c.l,Value.int .u64 y2.c.o,Value.int .u64 y2.c.t,Value.slice y2.c.a y2.c.n y2.c.cap]:Array Value).size from cr) ?_)
 refine (uq y2 (nums x0) 0 _ HG2_2.out (by rw [HIM.out];exact Q5.out)).mono ?_
 rintro e v4 ⟨a4,k4,d4,o4,rfl,hm,hn4,hb⟩;have hm4:=hm.words;have HN4:=hdq hn4;clear hm hn4;have HQ_3:=hdq ((hb.block _ (hltq HQ_2.out)).trans HQ_2.out);have HU_3:=hdq (HU_2.out.below hb lrf);have HK_3:=hdq (HK_2.out.below hb lrf);have HG2_3:=hdq (HG2_2.out.below hb lrf);have HY_3:=hdq ((hb.block _ (hltq HY_2.out)).trans HY_2.out);have HB_3:=hdq (HB_2.out.trans (hb.mono HB_2.out.size));clear HQ_2 HU_2 HK_2 HG2_2 HY_2 HB_2 hb;have HV_3:=hdq (hm4);clear hm4;simp only []
 go_wp2_with first
  | (refine ag (by rfl) 28 (.tmp 6) (by rfl) v2.heap.size (by rfl) 28 #[Value.slice y2.a y2.n y2.cap,Value.int .u64 y2.c.m,Value.int .u64 y2.c.l,Value.int .u64 y2.c.o,Value.int .u64 y2.c.t,Value.slice y2.c.a y2.c.n y2.c.cap] (0,0) _ HY_3.out Tryz.underlying28 (by rfl) (show _=some (#[Value.slice y2.a y2.n y2.cap,Value.int .u64 y2.c.m,Value.int .u64 y2.c.l,Value.int .u64 y2.c.o,Value.int .u64 y2.c.t,Value.slice y2.c.a y2.c.n y2.c.cap]:Array Value).size from cr) ?_)
 refine (adq y2 _ HG2_3.out).mono ?_;rintro e v5 ⟨hw5,hb⟩;obtain ⟨a5,n5,c5,rfl,hs5⟩:=auz hw5 (by rw [HIM.out];exact Q6.out) (by rw [HIM.out];exact Q7.out)
 have hof:Img.IsOf (Crc.lock (Img.body y2.im)) y2.im:=⟨HG2_3.out.2.plain,⟨by rw [HIM.out];exact Q6.out,by rw [HIM.out];exact Q7.out⟩,rfl⟩
 have hn5:n5<=200000000000:=by
  have h:=Img.ahn hof.1 hof.2.1;have h2:=hs5.1;rw [Crc.kz] at h2;omega
 have HN5:=hdq hn5;have HOF:=hdq (Img.read_of hof);clear hw5 hof hn5;have HQ_4:=hdq ((hb.block _ (hltq HQ_3.out)).trans HQ_3.out);have HU_4:=hdq (HU_3.out.below hb lrf);have HK_4:=hdq (HK_3.out.below hb lrf);have HG2_4:=hdq (HG2_3.out.below hb lrf);have HY_4:=hdq ((hb.block _ (hltq HY_3.out)).trans HY_3.out);have HV_4:=hdq (HV_3.out.below hb lrf);have HB_4:=hdq (HB_3.out.trans (hb.mono HB_3.out.size));clear HQ_3 HU_3 HK_3 HG2_3 HY_3 HV_3 HB_3 hb;have HS_4:=hdq (hs5);clear hs5;simp only [];go_wp2_with fail;refine (auy a5 n5 c5 _ _ HS_4.out HN5.out).mono ?_;rintro e v6 ⟨h6,hb⟩;rw [HOF.out] at h6;rcases h6 with ⟨z,hz6,hg6,rfl⟩|⟨c,h6,-⟩
 rotate_left 1
 ·cases h6
 have HZ:=hdq (Sum.inl.inj hz6);clear hz6 HOF HN5;have HQ_5:=hdq ((hb.block _ (hltq HQ_4.out)).trans HQ_4.out);have HU_5:=hdq (HU_4.out.below hb lrf);have HK_5:=hdq (HK_4.out.below hb lrf);have HG2_5:=hdq (HG2_4.out.below hb lrf);have HY_5:=hdq ((hb.block _ (hltq HY_4.out)).trans HY_4.out);have HV_5:=hdq (HV_4.out.below hb lrf);have HB_5:=hdq (HB_4.out.trans (hb.mono HB_4.out.size));clear HQ_4 HU_4 HK_4 HG2_4 HY_4 HV_4 HB_4 hb;have HZG_5:=hdq (hg6);clear hg6;simp only [Iw.v];have HZN:Hid (∀o:Obj,(v6.alloc o).heap[v6.heap.size]?=some o):=fun o=>han v6 o;have HYA:Hid (∀o,(v6.alloc o).heap[v2.heap.size]?=some (.cells #[Value.slice y2.a y2.n y2.cap,Value.int .u64 y2.c.m,Value.int .u64 y2.c.l,Value.int .u64 y2.c.o,Value.int .u64 y2.c.t,Value.slice y2.c.a y2.c.n y2.c.cap] 28 (0,0))):=fun o=>(((Below.refl v6.heap.size v6).alloc lrf o).block _ (hltq HY_5.out)).trans HY_5.out
 go_wp2_with first
  | (refine ag (by rfl) 28 (.tmp 6) (by rfl) v2.heap.size (by rfl) 28 #[Value.slice y2.a y2.n y2.cap,Value.int .u64 y2.c.m,Value.int .u64 y2.c.l,Value.int .u64 y2.c.o,Value.int .u64 y2.c.t,Value.slice y2.c.a y2.c.n y2.c.cap] (0,0) _ (HYA.out _) Tryz.underlying28 (by rfl) (show _=some (#[Value.slice y2.a y2.n y2.cap,Value.int .u64 y2.c.m,Value.int .u64 y2.c.l,Value.int .u64 y2.c.o,Value.int .u64 y2.c.t,Value.slice y2.c.a y2.c.n y2.c.cap]:Array Value).size from cr) ?_)
 refine (oh y2 0 _ (HG2_5.out.alloc _) (by rw [HIM.out];exact Q4.out)).mono ?_
 rintro e v7 ⟨rfl,hb0⟩;have hzb:v7.heap[v6.heap.size]?=some (.cells #[Value.slice z.a z.n z.cap,Value.int .u64 z.c.m,Value.int .u64 z.c.l,Value.int .u64 z.c.o,Value.int .u64 z.c.t,Value.slice z.c.a z.c.n z.c.cap] 28 (0,0)):=(hb0.block _ (by simp)).trans (HZN.out _)
 have hb:Below v6.heap.size v6 v7:=((Below.refl _ v6).alloc lrf _).trans (hb0.mono (by simp))
 clear hb0 HZN HYA;have HQ_6:=hdq ((hb.block _ (hltq HQ_5.out)).trans HQ_5.out);have HU_6:=hdq (HU_5.out.below hb lrf);have HK_6:=hdq (HK_5.out.below hb lrf);have HG2_6:=hdq (HG2_5.out.below hb lrf);have HY_6:=hdq ((hb.block _ (hltq HY_5.out)).trans HY_5.out);have HV_6:=hdq (HV_5.out.below hb lrf);have HZG_6:=hdq (HZG_5.out.below hb lrf);have HB_6:=hdq (HB_5.out.trans (hb.mono HB_5.out.size));clear HQ_5 HU_5 HK_5 HG2_5 HY_5 HV_5 HZG_5 HB_5 hb;have HZB_6:=hdq (hzb);clear hzb;go_wp2_with fail;refine (aew a4 a0 k4 len0 d4 cap0 o4 x0 true _ HV_6.out HU_6.out (by rw [HN4.out];simp)).mono ?_
 rintro e v8 ⟨rfl,hq⟩;have hb:=xg hq;clear hq;have HQ_7:=hdq ((hb.block _ (hltq HQ_6.out)).trans HQ_6.out);have HU_7:=hdq (HU_6.out.below hb lrf);have HK_7:=hdq (HK_6.out.below hb lrf);have HG2_7:=hdq (HG2_6.out.below hb lrf);have HY_7:=hdq ((hb.block _ (hltq HY_6.out)).trans HY_6.out);have HV_7:=hdq (HV_6.out.below hb lrf);have HZG_7:=hdq (HZG_6.out.below hb lrf);have HZB_7:=hdq ((hb.block _ (hltq HZB_6.out)).trans HZB_6.out);have HB_7:=hdq (HB_6.out.trans (hb.mono HB_6.out.size));clear HQ_6 HU_6 HK_6 HG2_6 HY_6 HV_6 HZG_6 HZB_6 HB_6 hb;obtain ⟨p0,p1,p2,p3,p4,p5⟩:=va HY_7.out
 go_wp2_with first
  | (refine ag (by rfl) 26 (.tmp 3) (by rfl) w.heap.size (by rfl) 26 #[Value.int .u64 x1.m,Value.int .u64 x1.l,Value.int .u64 x1.o,Value.int .u64 x1.t,Value.slice x1.a x1.n x1.cap] (0,0) _ HQ_7.out Tryz.underlying26 (by rfl) (show _=some (#[Value.int .u64 x1.m,Value.int .u64 x1.l,Value.int .u64 x1.o,Value.int .u64 x1.t,Value.slice x1.a x1.n x1.cap]:Array Value).size from fu) ?_)
 refine (ara y2.c x1 _ HG2_7.out.2 HK_7.out (by have h:=congrArg Img.Im.c HIM.out;rw [Q3.out] at h;exact h)).mono ?_
 rintro e v9 ⟨rfl,hb⟩;clear p0 p1 p2 p3 p4 p5;have HQ_8:=hdq ((hb.block _ (hltq HQ_7.out)).trans HQ_7.out);have HU_8:=hdq (HU_7.out.below hb lrf);have HK_8:=hdq (HK_7.out.below hb lrf);have HG2_8:=hdq (HG2_7.out.below hb lrf);have HY_8:=hdq ((hb.block _ (hltq HY_7.out)).trans HY_7.out);have HV_8:=hdq (HV_7.out.below hb lrf);have HZG_8:=hdq (HZG_7.out.below hb lrf);have HZB_8:=hdq ((hb.block _ (hltq HZB_7.out)).trans HZB_7.out);have HB_8:=hdq (HB_7.out.trans (hb.mono HB_7.out.size));clear HQ_7 HU_7 HK_7 HG2_7 HY_7 HV_7 HZG_7 HZB_7 HB_7 hb
 go_wp2_with first
  | (refine ag (by rfl) 28 (.tmp 6) (by rfl) v2.heap.size (by rfl) 28 #[Value.slice y2.a y2.n y2.cap,Value.int .u64 y2.c.m,Value.int .u64 y2.c.l,Value.int .u64 y2.c.o,Value.int .u64 y2.c.t,Value.slice y2.c.a y2.c.n y2.c.cap] (0,0) _ HY_8.out Tryz.underlying28 (by rfl) (show _=some (#[Value.slice y2.a y2.n y2.cap,Value.int .u64 y2.c.m,Value.int .u64 y2.c.l,Value.int .u64 y2.c.o,Value.int .u64 y2.c.t,Value.slice y2.c.a y2.c.n y2.c.cap]:Array Value).size from cr) ?_)
  | (refine ag (by rfl) 28 (.tmp 14) (by rfl) v6.heap.size (by rfl) 28 #[Value.slice z.a z.n z.cap,Value.int .u64 z.c.m,Value.int .u64 z.c.l,Value.int .u64 z.c.o,Value.int .u64 z.c.t,Value.slice z.c.a z.c.n z.c.cap] (0,0) _ HZB_8.out Tryz.underlying28 (by rfl) (show _=some (#[Value.slice z.a z.n z.cap,Value.int .u64 z.c.m,Value.int .u64 z.c.l,Value.int .u64 z.c.o,Value.int .u64 z.c.t,Value.slice z.c.a z.c.n z.c.cap]:Array Value).size from cr) ?_)
 refine (amo y2 z true _ HG2_8.out HZG_8.out (by rw [HZ.out];simp)).mono ?_
 rintro e v10 ⟨rfl,hb⟩;have HBE:Hid (Below w.heap.size w v10):=HB_8.out.trans (hb.mono HB_8.out.size);clear hb;go_wp2;go_ret;exact ⟨rfl,HBE.out⟩

theorem lifted (os:Os) (started:os.Started) (H:Type) (enc:TypeId × Value->H) :
 ReturnsInHanded {} Tryz.checked os 4 .any (Rows.shapeMakesSpec.pre6 enc Tryz.prog Tryz.f4 Rows.shapeMakesRow.domain false) (Rows.shapeMakesSpec.post enc Tryz.prog Tryz.f4 false true false false):=by
 refine returnsInHanded_of_change (C:=Tryz.checked) own started (by kernel_rfl) Tryz.func4
  (ChangeSpec.witness6 (enc:=enc) (C:=Tryz.checked) false ⟨#[],#[.slice none 0 0,.agg #[.int .u64 0,.int .u64 0,.int .u64 0,.int .u64 0,.slice none 0 0]],[]⟩ 8 (by kernel_rfl) (by kernel_rfl) (by kernel_rfl) (by kernel_rfl)) ?_
 intro W base args ds gs before hval0 hW hcnd _;have hval:∀(j:Nat) t v,Tryz.f4.params[j]?=some t->args[j]?=some v->Value.okWide Tryz.prog W .any base t v:=hval0;have hW':=hW;obtain ⟨p,q,hA0,hV,rfl,hfz,hnd⟩:=hW;have hA:DataW.TrodAll enc Tryz.prog W 0 (fun _=>true) true Tryz.f4.params.toList args.toList ds p:=hA0;rw [Tryz.params4] at hA hval;obtain ⟨v0,vs0,d0,ds0,p0,q0,hargs,rfl,rfl,h0,r0⟩:=trodAll_cons hA;obtain ⟨v1,vs1,d1,ds1,p1,q1,rfl,rfl,rfl,h1,r1⟩:=trodAll_cons r0;obtain ⟨rfl,rfl,rfl⟩:=trodAll_nil r1;obtain rfl:args=#[v0,v1]:=by cases args;simp_all
 obtain ⟨rfl,rfl⟩:=trodVars_none hV;obtain ⟨a0,len0,cap0,rfl⟩:=okWide_slice Tryz.underlying29 (hval 0 29 v0 rfl rfl);have k0:=h0;have lt0:∀x∈p0,x.block<W.heap.size:=by obtain ⟨m,hm⟩:=k0;exact DataW.trod_lt m _ _ _ hm
 obtain ⟨x0,w0,n0⟩:∃xs,Ws W a0 len0 cap0 xs/\(a0=none->cap0=0):=by
  obtain ⟨fuel,hf⟩:=h0;rcases Go.Deep.open_int_rows Tryz.underlying29 Tryz.underlying51 Tryz.underlying3 (by kernel_rfl) (by kernel_rfl) hf with ⟨hcs,_⟩|⟨x,l,c,A,L,C,Z,hcs,_,hl,hm,_,hr⟩
  ·simp [Value.cells] at hcs;obtain ⟨rfl,rfl,rfl⟩:=hcs;exact ⟨[],Ws.nil,fun _=>rfl⟩
  ·simp [Value.cells] at hcs;obtain ⟨rfl,rfl,rfl⟩:=hcs;exact ⟨_,Ws.of_rows hl hm hr,fun h=>by cases h⟩
 have k1:=h1;have lt1:∀x∈p1,x.block<W.heap.size:=by obtain ⟨m,hm⟩:=k1;exact DataW.trod_lt m _ _ _ hm
 obtain ⟨x1,rfl,w1,n1⟩:=Cw.open (hval 1 26 v1 rfl rfl) h1;clear hA0 hval0;refine (walk a0 len0 cap0 x0 x1 W w0 n0 w1 n1).mono fun e W' ⟨he,bel⟩=>?_;subst he;exact ⟨_,rfl,_,_,_,[],_,[],hW',trodAll_mk1 (shut_bool Tryz.underlying4 _),(trodAll_cons_mk (Below.trod laidOut (by kernel_rfl) (of_decide_eq_true (by kernel_rfl)) k0 bel lt0) (trodAll_cons_mk (Below.trod laidOut (by kernel_rfl) (of_decide_eq_true (by kernel_rfl)) k1 bel lt1) trodAll_mk0)),rfl,bel.frame _,fun h=>by cases h⟩

theorem over:Rows.shapeMakesRow.holds Tryz.pinned (OpenSpec.ofChange Rows.shapeMakesSpec) :=
 OpenClaim.holds_of_wide 4 Tryz.f4 rfl rfl rfl rfl rfl rfl rfl ⟨rfl,rfl,rfl,rfl,rfl⟩ rfl rfl rfl rfl rfl (by kernel_rfl) Tryz.func4 (by kernel_rfl)
  (of_decide_eq_true (by kernel_rfl)) (by unfold Func.isWrapper;first|(rw [if_pos (by decide +kernel)];kernel_rfl)|(rw [if_neg (by decide +kernel)];exact ⟨rfl,rfl⟩))
  (fun os started H enc _=>lifted os started H enc)

/-- the statement -/
theorem proved:Rows.ShapeMakesSaid:=over
#print axioms proved
end Go.Proofs.YtkiamgcpcneggaaGreat.shapeMakes
