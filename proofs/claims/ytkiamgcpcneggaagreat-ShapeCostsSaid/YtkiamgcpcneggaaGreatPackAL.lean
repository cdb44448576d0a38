import Derived.Test.YtkiamgcpcneggaaGreatPackAK
import Derived.Test.YtkiamgcpcneggaaGreatPackI
import Derived.Test.YtkiamgcpcneggaaGreatPackS
import Derived.Test.YtkiamgcpcneggaaGreatPackQ
import Derived.Test.YtkiamgcpcneggaaGreatPackD
set_option linter.all false
/- Used by the law. -/
namespace Go.Proofs.YtkiamgcpcneggaaGreat
open Go.RowKit Tri

theorem two_words {W:World} {n m B1 B2 B3:Nat} (p q:List Int) (hp:∀ z ∈ p,(Lit.int .i64 z).wf=true) (hq:∀ z ∈ q,(Lit.int .i64 z).wf=true) (hn:p.length=n) (hm:q.length=m) (hn1:n≤100) (hm1:m≤100) (h1:B1=W.heap.size) (h2:B2=W.heap.size + 1) (h3:B3=W.heap.size + 1 + 1) :
 Ws (((W.alloc (.cells (p.map (Value.int .i64)).toArray 3)).alloc (.cells (q.map (Value.int .i64)).toArray 3)).alloc (.cells #[.slice (some ⟨B1,0,none⟩) n n,.slice (some ⟨B2,0,none⟩) m m] 51)) (some ⟨B3,0,none⟩) 2 2 [⟨some ⟨B1,0,none⟩,n,n,p⟩,⟨some ⟨B2,0,none⟩,m,m,q⟩] ∧
 Below W.heap.size W (((W.alloc (.cells (p.map (Value.int .i64)).toArray 3)).alloc (.cells (q.map (Value.int .i64)).toArray 3)).alloc (.cells #[.slice (some ⟨B1,0,none⟩) n n,.slice (some ⟨B2,0,none⟩) m m] 51)):=by
 have ml:(100:Nat)≤maxLen:=by unfold maxLen;omega
 refine ⟨?_,(((Below.refl _ W).alloc (Nat.le_refl _) _).alloc (by simp) _).alloc (by simp;omega) _⟩
 refine Ws.newc [⟨some ⟨B1,0,none⟩,n,n,p⟩,⟨some ⟨B2,0,none⟩,m,m,q⟩] ?_ (by show 2≤maxLen;unfold maxLen;omega) (by rw [h3,World.size_alloc,World.size_alloc]) rfl rfl
 intro x hx
 simp only [List.mem_cons,List.not_mem_nil,or_false] at hx
 rcases hx with rfl|rfl
 ·exact (Sl.lay p hp (by omega) h1 hn hn).alloc _
 ·exact Sl.lay q hq (by omega) (by rw [h2,World.size_alloc]) hm hm
set_option maxRecDepth 100000 in
theorem one_state {w:World} {t:TypeId} {B:Nat} (hB:B=w.heap.size):Ss (w.alloc (.cells #[.bool true,.slice none 0 0] t)) (some ⟨B,0,none⟩) 1 1 [⟨true,none,0,0,[]⟩]:=by
 subst hB
 refine ⟨rfl,Nat.le_refl _,by unfold maxLen;omega,fun x hx=>?_,.inr ⟨w.heap.size,0,rfl,fun i hi=>?_⟩⟩
 ·simp only [List.mem_cons,List.not_mem_nil,or_false] at hx
  subst hx
  exact Ars.nil
 ·obtain rfl:i=0:=by omega
  exact ⟨by rw [World.cell?_alloc_at _ _ _ _ (by rfl)];rfl,by rw [World.cell?_alloc_at _ _ _ _ (by rfl)];rfl⟩
theorem ones_good (w:World):Cw.Good w (⟨1,1,1,1,none,0,0,[]⟩:Cw):=⟨Rs.nil,by intro z hz;simp [Cw.base] at hz;omega⟩
theorem inf_good (w:World):Cw.Good w (⟨0,18446744073709551615,0,0,none,0,0,[]⟩:Cw):=⟨Rs.nil,by intro z hz;simp [Cw.base] at hz;omega⟩
theorem mk_bad {ws:List (List Int)} {c:File.Cst} {e:Int} (h:(Wl.write ws).2=e) (he:e≠0):Shp.mk ws c=(Img.Im.no,e):=by
 unfold Shp.mk
 obtain ⟨gl,hd,_⟩:=Wlk.dmade_is (ws:=ws)
 rw [hd,h,if_neg he]
theorem mk_cost {ws:List (List Int)} {c:File.Cst} (h:(Wl.write ws).2=0) (hc:File.check c=false):Shp.mk ws c=(Img.Im.no,60):=by
 unfold Shp.mk
 obtain ⟨gl,hd,_⟩:=Wlk.dmade_is (ws:=ws)
 rw [hd,if_pos h,if_neg (by rw [hc];exact Bool.noConfusion)]
set_option maxRecDepth 100000 in
theorem aw16_mk:∃ X,Shp.mk [[97],[98,97]] ⟨[1,1,1,1],[]⟩=(X,0):=⟨_,Shp.mk_of (by decide +kernel) (by decide +kernel)⟩
set_option maxRecDepth 100000 in
theorem aw16_no:Shp.wrd Img.Im.no=([],100):=by
 have h:Shp.chk Img.Im.no=100:=Shp.chk_auto (by decide +kernel)
 unfold Shp.wrd
 rw [h]
 rfl
set_option maxRecDepth 100000 in
theorem aw16_fin:Shp.chk ⟨[⟨true,[]⟩],⟨[1,1,1,1],[]⟩⟩=90:=by kernel_rfl
theorem drawn_below {w w':World} (h:∃ q,w'=w.drewN q):Below w.heap.size w w':=by obtain ⟨q,rfl⟩:=h;exact below_drawn (Below.refl _ w) ⟨q,rfl⟩

set_option maxHeartbeats 12800000 in
set_option maxRecDepth 100000 in
theorem awake_any (w:World):Calls Tryz.prog 7 #[] w fun e w'=>e=.returned (.bool true)∧Below w.heap.size w w':=by
 obtain ⟨X,hX⟩:=aw16_mk
 obtain ⟨-,-,-,hck,hwd⟩:=Shp.mk_ok hX
 have HX:=Lib.hid hX
 have HCK:=Lib.hid hck
 have HWD:=Lib.hid hwd
 obtain ⟨WC,hWC⟩:∃ W,W=w.alloc (.cells #[Value.int .u64 1,Value.int .u64 1,Value.int .u64 1,Value.int .u64 1,Value.slice none 0 0] 26):=⟨_,rfl⟩
 have hsC:WC.heap.size=w.heap.size + 1:=by rw [hWC,World.size_alloc]
 have hbC:Below w.heap.size w WC:=by rw [hWC];exact (Below.refl _ w).alloc (Nat.le_refl _) _
 have hpC:WC.heap[w.heap.size]?=some (.cells #[Value.int .u64 1,Value.int .u64 1,Value.int .u64 1,Value.int .u64 1,Value.slice none 0 0] 26 (0,0)):=by rw [hWC];exact heap_alloc_new w _
 obtain ⟨t1,t2⟩:=two_words (W:=WC) (n:=1) (m:=2) (B1:=w.heap.size + 1) (B2:=w.heap.size + 1 + 1) (B3:=w.heap.size + 1 + 1 + 1) [97] [98,97] (by decide) (by decide) rfl rfl (by omega) (by omega) hsC.symm (by rw [hsC]) (by rw [hsC])
 have T1:=Lib.hid t1
 have T2:=Lib.hid t2
 have HWC:=Lib.hid hWC
 have HSC:=Lib.hid hsC
 have HBC:=Lib.hid hbC
 have HPC:=Lib.hid hpC
 have hp0:(((w.alloc (.cells #[Value.int .u64 1,Value.int .u64 1,Value.int .u64 1,Value.int .u64 1,Value.slice none 0 0] 26)).alloc (.cells #[.int .i64 97] 3)).alloc (.cells #[.int .i64 98,.int .i64 97] 3)).alloc (.cells #[.slice (some ⟨w.heap.size + 1,0,none⟩) 1 1,.slice (some ⟨w.heap.size + 1 + 1,0,none⟩) 2 2] 51) |>.heap[w.heap.size]?=some (.cells #[Value.int .u64 1,Value.int .u64 1,Value.int .u64 1,Value.int .u64 1,Value.slice none 0 0] 26 (0,0)):=by
  have h:=(T2.out.block w.heap.size (by rw [HSC.out];omega)).trans HPC.out
  rw [HWC.out] at h
  exact h
 have HP0:=Lib.hid hp0
 clear hX hck hwd hWC hsC hbC hpC t1 t2 hp0
 go_enter Tryz.func7,Tryz.ntmps7
 go_wp2_with (refine wpList_load_row_w (by rfl) 26 (.tmp 1) (by rfl) w.heap.size (by rfl) 26 #[Value.int .u64 1,Value.int .u64 1,Value.int .u64 1,Value.int .u64 1,Value.slice none 0 0] (0,0) _ HP0.out Tryz.underlying26 (by rfl) (show _=some (#[Value.int .u64 1,Value.int .u64 1,Value.int .u64 1,Value.int .u64 1,Value.slice none 0 0]:Array Value).size from info_c16) ?_)
 refine (smake_is (some ⟨w.heap.size + 1 + 1 + 1,0,none⟩) 2 2 [⟨some ⟨w.heap.size + 1,0,none⟩,1,1,[97]⟩,⟨some ⟨w.heap.size + 1 + 1,0,none⟩,2,2,[98,97]⟩] (⟨1,1,1,1,none,0,0,[]⟩:Cw) (X,0) _ (by have h:=T1.out;rw [HWC.out] at h;exact h) (fun h=>by cases h) (ones_good _) HX.out).mono ?_
 rintro e w1 ⟨y1,rfl,hg,hy,-,hb⟩
 have hb1:Below w.heap.size w w1:=by
  have h:=HBC.out.trans ((T2.out.trans (Below.mono (B:=_) (B':=WC.heap.size) (by rw [HWC.out];exact hb) T2.out.size)).mono HBC.out.size)
  exact h
 have hp1:w1.heap[w.heap.size]?=some (.cells #[Value.int .u64 1,Value.int .u64 1,Value.int .u64 1,Value.int .u64 1,Value.slice none 0 0] 26 (0,0)):=(hb.block _ (Array.getElem?_eq_some_iff.1 HP0.out).1).trans HP0.out
 have HB_0:=Lib.hid hb1
 have HC_0:=Lib.hid hp1
 have HY_0:=Lib.hid hg
 have HIM:=Lib.hid hy
 clear hg hy hb hb1 hp1 HX HBC HPC HSC HWC T1 T2 HP0
 have HXB:Hid (∀ o:Obj,(w1.alloc o).heap[w1.heap.size]?=some o):=fun o=>heap_alloc_new w1 o
 simp only [Iw.v]
 go_wp2_with (refine wpList_load_row_w (by rfl) 28 (.tmp 2) (by rfl) w1.heap.size (by rfl) 28 #[Value.slice y1.a y1.n y1.cap,Value.int .u64 y1.c.m,Value.int .u64 y1.c.l,Value.int .u64 y1.c.o,Value.int .u64 y1.c.t,Value.slice y1.c.a y1.c.n y1.c.cap] (0,0) _ (HXB.out _) Tryz.underlying28 (by rfl) (show _=some (#[Value.slice y1.a y1.n y1.cap,Value.int .u64 y1.c.m,Value.int .u64 y1.c.l,Value.int .u64 y1.c.o,Value.int .u64 y1.c.t,Value.slice y1.c.a y1.c.n y1.c.cap]:Array Value).size from info_im16) ?_)
 refine (swords_is y1 [[97],[98,97]] 0 _ (HY_0.out.alloc _) (by rw [HIM.out];exact HWD.out)).mono ?_
 rintro e w2 ⟨a2,k2,d2,o2,rfl,hm,hn,hb⟩
 obtain rfl:k2=2:=by rw [← hm.len,← nums_length,hn];rfl
 have hx:w2.heap[w1.heap.size]?=some (.cells #[Value.slice y1.a y1.n y1.cap,Value.int .u64 y1.c.m,Value.int .u64 y1.c.l,Value.int .u64 y1.c.o,Value.int .u64 y1.c.t,Value.slice y1.c.a y1.c.n y1.c.cap] 28 (0,0)):=(hb.block _ (by simp)).trans (HXB.out _)
 have hst:Below w1.heap.size w1 w2:=((Below.refl _ w1).alloc (Nat.le_refl _) _).trans (hb.mono (by simp))
 have hms:=hm.words
 have HN:=Lib.hid hn
 clear hm hn hb HXB
 have HC_1:=Lib.hid ((hst.block _ (Array.getElem?_eq_some_iff.1 HC_0.out).1).trans HC_0.out)
 have HY_1:=Lib.hid (HY_0.out.below hst (Nat.le_refl _))
 have HB_1:=Lib.hid (HB_0.out.trans (hst.mono HB_0.out.size))
 clear HC_0 HY_0 HB_0 hst
 have HX_1:=Lib.hid (hx)
 have HM_1:=Lib.hid (hms)
 clear hx hms
 simp only []
 obtain ⟨t1,t2⟩:=two_words (W:=w2) (n:=1) (m:=1) [98] [97] (by decide) (by decide) rfl rfl (by omega) (by omega) rfl rfl rfl
 have T1a:=Lib.hid t1
 have T2a:=Lib.hid t2
 have HCAa:=Lib.hid ((t2.block _ (Array.getElem?_eq_some_iff.1 HC_1.out).1).trans HC_1.out)
 clear t1 t2
 go_wp2_with (refine wpList_load_row_w (by rfl) 26 (.tmp 1) (by rfl) w.heap.size (by rfl) 26 #[Value.int .u64 1,Value.int .u64 1,Value.int .u64 1,Value.int .u64 1,Value.slice none 0 0] (0,0) _ HCAa.out Tryz.underlying26 (by rfl) (show _=some (#[Value.int .u64 1,Value.int .u64 1,Value.int .u64 1,Value.int .u64 1,Value.slice none 0 0]:Array Value).size from info_c16) ?_)
 refine (smake_is _ 2 2 [⟨some ⟨w2.heap.size,0,none⟩,1,1,[98]⟩,⟨some ⟨w2.heap.size + 1,0,none⟩,1,1,[97]⟩] (⟨1,1,1,1,none,0,0,[]⟩:Cw) (Img.Im.no,90) _ T1a.out (fun h=>by cases h) (ones_good _) (mk_bad (ws:=[[98],[97]]) (by decide +kernel) (by decide))).mono ?_
 rintro e w3 ⟨y3,rfl,-,-,-,hb⟩
 have hst:Below w2.heap.size w2 w3:=T2a.out.trans (hb.mono T2a.out.size)
 clear hb T1a T2a HCAa
 have HC_2:=Lib.hid ((hst.block _ (Array.getElem?_eq_some_iff.1 HC_1.out).1).trans HC_1.out)
 have HY_2:=Lib.hid (HY_1.out.below hst (Nat.le_refl _))
 have HX_2:=Lib.hid ((hst.block _ (Array.getElem?_eq_some_iff.1 HX_1.out).1).trans HX_1.out)
 have HM_2:=Lib.hid (HM_1.out.below hst (Nat.le_refl _))
 have HB_2:=Lib.hid (HB_1.out.trans (hst.mono HB_1.out.size))
 clear HC_1 HY_1 HX_1 HM_1 HB_1 hst
 simp only [Iw.v]
 go_wp2_with fail
 refine (smake_is none 0 0 [] (⟨0,18446744073709551615,0,0,none,0,0,[]⟩:Cw) (Img.Im.no,60) _ Ws.nil (fun _=>rfl) (inf_good _) (mk_cost (by decide +kernel) (by decide +kernel))).mono ?_
 rintro e w4 ⟨y4,rfl,-,-,-,hb⟩
 have hst:Below w3.heap.size w3 w4:=((Below.refl _ w3).alloc (Nat.le_refl _) _).trans (hb.mono (by simp))
 clear hb
 have HC_3:=Lib.hid ((hst.block _ (Array.getElem?_eq_some_iff.1 HC_2.out).1).trans HC_2.out)
 have HY_3:=Lib.hid (HY_2.out.below hst (Nat.le_refl _))
 have HX_3:=Lib.hid ((hst.block _ (Array.getElem?_eq_some_iff.1 HX_2.out).1).trans HX_2.out)
 have HM_3:=Lib.hid (HM_2.out.below hst (Nat.le_refl _))
 have HB_3:=Lib.hid (HB_2.out.trans (hst.mono HB_2.out.size))
 clear HC_2 HY_2 HX_2 HM_2 HB_2 hst
 simp only [Iw.v]
 go_wp2_with fail
 refine (swords_is imNone [] 100 _ (imNone_good _) aw16_no).mono ?_
 rintro e w5 ⟨a5,k5,d5,o5,rfl,-,-,hb⟩
 have hst:Below w4.heap.size w4 w5:=((Below.refl _ w4).alloc (Nat.le_refl _) _).trans (hb.mono (by simp))
 clear hb
 have HC_4:=Lib.hid ((hst.block _ (Array.getElem?_eq_some_iff.1 HC_3.out).1).trans HC_3.out)
 have HY_4:=Lib.hid (HY_3.out.below hst (Nat.le_refl _))
 have HX_4:=Lib.hid ((hst.block _ (Array.getElem?_eq_some_iff.1 HX_3.out).1).trans HX_3.out)
 have HM_4:=Lib.hid (HM_3.out.below hst (Nat.le_refl _))
 have HB_4:=Lib.hid (HB_3.out.trans (hst.mono HB_3.out.size))
 clear HC_3 HY_3 HX_3 HM_3 HB_3 hst
 simp only []
 obtain ⟨t1,t2⟩:=two_words (W:=w5) (n:=1) (m:=2) [97] [98,97] (by decide) (by decide) rfl rfl (by omega) (by omega) rfl rfl rfl
 have T1b:=Lib.hid t1
 have T2b:=Lib.hid t2
 have HCAb:=Lib.hid ((t2.block _ (Array.getElem?_eq_some_iff.1 HC_4.out).1).trans HC_4.out)
 clear t1 t2
 go_wp2_with fail
 refine (sames_is a2 _ 2 2 d2 2 o2 [⟨some ⟨w5.heap.size,0,none⟩,1,1,[97]⟩,⟨some ⟨w5.heap.size + 1,0,none⟩,2,2,[98,97]⟩] true _ (HM_4.out.below T2b.out (Nat.le_refl _)) T1b.out (by rw [HN.out];rfl)).mono ?_
 rintro e w6 ⟨rfl,hq⟩
 have hst:Below w5.heap.size w5 w6:=T2b.out.trans ((drawn_below hq).mono T2b.out.size)
 clear hq T1b T2b HCAb
 have HC_5:=Lib.hid ((hst.block _ (Array.getElem?_eq_some_iff.1 HC_4.out).1).trans HC_4.out)
 have HY_5:=Lib.hid (HY_4.out.below hst (Nat.le_refl _))
 have HX_5:=Lib.hid ((hst.block _ (Array.getElem?_eq_some_iff.1 HX_4.out).1).trans HX_4.out)
 have HB_5:=Lib.hid (HB_4.out.trans (hst.mono HB_4.out.size))
 clear HC_4 HY_4 HX_4 HB_4 hst
 go_wp2_with (refine wpList_load_row_w (by rfl) 28 (.tmp 2) (by rfl) w1.heap.size (by rfl) 28 #[Value.slice y1.a y1.n y1.cap,Value.int .u64 y1.c.m,Value.int .u64 y1.c.l,Value.int .u64 y1.c.o,Value.int .u64 y1.c.t,Value.slice y1.c.a y1.c.n y1.c.cap] (0,0) _ HX_5.out Tryz.underlying28 (by rfl) (show _=some (#[Value.slice y1.a y1.n y1.cap,Value.int .u64 y1.c.m,Value.int .u64 y1.c.l,Value.int .u64 y1.c.o,Value.int .u64 y1.c.t,Value.slice y1.c.a y1.c.n y1.c.cap]:Array Value).size from info_im16) ?_)
 refine (scheck_is y1 0 _ HY_5.out (by rw [HIM.out];exact HCK.out)).mono ?_
 rintro e w7 ⟨rfl,hst⟩
 have HC_6:=Lib.hid ((hst.block _ (Array.getElem?_eq_some_iff.1 HC_5.out).1).trans HC_5.out)
 have HY_6:=Lib.hid (HY_5.out.below hst (Nat.le_refl _))
 have HX_6:=Lib.hid ((hst.block _ (Array.getElem?_eq_some_iff.1 HX_5.out).1).trans HX_5.out)
 have HB_6:=Lib.hid (HB_5.out.trans (hst.mono HB_5.out.size))
 clear HC_5 HY_5 HX_5 HB_5 hst
 have HNA:Hid (∀ o,(w7.alloc o).heap[w.heap.size]?=some (.cells #[Value.int .u64 1,Value.int .u64 1,Value.int .u64 1,Value.int .u64 1,Value.slice none 0 0] 26 (0,0))):=fun o=>(((Below.refl w7.heap.size w7).alloc (Nat.le_refl _) o).block _ (Array.getElem?_eq_some_iff.1 HC_6.out).1).trans HC_6.out
 go_wp2_with (refine wpList_load_row_w (by rfl) 26 (.tmp 1) (by rfl) w.heap.size (by rfl) 26 #[Value.int .u64 1,Value.int .u64 1,Value.int .u64 1,Value.int .u64 1,Value.slice none 0 0] (0,0) _ (HNA.out _) Tryz.underlying26 (by rfl) (show _=some (#[Value.int .u64 1,Value.int .u64 1,Value.int .u64 1,Value.int .u64 1,Value.slice none 0 0]:Array Value).size from info_c16) ?_)
 refine (scheck_is ⟨some ⟨w7.heap.size,0,none⟩,1,1,[⟨true,none,0,0,[]⟩],(⟨1,1,1,1,none,0,0,[]⟩:Cw)⟩ 90 _ ⟨one_state rfl,ones_good _⟩ aw16_fin).mono ?_
 rintro e w8 ⟨rfl,hb⟩
 have HB8:Hid (Below w.heap.size w w8):=HB_6.out.trans ((((Below.refl _ w7).alloc (Nat.le_refl _) _).trans (hb.mono (by simp))).mono HB_6.out.size)
 clear hb
 go_wp2
 go_ret
 exact ⟨rfl,HB8.out⟩

end Go.Proofs.YtkiamgcpcneggaaGreat

/- Used by the law. -/
namespace Go.Proofs.YtkiamgcpcneggaaGreat
open Go.RowKit

theorem six_cells {w:World} {g:Nat} {a0 a1 a2 a3 a4 a5:Value} {t:TypeId} {fr:Nat × Nat} (h:w.heap[g]?=some (.cells #[a0,a1,a2,a3,a4,a5] t fr)) :
 w.cell? ⟨g,0,none⟩=some a0∧w.cell? ⟨g,1,none⟩=some a1∧w.cell? ⟨g,2,none⟩=some a2∧w.cell? ⟨g,3,none⟩=some a3∧w.cell? ⟨g,4,none⟩=some a4∧w.cell? ⟨g,5,none⟩=some a5:=by
 simp [World.cell?,h]
set_option maxHeartbeats 3200000 in
set_option maxRecDepth 100000 in
theorem few16_is (x:Iw) (w:World) (hx:x.Good w):Calls Tryz.prog 8 #[x.v] w fun e w' =>
 (e=.returned (.bool false)∨(e=.returned (.bool true)∧ShortS x.xs∧x.n≤500∧ShortR x.c.xs∧x.c.n≤300))∧Below w.heap.size w w':=by
 obtain ⟨sa,sn,sc,xs,cm,cl,co,ct,ra,rn,rcap,rs⟩:=x
 have HX:=Lib.hid hx
 clear hx
 simp only [Iw.v]
 go_enter Tryz.func8,Tryz.ntmps8
 go_wp2_with fail
 refine (rfew10_is sa sn sc xs 500 (by omega) _ (HX.out.1.alloc _)).mono ?_
 rintro e v2 ⟨he,hv2⟩
 subst hv2
 rcases he with rfl|⟨rfl,hS,hn500⟩
 ·go_wp2
  go_ret
  exact ⟨.inl rfl,(Below.refl _ w).alloc (Nat.le_refl _) _⟩
 have HS:=Lib.hid hS
 have HN:=Lib.hid hn500
 clear hS hn500
 go_wp2_with fail
 refine (rfew_any ra rn rcap rs 300 (by omega) _ (HX.out.2.1.alloc _)).mono ?_
 rintro e v3 ⟨he,hv3⟩
 subst hv3
 rcases he with rfl|⟨rfl,hR,hn300⟩
 ·go_wp2
  go_ret
  exact ⟨.inl rfl,(Below.refl _ w).alloc (Nat.le_refl _) _⟩
 have HR:=Lib.hid hR
 have HN':=Lib.hid hn300
 clear hR hn300
 go_wp2
 go_ret
 exact ⟨.inr ⟨rfl,HS.out,HN.out,HR.out,HN'.out⟩,(Below.refl _ w).alloc (Nat.le_refl _) _⟩


end Go.Proofs.YtkiamgcpcneggaaGreat
