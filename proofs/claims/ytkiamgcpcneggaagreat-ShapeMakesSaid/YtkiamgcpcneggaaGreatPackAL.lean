import Derived.Test.YtkiamgcpcneggaaGreatPackAK
set_option linter.all false
set_option maxRecDepth 100000
set_option maxHeartbeats 12800000
namespace Go.Proofs.YtkiamgcpcneggaaGreat
section
open Go.RowKit Tri

theorem uy {W:World} {n m B1 B2 B3:Nat} (p q:List Int) (hp:∀z∈p,(Lit.int .i64 z).wf=true) (hq:∀z∈q,(Lit.int .i64 z).wf=true) (hn:p.length=n) (hm:q.length=m) (hn1:n<=100) (hm1:m<=100) (h1:B1=W.heap.size) (h2:B2=W.heap.size+1) (h3:B3=W.heap.size+1+1) :
 Ws (((W.alloc (.cells (p.map (Value.int .i64)).toArray 3)).alloc (.cells (q.map (Value.int .i64)).toArray 3)).alloc (.cells #[.slice (some ⟨B1,0,none⟩) n n,.slice (some ⟨B2,0,none⟩) m m] 51)) (some ⟨B3,0,none⟩) 2 2 [⟨some ⟨B1,0,none⟩,n,n,p⟩,⟨some ⟨B2,0,none⟩,m,m,q⟩] /\
 Below W.heap.size W (((W.alloc (.cells (p.map (Value.int .i64)).toArray 3)).alloc (.cells (q.map (Value.int .i64)).toArray 3)).alloc (.cells #[.slice (some ⟨B1,0,none⟩) n n,.slice (some ⟨B2,0,none⟩) m m] 51)):=by
 have ml:(100:Nat)<=maxLen:=by unfold maxLen;omega
 refine ⟨?_,(((Below.refl _ W).alloc lrf _).alloc (by simp) _).alloc (by simp;omega) _⟩
 refine Ws.newc [⟨some ⟨B1,0,none⟩,n,n,p⟩,⟨some ⟨B2,0,none⟩,m,m,q⟩] ?_ (by show 2<=maxLen;unfold maxLen;omega) (by rw [h3,World.size_alloc,World.size_alloc]) rfl rfl
 intro x hx;simp only [List.mem_cons,List.not_mem_nil,or_false] at hx;rcases hx with rfl|rfl
 ·exact (Sl.lay p hp (by omega) h1 hn hn).alloc _
 ·exact Sl.lay q hq (by omega) (by rw [h2,World.size_alloc]) hm hm
theorem aql {w:World} {t:TypeId} {B:Nat} (hB:B=w.heap.size):Ss (w.alloc (.cells #[.bool true,.slice none 0 0] t)) (some ⟨B,0,none⟩) 1 1 [⟨true,none,0,0,[]⟩]:=by
 subst hB;refine ⟨rfl,Nat.le_refl _,by unfold maxLen;omega,fun x hx=>?_,.inr ⟨w.heap.size,0,rfl,fun i hi=>?_⟩⟩
 ·simp only [List.mem_cons,List.not_mem_nil,or_false] at hx;subst hx;exact Ars.nil
 ·obtain rfl:i=0:=by omega
  exact ⟨by rw [World.cell?_alloc_at _ _ _ _ (by rfl)];rfl,by rw [World.cell?_alloc_at _ _ _ _ (by rfl)];rfl⟩
theorem uz (w:World):Cw.Good w (⟨1,1,1,1,none,0,0,[]⟩:Cw):=⟨Rs.nil,by intro z hz;simp [Cw.base] at hz;omega⟩
theorem aty (w:World):Cw.Good w (⟨0,18446744073709551615,0,0,none,0,0,[]⟩:Cw):=⟨Rs.nil,by intro z hz;simp [Cw.base] at hz;omega⟩
theorem ayi {ws:List (List Int)} {c:File.Cst} {e:Int} (h:(Wl.write ws).2=e) (he:e≠0):Shp.mk ws c=(Img.Im.no,e):=by
 unfold Shp.mk;obtain ⟨gl,hd,_⟩:=Wlk.nc (ws:=ws);rw [hd,h,if_neg he]
theorem axa {ws:List (List Int)} {c:File.Cst} (h:(Wl.write ws).2=0) (hc:File.check c=false):Shp.mk ws c=(Img.Im.no,60):=by
 unfold Shp.mk;obtain ⟨gl,hd,_⟩:=Wlk.nc (ws:=ws);rw [hd,if_pos h,if_neg (by rw [hc];exact Bool.noConfusion)]
theorem axb:∃X,Shp.mk [[97],[98,97]] ⟨[1,1,1,1],[]⟩=(X,0):=⟨_,Shp.ayq (by decide +kernel) (by decide +kernel)⟩
theorem axc:Shp.wrd Img.Im.no=([],100):=by
 have h:Shp.chk Img.Im.no=100:=Shp.agn (by decide +kernel)
 unfold Shp.wrd;rw [h];rfl
theorem atz:Shp.chk ⟨[⟨true,[]⟩],⟨[1,1,1,1],[]⟩⟩=90:=by kernel_rfl
theorem xg {w w':World} (h:∃q,w'=w.drewN q):Below w.heap.size w w':=by obtain ⟨q,rfl⟩:=h;exact al (Below.refl _ w) ⟨q,rfl⟩

theorem aqm (w:World):Calls Tryz.prog 7 #[] w fun e w'=>e=.returned (.bool true)/\Below w.heap.size w w':=by
 obtain ⟨X,hX⟩:=axb;obtain ⟨-,-,-,hck,hwd⟩:=Shp.avf hX;have HX:=hdq hX;have HCK:=hdq hck;have HWD:=hdq hwd;obtain ⟨WC,hWC⟩:∃W,W=w.alloc (.cells #[Value.int .u64 1,Value.int .u64 1,Value.int .u64 1,Value.int .u64 1,Value.slice none 0 0] 26):=⟨_,rfl⟩;have hsC:WC.heap.size=w.heap.size+1:=by rw [hWC,World.size_alloc]
 have hbC:Below w.heap.size w WC:=by rw [hWC];exact (Below.refl _ w).alloc lrf _
 have hpC:WC.heap[w.heap.size]?=some (.cells #[Value.int .u64 1,Value.int .u64 1,Value.int .u64 1,Value.int .u64 1,Value.slice none 0 0] 26 (0,0)):=by rw [hWC];exact han w _
 obtain ⟨t1,t2⟩:=uy (W:=WC) (n:=1) (m:=2) (B1:=w.heap.size+1) (B2:=w.heap.size+1+1) (B3:=w.heap.size+1+1+1) [97] [98,97] (by decide) (by decide) rfl rfl (by omega) (by omega) hsC.symm (by rw [hsC]) (by rw [hsC])
 have T1:=hdq t1;have T2:=hdq t2;have HWC:=hdq hWC;have HSC:=hdq hsC;have HBC:=hdq hbC;have HPC:=hdq hpC
 have hp0:(((w.alloc (.cells #[Value.int .u64 1,Value.int .u64 1,Value.int .u64 1,Value.int .u64 1,Value.slice none 0 0] 26)).alloc (.cells #[.int .i64 97] 3)).alloc (.cells #[.int .i64 98,.int .i64 97] 3)).alloc (.cells #[.slice (some ⟨w.heap.size+1,0,none⟩) 1 1,.slice (some ⟨w.heap.size+1+1,0,none⟩) 2 2] 51) |>.heap[w.heap.size]?=some (.cells #[Value.int .u64 1,Value.int .u64 1,Value.int .u64 1,Value.int .u64 1,Value.slice none 0 0] 26 (0,0)):=by
  have h:=(T2.out.block w.heap.size (by rw [HSC.out];omega)).trans HPC.out
  rw [HWC.out] at h;exact h
 have HP0:=hdq hp0;clear hX hck hwd hWC hsC hbC hpC t1 t2 hp0;go_enter Tryz.func7,Tryz.ntmps7;go_wp2_with (refine ag (by rfl) 26 (.tmp 1) (by rfl) w.heap.size (by rfl) 26 #[Value.int .u64 1,Value.int .u64 1,Value.int .u64 1,Value.int .u64 1,Value.slice none 0 0] (0,0) _ HP0.out Tryz.underlying26 (by rfl) (show _=some (#[Value.int .u64 1,Value.int .u64 1,Value.int .u64 1,Value.int .u64 1,Value.slice none 0 0]:Array Value).size from fu) ?_)
 refine (rq (some ⟨w.heap.size+1+1+1,0,none⟩) 2 2 [⟨some ⟨w.heap.size+1,0,none⟩,1,1,[97]⟩,⟨some ⟨w.heap.size+1+1,0,none⟩,2,2,[98,97]⟩] (⟨1,1,1,1,none,0,0,[]⟩:Cw) (X,0) _ (by have h:=T1.out;rw [HWC.out] at h;exact h) (fun h=>by cases h) (uz _) HX.out).mono ?_
 rintro e w1 ⟨y1,rfl,hg,hy,-,hb⟩
 have hb1:Below w.heap.size w w1:=by
  have h:=HBC.out.trans ((T2.out.trans (Below.mono (B:=_) (B':=WC.heap.size) (by rw [HWC.out];exact hb) T2.out.size)).mono HBC.out.size)
  exact h
 have hp1:w1.heap[w.heap.size]?=some (.cells #[Value.int .u64 1,Value.int .u64 1,Value.int .u64 1,Value.int .u64 1,Value.slice none 0 0] 26 (0,0)):=(hb.block _ (hltq HP0.out)).trans HP0.out;have HB_0:=hdq hb1;have HC_0:=hdq hp1;have HY_0:=hdq hg;have HIM:=hdq hy;clear hg hy hb hb1 hp1 HX HBC HPC HSC HWC T1 T2 HP0;have HXB:Hid (∀o:Obj,(w1.alloc o).heap[w1.heap.size]?=some o):=fun o=>han w1 o;simp only [Iw.v];go_wp2_with (refine ag (by rfl) 28 (.tmp 2) (by rfl) w1.heap.size (by rfl) 28 #[Value.slice y1.a y1.n y1.cap,Value.int .u64 y1.c.m,Value.int .u64 y1.c.l,Value.int .u64 y1.c.o,Value.int .u64 y1.c.t,Value.slice y1.c.a y1.c.n y1.c.cap] (0,0) _ (HXB.out _) Tryz.underlying28 (by rfl) (show _=some (#[Value.slice y1.a y1.n y1.cap,Value.int .u64 y1.c.m,Value.int .u64 y1.c.l,Value.int .u64 y1.c.o,Value.int .u64 y1.c.t,Value.slice y1.c.a y1.c.n y1.c.cap]:Array Value).size from cr) ?_)
 refine (uq y1 [[97],[98,97]] 0 _ (HY_0.out.alloc _) (by rw [HIM.out];exact HWD.out)).mono ?_
 rintro e w2 ⟨a2,k2,d2,o2,rfl,hm,hn,hb⟩;obtain rfl:k2=2:=by rw [<-hm.len,<-bq,hn];rfl
 have hx:w2.heap[w1.heap.size]?=some (.cells #[Value.slice y1.a y1.n y1.cap,Value.int .u64 y1.c.m,Value.int .u64 y1.c.l,Value.int .u64 y1.c.o,Value.int .u64 y1.c.t,Value.slice y1.c.a y1.c.n y1.c.cap] 28 (0,0)):=(hb.block _ (by simp)).trans (HXB.out _)
 have hst:Below w1.heap.size w1 w2:=((Below.refl _ w1).alloc lrf _).trans (hb.mono (by simp))
 have hms:=hm.words;have HN:=hdq hn;clear hm hn hb HXB;have HC_1:=hdq ((hst.block _ (hltq HC_0.out)).trans HC_0.out);have HY_1:=hdq (HY_0.out.below hst lrf);have HB_1:=hdq (HB_0.out.trans (hst.mono HB_0.out.size));clear HC_0 HY_0 HB_0 hst;have HX_1:=hdq (hx);have HM_1:=hdq (hms);clear hx hms;simp only [];obtain ⟨t1,t2⟩:=uy (W:=w2) (n:=1) (m:=1) [98] [97] (by decide) (by decide) rfl rfl (by omega) (by omega) rfl rfl rfl
 have T1a:=hdq t1;have T2a:=hdq t2;have HCAa:=hdq ((t2.block _ (hltq HC_1.out)).trans HC_1.out);clear t1 t2;go_wp2_with (refine ag (by rfl) 26 (.tmp 1) (by rfl) w.heap.size (by rfl) 26 #[Value.int .u64 1,Value.int .u64 1,Value.int .u64 1,Value.int .u64 1,Value.slice none 0 0] (0,0) _ HCAa.out Tryz.underlying26 (by rfl) (show _=some (#[Value.int .u64 1,Value.int .u64 1,Value.int .u64 1,Value.int .u64 1,Value.slice none 0 0]:Array Value).size from fu) ?_)
 refine (rq _ 2 2 [⟨some ⟨w2.heap.size,0,none⟩,1,1,[98]⟩,⟨some ⟨w2.heap.size+1,0,none⟩,1,1,[97]⟩] (⟨1,1,1,1,none,0,0,[]⟩:Cw) (Img.Im.no,90) _ T1a.out (fun h=>by cases h) (uz _) (ayi (ws:=[[98],[97]]) (by decide +kernel) (by decide))).mono ?_
 rintro e w3 ⟨y3,rfl,-,-,-,hb⟩;have hst:Below w2.heap.size w2 w3:=T2a.out.trans (hb.mono T2a.out.size);clear hb T1a T2a HCAa;have HC_2:=hdq ((hst.block _ (hltq HC_1.out)).trans HC_1.out);have HY_2:=hdq (HY_1.out.below hst lrf);have HX_2:=hdq ((hst.block _ (hltq HX_1.out)).trans HX_1.out);have HM_2:=hdq (HM_1.out.below hst lrf);have HB_2:=hdq (HB_1.out.trans (hst.mono HB_1.out.size));clear HC_1 HY_1 HX_1 HM_1 HB_1 hst;simp only [Iw.v];go_wp2_with fail;refine (rq none 0 0 [] (⟨0,18446744073709551615,0,0,none,0,0,[]⟩:Cw) (Img.Im.no,60) _ Ws.nil (fun _=>rfl) (aty _) (axa (by decide +kernel) (by decide +kernel))).mono ?_
 rintro e w4 ⟨y4,rfl,-,-,-,hb⟩;have hst:Below w3.heap.size w3 w4:=((Below.refl _ w3).alloc lrf _).trans (hb.mono (by simp))
 clear hb;have HC_3:=hdq ((hst.block _ (hltq HC_2.out)).trans HC_2.out);have HY_3:=hdq (HY_2.out.below hst lrf);have HX_3:=hdq ((hst.block _ (hltq HX_2.out)).trans HX_2.out);have HM_3:=hdq (HM_2.out.below hst lrf);have HB_3:=hdq (HB_2.out.trans (hst.mono HB_2.out.size));clear HC_2 HY_2 HX_2 HM_2 HB_2 hst;simp only [Iw.v];go_wp2_with fail;refine (uq imNone [] 100 _ (xe _) axc).mono ?_;rintro e w5 ⟨a5,k5,d5,o5,rfl,-,-,hb⟩;have hst:Below w4.heap.size w4 w5:=((Below.refl _ w4).alloc lrf _).trans (hb.mono (by simp))
 clear hb;have HC_4:=hdq ((hst.block _ (hltq HC_3.out)).trans HC_3.out);have HY_4:=hdq (HY_3.out.below hst lrf);have HX_4:=hdq ((hst.block _ (hltq HX_3.out)).trans HX_3.out);have HM_4:=hdq (HM_3.out.below hst lrf);have HB_4:=hdq (HB_3.out.trans (hst.mono HB_3.out.size));clear HC_3 HY_3 HX_3 HM_3 HB_3 hst;simp only [];obtain ⟨t1,t2⟩:=uy (W:=w5) (n:=1) (m:=2) [97] [98,97] (by decide) (by decide) rfl rfl (by omega) (by omega) rfl rfl rfl
 have T1b:=hdq t1;have T2b:=hdq t2;have HCAb:=hdq ((t2.block _ (hltq HC_4.out)).trans HC_4.out);clear t1 t2;go_wp2_with fail;refine (aew a2 _ 2 2 d2 2 o2 [⟨some ⟨w5.heap.size,0,none⟩,1,1,[97]⟩,⟨some ⟨w5.heap.size+1,0,none⟩,2,2,[98,97]⟩] true _ (HM_4.out.below T2b.out lrf) T1b.out (by rw [HN.out];rfl)).mono ?_
 rintro e w6 ⟨rfl,hq⟩;have hst:Below w5.heap.size w5 w6:=T2b.out.trans ((xg hq).mono T2b.out.size);clear hq T1b T2b HCAb;have HC_5:=hdq ((hst.block _ (hltq HC_4.out)).trans HC_4.out);have HY_5:=hdq (HY_4.out.below hst lrf);have HX_5:=hdq ((hst.block _ (hltq HX_4.out)).trans HX_4.out);have HB_5:=hdq (HB_4.out.trans (hst.mono HB_4.out.size));clear HC_4 HY_4 HX_4 HB_4 hst;go_wp2_with (refine ag (by rfl) 28 (.tmp 2) (by rfl) w1.heap.size (by rfl) 28 #[Value.slice y1.a y1.n y1.cap,Value.int .u64 y1.c.m,Value.int .u64 y1.c.l,Value.int .u64 y1.c.o,Value.int .u64 y1.c.t,Value.slice y1.c.a y1.c.n y1.c.cap] (0,0) _ HX_5.out Tryz.underlying28 (by rfl) (show _=some (#[Value.slice y1.a y1.n y1.cap,Value.int .u64 y1.c.m,Value.int .u64 y1.c.l,Value.int .u64 y1.c.o,Value.int .u64 y1.c.t,Value.slice y1.c.a y1.c.n y1.c.cap]:Array Value).size from cr) ?_)
 refine (oh y1 0 _ HY_5.out (by rw [HIM.out];exact HCK.out)).mono ?_
 rintro e w7 ⟨rfl,hst⟩;have HC_6:=hdq ((hst.block _ (hltq HC_5.out)).trans HC_5.out);have HY_6:=hdq (HY_5.out.below hst lrf);have HX_6:=hdq ((hst.block _ (hltq HX_5.out)).trans HX_5.out);have HB_6:=hdq (HB_5.out.trans (hst.mono HB_5.out.size));clear HC_5 HY_5 HX_5 HB_5 hst;have HNA:Hid (∀o,(w7.alloc o).heap[w.heap.size]?=some (.cells #[Value.int .u64 1,Value.int .u64 1,Value.int .u64 1,Value.int .u64 1,Value.slice none 0 0] 26 (0,0))):=fun o=>(((Below.refl w7.heap.size w7).alloc lrf o).block _ (hltq HC_6.out)).trans HC_6.out;go_wp2_with (refine ag (by rfl) 26 (.tmp 1) (by rfl) w.heap.size (by rfl) 26 #[Value.int .u64 1,Value.int .u64 1,Value.int .u64 1,Value.int .u64 1,Value.slice none 0 0] (0,0) _ (HNA.out _) Tryz.underlying26 (by rfl) (show _=some (#[Value.int .u64 1,Value.int .u64 1,Value.int .u64 1,Value.int .u64 1,Value.slice none 0 0]:Array Value).size from fu) ?_)
 refine (oh ⟨some ⟨w7.heap.size,0,none⟩,1,1,[⟨true,none,0,0,[]⟩],(⟨1,1,1,1,none,0,0,[]⟩:Cw)⟩ 90 _ ⟨aql rfl,uz _⟩ atz).mono ?_;rintro e w8 ⟨rfl,hb⟩;have HB8:Hid (Below w.heap.size w w8):=HB_6.out.trans ((((Below.refl _ w7).alloc lrf _).trans (hb.mono (by simp))).mono HB_6.out.size)
 clear hb;go_wp2;go_ret;exact ⟨rfl,HB8.out⟩

end
section
open Go.RowKit

theorem va {w:World} {g:Nat} {a0 a1 a2 a3 a4 a5:Value} {t:TypeId} {fr:Nat × Nat} (h:w.heap[g]?=some (.cells #[a0,a1,a2,a3,a4,a5] t fr)) :
 w.cell? ⟨g,0,none⟩=some a0/\w.cell? ⟨g,1,none⟩=some a1/\w.cell? ⟨g,2,none⟩=some a2/\w.cell? ⟨g,3,none⟩=some a3/\w.cell? ⟨g,4,none⟩=some a4/\w.cell? ⟨g,5,none⟩=some a5:=by
 simp [World.cell?,h]
end
end Go.Proofs.YtkiamgcpcneggaaGreat
