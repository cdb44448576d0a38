import Derived.Test.YtkiamgcpcneggaaGreatPackAE
set_option linter.all false
set_option maxRecDepth 100000
set_option maxHeartbeats 12800000
namespace Go.Proofs.YtkiamgcpcneggaaGreat
open Go.RowKit Go.Maps Tri Daw

theorem bf {w:World} {ops:Array Oper} {o:Oper} {act:Act} {K:Act->World->Prop} {Q:Exit->Act->World->Prop} {E:Prop} (hw:Region.wanted o (yielded ops act.tmps)=true) (x:Operand) (N:Nat) (ho:o.op=.makeSlice 51 x x) (hx:act.eval x=.int .i64 (N:Int)) (hN:N<=7000)
 (h:∀ob w',ob=w.heap.size->w'.ownsRow ob 3 1 (.slice (some ⟨ob,0,none⟩) N N) N (ah (List.replicate N 0))->Below w.heap.size w w'->w.heap.size<w'.heap.size->K (act.put o.dst (.slice (some ⟨ob,0,none⟩) N N)) w') :
 if Region.wanted o (yielded ops act.tmps)=true then o.wp Tryz.prog act w K Q else E:=by
 rw [if_pos hw];have hmk:=run_make_row' (P:=Tryz.prog) 51 3 (.int .i64 0) 8 Tryz.underlying51 fq rfl .i64 .i64 N (by omega) (by omega)
 unfold Oper.wp;simp only [execOp,ho,hx];go_simp;refine h _ _ rfl ?_ ((Below.refl _ w).alloc lrf _) (by simp)
 have h2:=World.ownsRow_lit (base:=w.heap.size) (e:=3) (size:=1) w (madeCells #[.int .i64 0] N) N lrf (by unfold maxLen;omega) (by simp [madeCells])
 have e:(madeCells #[Value.int .i64 0] N).toList=ah (List.replicate N 0):=by
  apply List.ext_getElem
  ·simp [madeCells,ah]
  ·intro i h1 h2;simp [madeCells,ah,Nat.mod_one]
 rw [e] at h2;exact h2
theorem bi {w:World} {ops:Array Oper} {o:Oper} {act:Act} {K:Act->World->Prop} {Q:Exit->Act->World->Prop} {E:Prop} (hw:Region.wanted o (yielded ops act.tmps)=true) (ho:o.op=.makeMap 101 none)
 (h:∀mp w',mp=w.heap.size->NameMap w' mp []->Below w.heap.size w w'->w.heap.size<w'.heap.size->K (act.put o.dst (.map (some mp))) w') :
 if Region.wanted o (yielded ops act.tmps)=true then o.wp Tryz.prog act w K Q else E:=by
 rw [if_pos hw];have hmm:=@run_makeMap Tryz.prog;unfold Oper.wp;simp only [execOp,ho];go_simp;exact h _ _ rfl (NameMap.made w) ((Below.refl _ w).alloc lrf _) (by simp)
theorem au {w:World} {ops:Array Oper} {o:Oper} {act:Act} {K:Act->World->Prop} {Q:Exit->Act->World->Prop} {E:Prop} (hw:Region.wanted o (yielded ops act.tmps)=true) (ho:o.op=.alloc 104)
 (h:∀mb w',mb=w.heap.size->w'.heap[mb]?=some (.cells #[.slice none 0 0,.slice none 0 0,.map none,.slice none 0 0] 104 (0,0))->Below w.heap.size w w'->w.heap.size<w'.heap.size->K (act.put o.dst (.pointer (some ⟨mb,0,none⟩))) w') :
 if Region.wanted o (yielded ops act.tmps)=true then o.wp Tryz.prog act w K Q else E:=by
 rw [if_pos hw];unfold Oper.wp;simp only [execOp,ho];go_simp;exact h _ _ rfl (han w _) ((Below.refl _ w).alloc lrf _) (by simp)

def ahh (ws:List (List Int)) (w1:World) (tn g ob mp mb:Nat) (os:List Wd) (W:World):Prop :=
 nums os=begs ws/\(∃B,w1.heap.size<=B/\Mr W B g mb ob mp tn os (List.replicate tn 0) [] [] (.slice none 0 0))/\Below w1.heap.size w1 W/\(w1.heap.size<=mb/\w1.heap.size<=ob/\w1.heap.size<=mp)
theorem bd {ws:List (List Int)} {w1 W:World} {g N lo hi mb ob mp:Nat} {os:List Wd} (hC:BegsIn W g N lo hi os) (hS:W.ownsRow ob 3 1 (.slice (some ⟨ob,0,none⟩) N N) N (ah (List.replicate N 0))) (hMp:NameMap W mp []) {u0 u1 u2 u3:Value} (hL:W.heap[mb]?=some (.cells #[u0,u1,u2,u3] 104 (0,0))) (hb:Below w1.heap.size w1 W)
 (ho:mb<lo\/hi<=mb) (h2:ob<lo\/hi<=ob) (h3:mp<lo\/hi<=mp) (h4:mb≠ob/\mb≠mp/\ob≠mp) (h5:w1.heap.size<=mb/\w1.heap.size<=ob/\w1.heap.size<=mp) (hnum:nums os=begs ws) :
 ahh ws w1 N g ob mp mb os ((((W.setCell ⟨mb,0,none⟩ (.slice (some ⟨g,0,none⟩) N N)).setCell ⟨mb,1,none⟩ (.slice (some ⟨ob,0,none⟩) N N)).setCell ⟨mb,2,none⟩ (.map (some mp))).setCell ⟨mb,3,none⟩ (.slice none 0 0)) :=
 ⟨hnum,⟨_,hb.size,ahg hC hS hMp hL ho h2 h3 h4⟩,(((hb.setCell (p:=⟨mb,0,none⟩) h5.1 _).setCell (p:=⟨mb,1,none⟩) h5.1 _).setCell (p:=⟨mb,2,none⟩) h5.1 _).setCell (p:=⟨mb,3,none⟩) h5.1 _,h5⟩
theorem atx (a:Option Addr) (n cap:Nat) (xs:List Wd) (g:List St × Int) (w:World) (hs:Ws w a n cap xs) (hnil:a=none->cap=0) (hg:dmade (nums xs)=g) :
 Calls Tryz.prog 30 #[.slice a n cap] w fun e w'=>MadeIs w w' e g:=by
 have hnc:=hs.2.1;have hcm:=hs.2.2.1;unfold maxLen at hcm;have HS:=hdq hs;have HNIL:=hdq hnil;have HG:=hdq hg;have HMX:Hid (Tryz.prog.follows .mixedOrders=true):=by show _=_;kernel_rfl
 obtain ⟨⟨ml,er⟩,hp⟩:∃p,made (nums xs)=p:=⟨_,rfl⟩;have HP:=hdq hp;clear hs hg hnil hp;go_enter Tryz.func30,Tryz.ntmps30;go_wp2_with fail;refine (afz a n cap xs _ w HS.out HNIL.out HP.out).mono ?_;rintro e w1 ⟨ta,tn,tc,ty,rfl,hts,htm,-,hb1⟩;have HB1:=hdq hb1;have HTY:=hdq hts;have HTM:=hdq htm;have HER:Hid (er=(Wl.write (nums xs)).2):=by have h:=(aap (ws:=nums xs)).1;rw [HP.out] at h;exact h
 clear hb1 hts htm;simp only [];by_cases her:er=0
 ·subst her;have hwe:=Wl.ny (nums xs);rw [<-HER.out] at hwe
  have hw3:(nums xs).length<=300/\(∀z∈nums xs,Wl.fit z=true)/\Rise (nums xs):=by
   rcases hwe with ⟨_,h1,h2,h3,_⟩|⟨h,_⟩
   ·exact ⟨h1,h2,h3⟩
   ·exact absurd rfl h
  have HR:=hdq hw3.2.2;have HSH:Hid (Tri.Short (nums xs)):=fun z hz=>(Wl.fit_parts (hw3.2.1 z hz)).2.1;have HCK:Hid (check (make (nums xs))=true):=hdq (ake HSH.out (fun z hz=>(Wl.fit_parts (hw3.2.1 z hz)).2.2.1) hw3.1)
  have HGM:Hid ((dmake (nums xs),(0:Int))=g):=by
   show _=_;rw [<-HG.out];unfold dmade;rw [<-HER.out];simp
  have HTR:Hid (sts ty=make (nums xs)):=by
   show _=_;have h:=(aap (ws:=nums xs)).2 HER.out.symm;rw [HP.out] at h;rw [HTM.out];exact h
  have HTL:Hid (tn=(begs (nums xs)).length):=by show _=_;rw [<-HTY.out.1,<-ar,HTR.out,ce]
  have HTN:Hid (tn<=6001):=hdq (by
   have h:=(gx HCK.out).1
   rw [ce,<-HTL.out] at h;exact h)
  have hmx:=HMX.out;have htc1:=HTY.out.2.1;have htc2:=HTY.out.2.2.1;unfold maxLen at htc2;clear hwe hw3;go_wp2_with fail;rename_i Kr hKr
  have hrest:∀(g ob mp mb:Nat) (os:List Wd) (wf:World),ahh (nums xs) w1 tn g ob mp mb os wf->Kr { tmps:=#[.slice a n cap,undef,.slice none 0 0,.int .i64 0,.slice ta tn tc,.int .i64 0,.pointer (some ⟨mb,0,none⟩),.tuple #[.slice ta tn tc,.int .i64 0],.slice a n cap,.tuple #[.slice ta tn tc,.int .i64 0],.slice ta tn tc,.int .i64 0,.int .i64 0,.bool false,undef,.slice ta tn tc,.slice (some ⟨g,0,none⟩) tn tn,.slice ta tn tc,.int .i64 (tn:Int),.slice (some ⟨ob,0,none⟩) tn tn,.map (some mp),.agg #[.slice (some ⟨g,0,none⟩) tn tn,.slice (some ⟨ob,0,none⟩) tn tn,.map (some mp),.slice none 0 0],undef,undef,undef,undef],defers:=[] } wf:=by
   rintro g' ob mp mb os wf ⟨hnum,⟨B,hBl,hM⟩,hbf,hlo⟩;refine hKr _ _ ?_;have HN:=hdq hnum;have HBF:=hdq hbf;have HLO:=hdq hlo;rw [HTL.out] at hM;have HM:=hdq hM;clear hnum hbf hlo hM hKr
   go_wp2_with first
    | (go_at_call 67
       refine (aiu HSH.out HR.out HCK.out B g' mb ob mp os _ ta tn tc ty w1 _ HTY.out HTR.out HBF.out HLO.out HM.out (told_start _) HN.out).mono ?_;rintro e w2 ⟨rfl,⟨B',hB',hI⟩,hK⟩;obtain ⟨ns,L,cs,cb,cc,hM2,hT2,q1,q2,q3,q4,q5,q6⟩:=amg HCK.out hI;have HM2:=hdq hM2;have HT2:=hdq hT2;have HQ:=hdq (And.intro q3 (And.intro q4 (And.intro q5 q6)));have hbw2:Below w1.heap.size w1 w2:=HBF.out.trans (hK.below ⟨by omega,HLO.out.1,HLO.out.2.1,HLO.out.2.2⟩)
       have HB2:=hdq hbw2
       clear hI hK hM2 hT2 q3 q4 q5 q6 hbw2)
    | (go_at_call 69
       refine (aqd B' g' mb ob mp _ cb cc cs.length os ns L cs _ HM2.out rfl q1 q2 HQ.out.1 HQ.out.2.1 HQ.out.2.2.1 HQ.out.2.2.2).mono ?_;rintro e w3 ⟨cs',P,p,c,ys,hp,hso,hP,rfl,hss,hys,hpn,hb3⟩;have hdm:=ahf HSH.out HR.out HT2.out hp hso hP;have HY3:=hdq hss;have HD3:Hid (sts ys=dmake (nums xs)):=hdq (hys.trans hdm);have HP3:=hdq hpn;have HB3:=hdq (HB2.out.trans (hb3.mono (by omega)))
       clear hp hso hP hss hys hpn hb3 hdm)
   go_ret2;exact ⟨p,cs.length,c,ys,by rw [<-HGM.out];rfl,HY3.out,by rw [HD3.out,<-HGM.out],HP3.out,HB1.out.trans (HB3.out.mono HB1.out.size)⟩
  have HREST:=hdq hrest;clear hrest hKr;refine wp_region_held_drew (S:=(fun _=>True)) (by kernel_rfl) (by first|(all_goals trivial)|((try dsimp only);all_goals trivial)) (fun hHeld=>?_)
  refine wpAnyH_take (i:=0) (v:=?vmka1) rfl (by kernel_rfl) (by kernel_rfl) (by kernel_rfl) (fun _ _ _ h=>h) (Or.inl ⟨by rfl,?hmka1⟩) (by assumption) ?rmka1
  case hmka1=>intro w hSw;(try dsimp only at hSw);go_simp;try with_reducible rfl
  simp only [Act.put,List.getElem_toArray,List.getElem_cons_zero,List.setIfInBounds_toArray,List.set_cons_succ,List.set_cons_zero];refine t_h 2 ?_;refine t_h 3 ?_;refine wpAnyH_ready (rs:=[1,4,5,7]) (by kernel_rfl) (by simp) ?_
  refine AllReadyH.cons rfl (fun K hK=>?_) (AllReadyH.cons rfl (fun K hK=>?_) (AllReadyH.cons rfl (fun K hK=>?_) (AllReadyH.cons rfl (fun K hK=>?_) AllReadyH.nil)))
  ·go_simp;go_at_call 66;refine (bh (nums xs) ta tn tc ty _ (HTY.out.below (al (Below.refl _ w1) ⟨1,rfl⟩) lrf) HTR.out HSH.out HTN.out).mono ?_;rintro e v1 ⟨g,os,rfl,hws,hnum,-,hgb,hup,hbv1⟩;have hc:BegsIn v1 g tn w1.heap.size v1.heap.size os:=⟨hws,hgb,hup,Nat.le_refl _⟩;have hzv1:w1.heap.size<=v1.heap.size:=hbv1.size;clear hws hgb hup;have hbs:Below w1.heap.size w1 v1:=(al (Below.refl _ w1) ⟨1,rfl⟩).trans hbv1;clear hbv1;go_wp2_with fail;refine k_h hK (by (try dsimp only);all_goals trivial) (fun hHeld=>?_)
   clear hK K;refine wpAnyH_ready (rs:=[4,5,7]) (by kernel_rfl) (by simp) ?_
   refine AllReadyH.cons rfl (fun K hK=>?_) (AllReadyH.cons rfl (fun K hK=>?_) (AllReadyH.cons rfl (fun K hK=>?_) AllReadyH.nil))
   ·refine bf (by rfl) (.tmp 18) tn (by rfl) (by rfl) (by have:=HTN.out;omega) ?_
    intro ob v14 hob hs hbv14 hzv14;have HOB:Hid (ob=v1.heap.size):=hdq hob;clear hob;replace hzv14:v1.heap.size<v14.heap.size:=hzv14;replace hc:=hc.below hbv14;replace hbs:=hbs.trans (hbv14.mono hbs.size);clear hbv14;refine k_h hK (by (try dsimp only);all_goals trivial) (fun hHeld=>?_)
    clear hK K;refine em 5 7 (fun K hK=>?_) (fun K hK=>?_)
    ·refine bi (by rfl) (by rfl) ?_
     intro mp v145 hmp hm hbv145 hzv145;have HMP:Hid (mp=v14.heap.size):=hdq hmp;clear hmp;replace hzv145:v14.heap.size<v145.heap.size:=hzv145;replace hc:=hc.below hbv145;replace hs:=af hs hbv145 lrf;replace hbs:=hbs.trans (hbv145.mono hbs.size);clear hbv145;refine k_h hK (by (try dsimp only);all_goals trivial) (fun hHeld=>?_)
     clear hK K;refine t_h 6 ?_;refine r_h 7 (fun K hK=>?_);refine au (by rfl) (by rfl) ?_
     intro mb v1457 hmb hl hbv1457 hzv1457;have HMB:Hid (mb=v145.heap.size):=hdq hmb;clear hmb;replace hzv1457:v145.heap.size<v1457.heap.size:=hzv1457;replace hc:=hc.below hbv1457;replace hs:=af hs hbv1457 lrf;replace hm:=hm.below hbv1457;replace hbs:=hbs.trans (hbv1457.mono hbs.size);clear hbv1457;refine k_h hK (by (try dsimp only);all_goals trivial) (fun hHeld=>?_)
     clear hK K;refine r_h 8 (fun K hK=>?_);have c0:v1457.cell? ⟨mb,0,none⟩=some (.slice none 0 0):=by rw [ae hl];rfl
     have c1:v1457.cell? ⟨mb,1,none⟩=some (.slice none 0 0):=by rw [ae hl];rfl
     have c2:v1457.cell? ⟨mb,2,none⟩=some (.map none):=by rw [ae hl];rfl
     have c3:v1457.cell? ⟨mb,3,none⟩=some (.slice none 0 0):=by rw [ae hl];rfl
     have cf:∀j,v1457.frozen? ⟨mb,j,none⟩=false:=fun j=>frozen_of_row _ _ j _ _ hl;have e1:=HOB.out;have e2:=HMP.out;have e3:=HMB.out;have HFIN:=hdq (bd hc hs hm hl hbs (by omega) (by omega) (by omega) (by omega) (by omega) hnum)
     clear hc hs hm hl hbs hnum e1 e2 e3;go_simp;refine k_h hK (by (try dsimp only);all_goals trivial) (fun hHeld=>?_)
     clear hK K;refine wpAnyH_done (by kernel_rfl) ?_ _
     exact HREST.out g ob mp mb os _ HFIN.out
    ·refine au (by rfl) (by rfl) ?_
     intro mb v147 hmb hl hbv147 hzv147;have HMB:Hid (mb=v14.heap.size):=hdq hmb;clear hmb;replace hzv147:v14.heap.size<v147.heap.size:=hzv147;replace hc:=hc.below hbv147;replace hs:=af hs hbv147 lrf;replace hbs:=hbs.trans (hbv147.mono hbs.size);clear hbv147;refine k_h hK (by (try dsimp only);all_goals trivial) (fun hHeld=>?_)
     clear hK K;refine r_h 5 (fun K hK=>?_);refine bi (by rfl) (by rfl) ?_
     intro mp v1475 hmp hm hbv1475 hzv1475;have HMP:Hid (mp=v147.heap.size):=hdq hmp;clear hmp;replace hzv1475:v147.heap.size<v1475.heap.size:=hzv1475;replace hc:=hc.below hbv1475;replace hs:=af hs hbv1475 lrf;replace hl:=(hbv1475.block _ (hltq hl)).trans hl;replace hbs:=hbs.trans (hbv1475.mono hbs.size);clear hbv1475;refine k_h hK (by (try dsimp only);all_goals trivial) (fun hHeld=>?_)
     clear hK K;refine t_h 6 ?_;refine r_h 8 (fun K hK=>?_);have c0:v1475.cell? ⟨mb,0,none⟩=some (.slice none 0 0):=by rw [ae hl];rfl
     have c1:v1475.cell? ⟨mb,1,none⟩=some (.slice none 0 0):=by rw [ae hl];rfl
     have c2:v1475.cell? ⟨mb,2,none⟩=some (.map none):=by rw [ae hl];rfl
     have c3:v1475.cell? ⟨mb,3,none⟩=some (.slice none 0 0):=by rw [ae hl];rfl
     have cf:∀j,v1475.frozen? ⟨mb,j,none⟩=false:=fun j=>frozen_of_row _ _ j _ _ hl;have e1:=HOB.out;have e2:=HMP.out;have e3:=HMB.out;have HFIN:=hdq (bd hc hs hm hl hbs (by omega) (by omega) (by omega) (by omega) (by omega) hnum)
     clear hc hs hm hl hbs hnum e1 e2 e3;go_simp;refine k_h hK (by (try dsimp only);all_goals trivial) (fun hHeld=>?_)
     clear hK K;refine wpAnyH_done (by kernel_rfl) ?_ _
     exact HREST.out g ob mp mb os _ HFIN.out
   ·refine bi (by rfl) (by rfl) ?_
    intro mp v15 hmp hm hbv15 hzv15;have HMP:Hid (mp=v1.heap.size):=hdq hmp;clear hmp;replace hzv15:v1.heap.size<v15.heap.size:=hzv15;replace hc:=hc.below hbv15;replace hbs:=hbs.trans (hbv15.mono hbs.size);clear hbv15;refine k_h hK (by (try dsimp only);all_goals trivial) (fun hHeld=>?_)
    clear hK K;refine em 4 7 (fun K hK=>?_) (fun K hK=>?_)
    ·refine bf (by rfl) (.tmp 18) tn (by rfl) (by rfl) (by have:=HTN.out;omega) ?_
     intro ob v154 hob hs hbv154 hzv154;have HOB:Hid (ob=v15.heap.size):=hdq hob;clear hob;replace hzv154:v15.heap.size<v154.heap.size:=hzv154;replace hc:=hc.below hbv154;replace hm:=hm.below hbv154;replace hbs:=hbs.trans (hbv154.mono hbs.size);clear hbv154;refine k_h hK (by (try dsimp only);all_goals trivial) (fun hHeld=>?_)
     clear hK K;refine t_h 6 ?_;refine r_h 7 (fun K hK=>?_);refine au (by rfl) (by rfl) ?_
     intro mb v1547 hmb hl hbv1547 hzv1547;have HMB:Hid (mb=v154.heap.size):=hdq hmb;clear hmb;replace hzv1547:v154.heap.size<v1547.heap.size:=hzv1547;replace hc:=hc.below hbv1547;replace hs:=af hs hbv1547 lrf;replace hm:=hm.below hbv1547;replace hbs:=hbs.trans (hbv1547.mono hbs.size);clear hbv1547;refine k_h hK (by (try dsimp only);all_goals trivial) (fun hHeld=>?_)
     clear hK K;refine r_h 8 (fun K hK=>?_);have c0:v1547.cell? ⟨mb,0,none⟩=some (.slice none 0 0):=by rw [ae hl];rfl
     have c1:v1547.cell? ⟨mb,1,none⟩=some (.slice none 0 0):=by rw [ae hl];rfl
     have c2:v1547.cell? ⟨mb,2,none⟩=some (.map none):=by rw [ae hl];rfl
     have c3:v1547.cell? ⟨mb,3,none⟩=some (.slice none 0 0):=by rw [ae hl];rfl
     have cf:∀j,v1547.frozen? ⟨mb,j,none⟩=false:=fun j=>frozen_of_row _ _ j _ _ hl;have e1:=HOB.out;have e2:=HMP.out;have e3:=HMB.out;have HFIN:=hdq (bd hc hs hm hl hbs (by omega) (by omega) (by omega) (by omega) (by omega) hnum)
     clear hc hs hm hl hbs hnum e1 e2 e3;go_simp;refine k_h hK (by (try dsimp only);all_goals trivial) (fun hHeld=>?_)
     clear hK K;refine wpAnyH_done (by kernel_rfl) ?_ _
     exact HREST.out g ob mp mb os _ HFIN.out
    ·refine au (by rfl) (by rfl) ?_
     intro mb v157 hmb hl hbv157 hzv157;have HMB:Hid (mb=v15.heap.size):=hdq hmb;clear hmb;replace hzv157:v15.heap.size<v157.heap.size:=hzv157;replace hc:=hc.below hbv157;replace hm:=hm.below hbv157;replace hbs:=hbs.trans (hbv157.mono hbs.size);clear hbv157;refine k_h hK (by (try dsimp only);all_goals trivial) (fun hHeld=>?_)
     clear hK K;refine r_h 4 (fun K hK=>?_);refine bf (by rfl) (.tmp 18) tn (by rfl) (by rfl) (by have:=HTN.out;omega) ?_
     intro ob v1574 hob hs hbv1574 hzv1574;have HOB:Hid (ob=v157.heap.size):=hdq hob;clear hob;replace hzv1574:v157.heap.size<v1574.heap.size:=hzv1574;replace hc:=hc.below hbv1574;replace hm:=hm.below hbv1574;replace hl:=(hbv1574.block _ (hltq hl)).trans hl;replace hbs:=hbs.trans (hbv1574.mono hbs.size);clear hbv1574;refine k_h hK (by (try dsimp only);all_goals trivial) (fun hHeld=>?_)
     clear hK K;refine t_h 6 ?_;refine r_h 8 (fun K hK=>?_);have c0:v1574.cell? ⟨mb,0,none⟩=some (.slice none 0 0):=by rw [ae hl];rfl
     have c1:v1574.cell? ⟨mb,1,none⟩=some (.slice none 0 0):=by rw [ae hl];rfl
     have c2:v1574.cell? ⟨mb,2,none⟩=some (.map none):=by rw [ae hl];rfl
     have c3:v1574.cell? ⟨mb,3,none⟩=some (.slice none 0 0):=by rw [ae hl];rfl
     have cf:∀j,v1574.frozen? ⟨mb,j,none⟩=false:=fun j=>frozen_of_row _ _ j _ _ hl;have e1:=HOB.out;have e2:=HMP.out;have e3:=HMB.out;have HFIN:=hdq (bd hc hs hm hl hbs (by omega) (by omega) (by omega) (by omega) (by omega) hnum)
     clear hc hs hm hl hbs hnum e1 e2 e3;go_simp;refine k_h hK (by (try dsimp only);all_goals trivial) (fun hHeld=>?_)
     clear hK K;refine wpAnyH_done (by kernel_rfl) ?_ _
     exact HREST.out g ob mp mb os _ HFIN.out
   ·refine au (by rfl) (by rfl) ?_
    intro mb v17 hmb hl hbv17 hzv17;have HMB:Hid (mb=v1.heap.size):=hdq hmb;clear hmb;replace hzv17:v1.heap.size<v17.heap.size:=hzv17;replace hc:=hc.below hbv17;replace hbs:=hbs.trans (hbv17.mono hbs.size);clear hbv17;refine k_h hK (by (try dsimp only);all_goals trivial) (fun hHeld=>?_)
    clear hK K;refine em 4 5 (fun K hK=>?_) (fun K hK=>?_)
    ·refine bf (by rfl) (.tmp 18) tn (by rfl) (by rfl) (by have:=HTN.out;omega) ?_
     intro ob v174 hob hs hbv174 hzv174;have HOB:Hid (ob=v17.heap.size):=hdq hob;clear hob;replace hzv174:v17.heap.size<v174.heap.size:=hzv174;replace hc:=hc.below hbv174;replace hl:=(hbv174.block _ (hltq hl)).trans hl;replace hbs:=hbs.trans (hbv174.mono hbs.size);clear hbv174;refine k_h hK (by (try dsimp only);all_goals trivial) (fun hHeld=>?_)
     clear hK K;refine r_h 5 (fun K hK=>?_);refine bi (by rfl) (by rfl) ?_
     intro mp v1745 hmp hm hbv1745 hzv1745;have HMP:Hid (mp=v174.heap.size):=hdq hmp;clear hmp;replace hzv1745:v174.heap.size<v1745.heap.size:=hzv1745;replace hc:=hc.below hbv1745;replace hs:=af hs hbv1745 lrf;replace hl:=(hbv1745.block _ (hltq hl)).trans hl;replace hbs:=hbs.trans (hbv1745.mono hbs.size);clear hbv1745;refine k_h hK (by (try dsimp only);all_goals trivial) (fun hHeld=>?_)
     clear hK K;refine t_h 6 ?_;refine r_h 8 (fun K hK=>?_);have c0:v1745.cell? ⟨mb,0,none⟩=some (.slice none 0 0):=by rw [ae hl];rfl
     have c1:v1745.cell? ⟨mb,1,none⟩=some (.slice none 0 0):=by rw [ae hl];rfl
     have c2:v1745.cell? ⟨mb,2,none⟩=some (.map none):=by rw [ae hl];rfl
     have c3:v1745.cell? ⟨mb,3,none⟩=some (.slice none 0 0):=by rw [ae hl];rfl
     have cf:∀j,v1745.frozen? ⟨mb,j,none⟩=false:=fun j=>frozen_of_row _ _ j _ _ hl;have e1:=HOB.out;have e2:=HMP.out;have e3:=HMB.out;have HFIN:=hdq (bd hc hs hm hl hbs (by omega) (by omega) (by omega) (by omega) (by omega) hnum)
     clear hc hs hm hl hbs hnum e1 e2 e3;go_simp;refine k_h hK (by (try dsimp only);all_goals trivial) (fun hHeld=>?_)
     clear hK K;refine wpAnyH_done (by kernel_rfl) ?_ _
     exact HREST.out g ob mp mb os _ HFIN.out
    ·refine bi (by rfl) (by rfl) ?_
     intro mp v175 hmp hm hbv175 hzv175;have HMP:Hid (mp=v17.heap.size):=hdq hmp;clear hmp;replace hzv175:v17.heap.size<v175.heap.size:=hzv175;replace hc:=hc.below hbv175;replace hl:=(hbv175.block _ (hltq hl)).trans hl;replace hbs:=hbs.trans (hbv175.mono hbs.size);clear hbv175;refine k_h hK (by (try dsimp only);all_goals trivial) (fun hHeld=>?_)
     clear hK K;refine r_h 4 (fun K hK=>?_);refine bf (by rfl) (.tmp 18) tn (by rfl) (by rfl) (by have:=HTN.out;omega) ?_
     intro ob v1754 hob hs hbv1754 hzv1754;have HOB:Hid (ob=v175.heap.size):=hdq hob;clear hob;replace hzv1754:v175.heap.size<v1754.heap.size:=hzv1754;replace hc:=hc.below hbv1754;replace hm:=hm.below hbv1754;replace hl:=(hbv1754.block _ (hltq hl)).trans hl;replace hbs:=hbs.trans (hbv1754.mono hbs.size);clear hbv1754;refine k_h hK (by (try dsimp only);all_goals trivial) (fun hHeld=>?_)
     clear hK K;refine t_h 6 ?_;refine r_h 8 (fun K hK=>?_);have c0:v1754.cell? ⟨mb,0,none⟩=some (.slice none 0 0):=by rw [ae hl];rfl
     have c1:v1754.cell? ⟨mb,1,none⟩=some (.slice none 0 0):=by rw [ae hl];rfl
     have c2:v1754.cell? ⟨mb,2,none⟩=some (.map none):=by rw [ae hl];rfl
     have c3:v1754.cell? ⟨mb,3,none⟩=some (.slice none 0 0):=by rw [ae hl];rfl
     have cf:∀j,v1754.frozen? ⟨mb,j,none⟩=false:=fun j=>frozen_of_row _ _ j _ _ hl;have e1:=HOB.out;have e2:=HMP.out;have e3:=HMB.out;have HFIN:=hdq (bd hc hs hm hl hbs (by omega) (by omega) (by omega) (by omega) (by omega) hnum)
     clear hc hs hm hl hbs hnum e1 e2 e3;go_simp;refine k_h hK (by (try dsimp only);all_goals trivial) (fun hHeld=>?_)
     clear hK K;refine wpAnyH_done (by kernel_rfl) ?_ _
     exact HREST.out g ob mp mb os _ HFIN.out
  ·refine bf (by rfl) (.tmp 18) tn (by rfl) (by rfl) (by have:=HTN.out;omega) ?_
   intro ob v4 hob hs hbv4 hzv4;have HOB:Hid (ob=w1.heap.size):=hdq hob;clear hob;replace hzv4:w1.heap.size<v4.heap.size:=hzv4;have hbs:Below w1.heap.size w1 v4:=(al (Below.refl _ w1) ⟨1,rfl⟩).trans hbv4;clear hbv4;refine k_h hK (by (try dsimp only);all_goals trivial) (fun hHeld=>?_)
   clear hK K;refine wpAnyH_ready (rs:=[1,5,7]) (by kernel_rfl) (by simp) ?_
   refine AllReadyH.cons rfl (fun K hK=>?_) (AllReadyH.cons rfl (fun K hK=>?_) (AllReadyH.cons rfl (fun K hK=>?_) AllReadyH.nil))
   ·go_simp;go_at_call 66;refine (bh (nums xs) ta tn tc ty _ (HTY.out.below hbs lrf) HTR.out HSH.out HTN.out).mono ?_;rintro e v41 ⟨g,os,rfl,hws,hnum,-,hgb,hup,hbv41⟩;have hc:BegsIn v41 g tn v4.heap.size v41.heap.size os:=⟨hws,hgb,hup,Nat.le_refl _⟩;have hzv41:v4.heap.size<=v41.heap.size:=hbv41.size;clear hws hgb hup;replace hs:=af hs hbv41 lrf;replace hbs:=hbs.trans (hbv41.mono hbs.size);clear hbv41;go_wp2_with fail;refine k_h hK (by (try dsimp only);all_goals trivial) (fun hHeld=>?_)
    clear hK K;refine em 5 7 (fun K hK=>?_) (fun K hK=>?_)
    ·refine bi (by rfl) (by rfl) ?_
     intro mp v415 hmp hm hbv415 hzv415;have HMP:Hid (mp=v41.heap.size):=hdq hmp;clear hmp;replace hzv415:v41.heap.size<v415.heap.size:=hzv415;replace hc:=hc.below hbv415;replace hs:=af hs hbv415 lrf;replace hbs:=hbs.trans (hbv415.mono hbs.size);clear hbv415;refine k_h hK (by (try dsimp only);all_goals trivial) (fun hHeld=>?_)
     clear hK K;refine t_h 6 ?_;refine r_h 7 (fun K hK=>?_);refine au (by rfl) (by rfl) ?_
     intro mb v4157 hmb hl hbv4157 hzv4157;have HMB:Hid (mb=v415.heap.size):=hdq hmb;clear hmb;replace hzv4157:v415.heap.size<v4157.heap.size:=hzv4157;replace hc:=hc.below hbv4157;replace hs:=af hs hbv4157 lrf;replace hm:=hm.below hbv4157;replace hbs:=hbs.trans (hbv4157.mono hbs.size);clear hbv4157;refine k_h hK (by (try dsimp only);all_goals trivial) (fun hHeld=>?_)
     clear hK K;refine r_h 8 (fun K hK=>?_);have c0:v4157.cell? ⟨mb,0,none⟩=some (.slice none 0 0):=by rw [ae hl];rfl
     have c1:v4157.cell? ⟨mb,1,none⟩=some (.slice none 0 0):=by rw [ae hl];rfl
     have c2:v4157.cell? ⟨mb,2,none⟩=some (.map none):=by rw [ae hl];rfl
     have c3:v4157.cell? ⟨mb,3,none⟩=some (.slice none 0 0):=by rw [ae hl];rfl
     have cf:∀j,v4157.frozen? ⟨mb,j,none⟩=false:=fun j=>frozen_of_row _ _ j _ _ hl;have e1:=HOB.out;have e2:=HMP.out;have e3:=HMB.out;have HFIN:=hdq (bd hc hs hm hl hbs (by omega) (by omega) (by omega) (by omega) (by omega) hnum)
     clear hc hs hm hl hbs hnum e1 e2 e3;go_simp;refine k_h hK (by (try dsimp only);all_goals trivial) (fun hHeld=>?_)
     clear hK K;refine wpAnyH_done (by kernel_rfl) ?_ _
     exact HREST.out g ob mp mb os _ HFIN.out
    ·refine au (by rfl) (by rfl) ?_
     intro mb v417 hmb hl hbv417 hzv417;have HMB:Hid (mb=v41.heap.size):=hdq hmb;clear hmb;replace hzv417:v41.heap.size<v417.heap.size:=hzv417;replace hc:=hc.below hbv417;replace hs:=af hs hbv417 lrf;replace hbs:=hbs.trans (hbv417.mono hbs.size);clear hbv417;refine k_h hK (by (try dsimp only);all_goals trivial) (fun hHeld=>?_)
     clear hK K;refine r_h 5 (fun K hK=>?_);refine bi (by rfl) (by rfl) ?_
     intro mp v4175 hmp hm hbv4175 hzv4175;have HMP:Hid (mp=v417.heap.size):=hdq hmp;clear hmp;replace hzv4175:v417.heap.size<v4175.heap.size:=hzv4175;replace hc:=hc.below hbv4175;replace hs:=af hs hbv4175 lrf;replace hl:=(hbv4175.block _ (hltq hl)).trans hl;replace hbs:=hbs.trans (hbv4175.mono hbs.size);clear hbv4175;refine k_h hK (by (try dsimp only);all_goals trivial) (fun hHeld=>?_)
     clear hK K;refine t_h 6 ?_;refine r_h 8 (fun K hK=>?_);have c0:v4175.cell? ⟨mb,0,none⟩=some (.slice none 0 0):=by rw [ae hl];rfl
     have c1:v4175.cell? ⟨mb,1,none⟩=some (.slice none 0 0):=by rw [ae hl];rfl
     have c2:v4175.cell? ⟨mb,2,none⟩=some (.map none):=by rw [ae hl];rfl
     have c3:v4175.cell? ⟨mb,3,none⟩=some (.slice none 0 0):=by rw [ae hl];rfl
     have cf:∀j,v4175.frozen? ⟨mb,j,none⟩=false:=fun j=>frozen_of_row _ _ j _ _ hl;have e1:=HOB.out;have e2:=HMP.out;have e3:=HMB.out;have HFIN:=hdq (bd hc hs hm hl hbs (by omega) (by omega) (by omega) (by omega) (by omega) hnum)
     clear hc hs hm hl hbs hnum e1 e2 e3;go_simp;refine k_h hK (by (try dsimp only);all_goals trivial) (fun hHeld=>?_)
     clear hK K;refine wpAnyH_done (by kernel_rfl) ?_ _
     exact HREST.out g ob mp mb os _ HFIN.out
   ·refine bi (by rfl) (by rfl) ?_
    intro mp v45 hmp hm hbv45 hzv45;have HMP:Hid (mp=v4.heap.size):=hdq hmp;clear hmp;replace hzv45:v4.heap.size<v45.heap.size:=hzv45;replace hs:=af hs hbv45 lrf;replace hbs:=hbs.trans (hbv45.mono hbs.size);clear hbv45;refine k_h hK (by (try dsimp only);all_goals trivial) (fun hHeld=>?_)
    clear hK K;refine em 1 7 (fun K hK=>?_) (fun K hK=>?_)
    ·go_simp;go_at_call 66;refine (bh (nums xs) ta tn tc ty _ (HTY.out.below hbs lrf) HTR.out HSH.out HTN.out).mono ?_;rintro e v451 ⟨g,os,rfl,hws,hnum,-,hgb,hup,hbv451⟩;have hc:BegsIn v451 g tn v45.heap.size v451.heap.size os:=⟨hws,hgb,hup,Nat.le_refl _⟩;have hzv451:v45.heap.size<=v451.heap.size:=hbv451.size;clear hws hgb hup;replace hs:=af hs hbv451 lrf;replace hm:=hm.below hbv451;replace hbs:=hbs.trans (hbv451.mono hbs.size);clear hbv451;go_wp2_with fail;refine k_h hK (by (try dsimp only);all_goals trivial) (fun hHeld=>?_)
     clear hK K;refine t_h 6 ?_;refine r_h 7 (fun K hK=>?_);refine au (by rfl) (by rfl) ?_
     intro mb v4517 hmb hl hbv4517 hzv4517;have HMB:Hid (mb=v451.heap.size):=hdq hmb;clear hmb;replace hzv4517:v451.heap.size<v4517.heap.size:=hzv4517;replace hc:=hc.below hbv4517;replace hs:=af hs hbv4517 lrf;replace hm:=hm.below hbv4517;replace hbs:=hbs.trans (hbv4517.mono hbs.size);clear hbv4517;refine k_h hK (by (try dsimp only);all_goals trivial) (fun hHeld=>?_)
     clear hK K;refine r_h 8 (fun K hK=>?_);have c0:v4517.cell? ⟨mb,0,none⟩=some (.slice none 0 0):=by rw [ae hl];rfl
     have c1:v4517.cell? ⟨mb,1,none⟩=some (.slice none 0 0):=by rw [ae hl];rfl
     have c2:v4517.cell? ⟨mb,2,none⟩=some (.map none):=by rw [ae hl];rfl
     have c3:v4517.cell? ⟨mb,3,none⟩=some (.slice none 0 0):=by rw [ae hl];rfl
     have cf:∀j,v4517.frozen? ⟨mb,j,none⟩=false:=fun j=>frozen_of_row _ _ j _ _ hl;have e1:=HOB.out;have e2:=HMP.out;have e3:=HMB.out;have HFIN:=hdq (bd hc hs hm hl hbs (by omega) (by omega) (by omega) (by omega) (by omega) hnum)
     clear hc hs hm hl hbs hnum e1 e2 e3;go_simp;refine k_h hK (by (try dsimp only);all_goals trivial) (fun hHeld=>?_)
     clear hK K;refine wpAnyH_done (by kernel_rfl) ?_ _
     exact HREST.out g ob mp mb os _ HFIN.out
    ·refine au (by rfl) (by rfl) ?_
     intro mb v457 hmb hl hbv457 hzv457;have HMB:Hid (mb=v45.heap.size):=hdq hmb;clear hmb;replace hzv457:v45.heap.size<v457.heap.size:=hzv457;replace hs:=af hs hbv457 lrf;replace hm:=hm.below hbv457;replace hbs:=hbs.trans (hbv457.mono hbs.size);clear hbv457;refine k_h hK (by (try dsimp only);all_goals trivial) (fun hHeld=>?_)
     clear hK K;refine r_h 1 (fun K hK=>?_);go_simp;go_at_call 66;refine (bh (nums xs) ta tn tc ty _ (HTY.out.below hbs lrf) HTR.out HSH.out HTN.out).mono ?_;rintro e v4571 ⟨g,os,rfl,hws,hnum,-,hgb,hup,hbv4571⟩;have hc:BegsIn v4571 g tn v457.heap.size v4571.heap.size os:=⟨hws,hgb,hup,Nat.le_refl _⟩;have hzv4571:v457.heap.size<=v4571.heap.size:=hbv4571.size;clear hws hgb hup;replace hs:=af hs hbv4571 lrf;replace hm:=hm.below hbv4571;replace hl:=(hbv4571.block _ (hltq hl)).trans hl;replace hbs:=hbs.trans (hbv4571.mono hbs.size);clear hbv4571;go_wp2_with fail;refine k_h hK (by (try dsimp only);all_goals trivial) (fun hHeld=>?_)
     clear hK K;refine t_h 6 ?_;refine r_h 8 (fun K hK=>?_);have c0:v4571.cell? ⟨mb,0,none⟩=some (.slice none 0 0):=by rw [ae hl];rfl
     have c1:v4571.cell? ⟨mb,1,none⟩=some (.slice none 0 0):=by rw [ae hl];rfl
     have c2:v4571.cell? ⟨mb,2,none⟩=some (.map none):=by rw [ae hl];rfl
     have c3:v4571.cell? ⟨mb,3,none⟩=some (.slice none 0 0):=by rw [ae hl];rfl
     have cf:∀j,v4571.frozen? ⟨mb,j,none⟩=false:=fun j=>frozen_of_row _ _ j _ _ hl;have e1:=HOB.out;have e2:=HMP.out;have e3:=HMB.out;have HFIN:=hdq (bd hc hs hm hl hbs (by omega) (by omega) (by omega) (by omega) (by omega) hnum)
     clear hc hs hm hl hbs hnum e1 e2 e3;go_simp;refine k_h hK (by (try dsimp only);all_goals trivial) (fun hHeld=>?_)
     clear hK K;refine wpAnyH_done (by kernel_rfl) ?_ _
     exact HREST.out g ob mp mb os _ HFIN.out
   ·refine au (by rfl) (by rfl) ?_
    intro mb v47 hmb hl hbv47 hzv47;have HMB:Hid (mb=v4.heap.size):=hdq hmb;clear hmb;replace hzv47:v4.heap.size<v47.heap.size:=hzv47;replace hs:=af hs hbv47 lrf;replace hbs:=hbs.trans (hbv47.mono hbs.size);clear hbv47;refine k_h hK (by (try dsimp only);all_goals trivial) (fun hHeld=>?_)
    clear hK K;refine em 1 5 (fun K hK=>?_) (fun K hK=>?_)
    ·go_simp;go_at_call 66;refine (bh (nums xs) ta tn tc ty _ (HTY.out.below hbs lrf) HTR.out HSH.out HTN.out).mono ?_;rintro e v471 ⟨g,os,rfl,hws,hnum,-,hgb,hup,hbv471⟩;have hc:BegsIn v471 g tn v47.heap.size v471.heap.size os:=⟨hws,hgb,hup,Nat.le_refl _⟩;have hzv471:v47.heap.size<=v471.heap.size:=hbv471.size;clear hws hgb hup;replace hs:=af hs hbv471 lrf;replace hl:=(hbv471.block _ (hltq hl)).trans hl;replace hbs:=hbs.trans (hbv471.mono hbs.size);clear hbv471;go_wp2_with fail;refine k_h hK (by (try dsimp only);all_goals trivial) (fun hHeld=>?_)
     clear hK K;refine r_h 5 (fun K hK=>?_);refine bi (by rfl) (by rfl) ?_
     intro mp v4715 hmp hm hbv4715 hzv4715;have HMP:Hid (mp=v471.heap.size):=hdq hmp;clear hmp;replace hzv4715:v471.heap.size<v4715.heap.size:=hzv4715;replace hc:=hc.below hbv4715;replace hs:=af hs hbv4715 lrf;replace hl:=(hbv4715.block _ (hltq hl)).trans hl;replace hbs:=hbs.trans (hbv4715.mono hbs.size);clear hbv4715;refine k_h hK (by (try dsimp only);all_goals trivial) (fun hHeld=>?_)
     clear hK K;refine t_h 6 ?_;refine r_h 8 (fun K hK=>?_);have c0:v4715.cell? ⟨mb,0,none⟩=some (.slice none 0 0):=by rw [ae hl];rfl
     have c1:v4715.cell? ⟨mb,1,none⟩=some (.slice none 0 0):=by rw [ae hl];rfl
     have c2:v4715.cell? ⟨mb,2,none⟩=some (.map none):=by rw [ae hl];rfl
     have c3:v4715.cell? ⟨mb,3,none⟩=some (.slice none 0 0):=by rw [ae hl];rfl
     have cf:∀j,v4715.frozen? ⟨mb,j,none⟩=false:=fun j=>frozen_of_row _ _ j _ _ hl;have e1:=HOB.out;have e2:=HMP.out;have e3:=HMB.out;have HFIN:=hdq (bd hc hs hm hl hbs (by omega) (by omega) (by omega) (by omega) (by omega) hnum)
     clear hc hs hm hl hbs hnum e1 e2 e3;go_simp;refine k_h hK (by (try dsimp only);all_goals trivial) (fun hHeld=>?_)
     clear hK K;refine wpAnyH_done (by kernel_rfl) ?_ _
     exact HREST.out g ob mp mb os _ HFIN.out
    ·refine bi (by rfl) (by rfl) ?_
     intro mp v475 hmp hm hbv475 hzv475;have HMP:Hid (mp=v47.heap.size):=hdq hmp;clear hmp;replace hzv475:v47.heap.size<v475.heap.size:=hzv475;replace hs:=af hs hbv475 lrf;replace hl:=(hbv475.block _ (hltq hl)).trans hl;replace hbs:=hbs.trans (hbv475.mono hbs.size);clear hbv475;refine k_h hK (by (try dsimp only);all_goals trivial) (fun hHeld=>?_)
     clear hK K;refine r_h 1 (fun K hK=>?_);go_simp;go_at_call 66;refine (bh (nums xs) ta tn tc ty _ (HTY.out.below hbs lrf) HTR.out HSH.out HTN.out).mono ?_;rintro e v4751 ⟨g,os,rfl,hws,hnum,-,hgb,hup,hbv4751⟩;have hc:BegsIn v4751 g tn v475.heap.size v4751.heap.size os:=⟨hws,hgb,hup,Nat.le_refl _⟩;have hzv4751:v475.heap.size<=v4751.heap.size:=hbv4751.size;clear hws hgb hup;replace hs:=af hs hbv4751 lrf;replace hm:=hm.below hbv4751;replace hl:=(hbv4751.block _ (hltq hl)).trans hl;replace hbs:=hbs.trans (hbv4751.mono hbs.size);clear hbv4751;go_wp2_with fail;refine k_h hK (by (try dsimp only);all_goals trivial) (fun hHeld=>?_)
     clear hK K;refine t_h 6 ?_;refine r_h 8 (fun K hK=>?_);have c0:v4751.cell? ⟨mb,0,none⟩=some (.slice none 0 0):=by rw [ae hl];rfl
     have c1:v4751.cell? ⟨mb,1,none⟩=some (.slice none 0 0):=by rw [ae hl];rfl
     have c2:v4751.cell? ⟨mb,2,none⟩=some (.map none):=by rw [ae hl];rfl
     have c3:v4751.cell? ⟨mb,3,none⟩=some (.slice none 0 0):=by rw [ae hl];rfl
     have cf:∀j,v4751.frozen? ⟨mb,j,none⟩=false:=fun j=>frozen_of_row _ _ j _ _ hl;have e1:=HOB.out;have e2:=HMP.out;have e3:=HMB.out;have HFIN:=hdq (bd hc hs hm hl hbs (by omega) (by omega) (by omega) (by omega) (by omega) hnum)
     clear hc hs hm hl hbs hnum e1 e2 e3;go_simp;refine k_h hK (by (try dsimp only);all_goals trivial) (fun hHeld=>?_)
     clear hK K;refine wpAnyH_done (by kernel_rfl) ?_ _
     exact HREST.out g ob mp mb os _ HFIN.out
  ·refine bi (by rfl) (by rfl) ?_
   intro mp v5 hmp hm hbv5 hzv5;have HMP:Hid (mp=w1.heap.size):=hdq hmp;clear hmp;replace hzv5:w1.heap.size<v5.heap.size:=hzv5;have hbs:Below w1.heap.size w1 v5:=(al (Below.refl _ w1) ⟨1,rfl⟩).trans hbv5;clear hbv5;refine k_h hK (by (try dsimp only);all_goals trivial) (fun hHeld=>?_)
   clear hK K;refine wpAnyH_ready (rs:=[1,4,7]) (by kernel_rfl) (by simp) ?_
   refine AllReadyH.cons rfl (fun K hK=>?_) (AllReadyH.cons rfl (fun K hK=>?_) (AllReadyH.cons rfl (fun K hK=>?_) AllReadyH.nil))
   ·go_simp;go_at_call 66;refine (bh (nums xs) ta tn tc ty _ (HTY.out.below hbs lrf) HTR.out HSH.out HTN.out).mono ?_;rintro e v51 ⟨g,os,rfl,hws,hnum,-,hgb,hup,hbv51⟩;have hc:BegsIn v51 g tn v5.heap.size v51.heap.size os:=⟨hws,hgb,hup,Nat.le_refl _⟩;have hzv51:v5.heap.size<=v51.heap.size:=hbv51.size;clear hws hgb hup;replace hm:=hm.below hbv51;replace hbs:=hbs.trans (hbv51.mono hbs.size);clear hbv51;go_wp2_with fail;refine k_h hK (by (try dsimp only);all_goals trivial) (fun hHeld=>?_)
    clear hK K;refine em 4 7 (fun K hK=>?_) (fun K hK=>?_)
    ·refine bf (by rfl) (.tmp 18) tn (by rfl) (by rfl) (by have:=HTN.out;omega) ?_
     intro ob v514 hob hs hbv514 hzv514;have HOB:Hid (ob=v51.heap.size):=hdq hob;clear hob;replace hzv514:v51.heap.size<v514.heap.size:=hzv514;replace hc:=hc.below hbv514;replace hm:=hm.below hbv514;replace hbs:=hbs.trans (hbv514.mono hbs.size);clear hbv514;refine k_h hK (by (try dsimp only);all_goals trivial) (fun hHeld=>?_)
     clear hK K;refine t_h 6 ?_;refine r_h 7 (fun K hK=>?_);refine au (by rfl) (by rfl) ?_
     intro mb v5147 hmb hl hbv5147 hzv5147;have HMB:Hid (mb=v514.heap.size):=hdq hmb;clear hmb;replace hzv5147:v514.heap.size<v5147.heap.size:=hzv5147;replace hc:=hc.below hbv5147;replace hs:=af hs hbv5147 lrf;replace hm:=hm.below hbv5147;replace hbs:=hbs.trans (hbv5147.mono hbs.size);clear hbv5147;refine k_h hK (by (try dsimp only);all_goals trivial) (fun hHeld=>?_)
     clear hK K;refine r_h 8 (fun K hK=>?_);have c0:v5147.cell? ⟨mb,0,none⟩=some (.slice none 0 0):=by rw [ae hl];rfl
     have c1:v5147.cell? ⟨mb,1,none⟩=some (.slice none 0 0):=by rw [ae hl];rfl
     have c2:v5147.cell? ⟨mb,2,none⟩=some (.map none):=by rw [ae hl];rfl
     have c3:v5147.cell? ⟨mb,3,none⟩=some (.slice none 0 0):=by rw [ae hl];rfl
     have cf:∀j,v5147.frozen? ⟨mb,j,none⟩=false:=fun j=>frozen_of_row _ _ j _ _ hl;have e1:=HOB.out;have e2:=HMP.out;have e3:=HMB.out;have HFIN:=hdq (bd hc hs hm hl hbs (by omega) (by omega) (by omega) (by omega) (by omega) hnum)
     clear hc hs hm hl hbs hnum e1 e2 e3;go_simp;refine k_h hK (by (try dsimp only);all_goals trivial) (fun hHeld=>?_)
     clear hK K;refine wpAnyH_done (by kernel_rfl) ?_ _
     exact HREST.out g ob mp mb os _ HFIN.out
    ·refine au (by rfl) (by rfl) ?_
     intro mb v517 hmb hl hbv517 hzv517;have HMB:Hid (mb=v51.heap.size):=hdq hmb;clear hmb;replace hzv517:v51.heap.size<v517.heap.size:=hzv517;replace hc:=hc.below hbv517;replace hm:=hm.below hbv517;replace hbs:=hbs.trans (hbv517.mono hbs.size);clear hbv517;refine k_h hK (by (try dsimp only);all_goals trivial) (fun hHeld=>?_)
     clear hK K;refine r_h 4 (fun K hK=>?_);refine bf (by rfl) (.tmp 18) tn (by rfl) (by rfl) (by have:=HTN.out;omega) ?_
     intro ob v5174 hob hs hbv5174 hzv5174;have HOB:Hid (ob=v517.heap.size):=hdq hob;clear hob;replace hzv5174:v517.heap.size<v5174.heap.size:=hzv5174;replace hc:=hc.below hbv5174;replace hm:=hm.below hbv5174;replace hl:=(hbv5174.block _ (hltq hl)).trans hl;replace hbs:=hbs.trans (hbv5174.mono hbs.size);clear hbv5174;refine k_h hK (by (try dsimp only);all_goals trivial) (fun hHeld=>?_)
     clear hK K;refine t_h 6 ?_;refine r_h 8 (fun K hK=>?_);have c0:v5174.cell? ⟨mb,0,none⟩=some (.slice none 0 0):=by rw [ae hl];rfl
     have c1:v5174.cell? ⟨mb,1,none⟩=some (.slice none 0 0):=by rw [ae hl];rfl
     have c2:v5174.cell? ⟨mb,2,none⟩=some (.map none):=by rw [ae hl];rfl
     have c3:v5174.cell? ⟨mb,3,none⟩=some (.slice none 0 0):=by rw [ae hl];rfl
     have cf:∀j,v5174.frozen? ⟨mb,j,none⟩=false:=fun j=>frozen_of_row _ _ j _ _ hl;have e1:=HOB.out;have e2:=HMP.out;have e3:=HMB.out;have HFIN:=hdq (bd hc hs hm hl hbs (by omega) (by omega) (by omega) (by omega) (by omega) hnum)
     clear hc hs hm hl hbs hnum e1 e2 e3;go_simp;refine k_h hK (by (try dsimp only);all_goals trivial) (fun hHeld=>?_)
     clear hK K;refine wpAnyH_done (by kernel_rfl) ?_ _
     exact HREST.out g ob mp mb os _ HFIN.out
   ·refine bf (by rfl) (.tmp 18) tn (by rfl) (by rfl) (by have:=HTN.out;omega) ?_
    intro ob v54 hob hs hbv54 hzv54;have HOB:Hid (ob=v5.heap.size):=hdq hob;clear hob;replace hzv54:v5.heap.size<v54.heap.size:=hzv54;replace hm:=hm.below hbv54;replace hbs:=hbs.trans (hbv54.mono hbs.size);clear hbv54;refine k_h hK (by (try dsimp only);all_goals trivial) (fun hHeld=>?_)
    clear hK K;refine em 1 7 (fun K hK=>?_) (fun K hK=>?_)
    ·go_simp;go_at_call 66;refine (bh (nums xs) ta tn tc ty _ (HTY.out.below hbs lrf) HTR.out HSH.out HTN.out).mono ?_;rintro e v541 ⟨g,os,rfl,hws,hnum,-,hgb,hup,hbv541⟩;have hc:BegsIn v541 g tn v54.heap.size v541.heap.size os:=⟨hws,hgb,hup,Nat.le_refl _⟩;have hzv541:v54.heap.size<=v541.heap.size:=hbv541.size;clear hws hgb hup;replace hs:=af hs hbv541 lrf;replace hm:=hm.below hbv541;replace hbs:=hbs.trans (hbv541.mono hbs.size);clear hbv541;go_wp2_with fail;refine k_h hK (by (try dsimp only);all_goals trivial) (fun hHeld=>?_)
     clear hK K;refine t_h 6 ?_;refine r_h 7 (fun K hK=>?_);refine au (by rfl) (by rfl) ?_
     intro mb v5417 hmb hl hbv5417 hzv5417;have HMB:Hid (mb=v541.heap.size):=hdq hmb;clear hmb;replace hzv5417:v541.heap.size<v5417.heap.size:=hzv5417;replace hc:=hc.below hbv5417;replace hs:=af hs hbv5417 lrf;replace hm:=hm.below hbv5417;replace hbs:=hbs.trans (hbv5417.mono hbs.size);clear hbv5417;refine k_h hK (by (try dsimp only);all_goals trivial) (fun hHeld=>?_)
     clear hK K;refine r_h 8 (fun K hK=>?_);have c0:v5417.cell? ⟨mb,0,none⟩=some (.slice none 0 0):=by rw [ae hl];rfl
     have c1:v5417.cell? ⟨mb,1,none⟩=some (.slice none 0 0):=by rw [ae hl];rfl
     have c2:v5417.cell? ⟨mb,2,none⟩=some (.map none):=by rw [ae hl];rfl
     have c3:v5417.cell? ⟨mb,3,none⟩=some (.slice none 0 0):=by rw [ae hl];rfl
     have cf:∀j,v5417.frozen? ⟨mb,j,none⟩=false:=fun j=>frozen_of_row _ _ j _ _ hl;have e1:=HOB.out;have e2:=HMP.out;have e3:=HMB.out;have HFIN:=hdq (bd hc hs hm hl hbs (by omega) (by omega) (by omega) (by omega) (by omega) hnum)
     clear hc hs hm hl hbs hnum e1 e2 e3;go_simp;refine k_h hK (by (try dsimp only);all_goals trivial) (fun hHeld=>?_)
     clear hK K;refine wpAnyH_done (by kernel_rfl) ?_ _
     exact HREST.out g ob mp mb os _ HFIN.out
    ·refine au (by rfl) (by rfl) ?_
     intro mb v547 hmb hl hbv547 hzv547;have HMB:Hid (mb=v54.heap.size):=hdq hmb;clear hmb;replace hzv547:v54.heap.size<v547.heap.size:=hzv547;replace hs:=af hs hbv547 lrf;replace hm:=hm.below hbv547;replace hbs:=hbs.trans (hbv547.mono hbs.size);clear hbv547;refine k_h hK (by (try dsimp only);all_goals trivial) (fun hHeld=>?_)
     clear hK K;refine r_h 1 (fun K hK=>?_);go_simp;go_at_call 66;refine (bh (nums xs) ta tn tc ty _ (HTY.out.below hbs lrf) HTR.out HSH.out HTN.out).mono ?_;rintro e v5471 ⟨g,os,rfl,hws,hnum,-,hgb,hup,hbv5471⟩;have hc:BegsIn v5471 g tn v547.heap.size v5471.heap.size os:=⟨hws,hgb,hup,Nat.le_refl _⟩;have hzv5471:v547.heap.size<=v5471.heap.size:=hbv5471.size;clear hws hgb hup;replace hs:=af hs hbv5471 lrf;replace hm:=hm.below hbv5471;replace hl:=(hbv5471.block _ (hltq hl)).trans hl;replace hbs:=hbs.trans (hbv5471.mono hbs.size);clear hbv5471;go_wp2_with fail;refine k_h hK (by (try dsimp only);all_goals trivial) (fun hHeld=>?_)
     clear hK K;refine t_h 6 ?_;refine r_h 8 (fun K hK=>?_);have c0:v5471.cell? ⟨mb,0,none⟩=some (.slice none 0 0):=by rw [ae hl];rfl
     have c1:v5471.cell? ⟨mb,1,none⟩=some (.slice none 0 0):=by rw [ae hl];rfl
     have c2:v5471.cell? ⟨mb,2,none⟩=some (.map none):=by rw [ae hl];rfl
     have c3:v5471.cell? ⟨mb,3,none⟩=some (.slice none 0 0):=by rw [ae hl];rfl
     have cf:∀j,v5471.frozen? ⟨mb,j,none⟩=false:=fun j=>frozen_of_row _ _ j _ _ hl;have e1:=HOB.out;have e2:=HMP.out;have e3:=HMB.out;have HFIN:=hdq (bd hc hs hm hl hbs (by omega) (by omega) (by omega) (by omega) (by omega) hnum)
     clear hc hs hm hl hbs hnum e1 e2 e3;go_simp;refine k_h hK (by (try dsimp only);all_goals trivial) (fun hHeld=>?_)
     clear hK K;refine wpAnyH_done (by kernel_rfl) ?_ _
     exact HREST.out g ob mp mb os _ HFIN.out
   ·refine au (by rfl) (by rfl) ?_
    intro mb v57 hmb hl hbv57 hzv57;have HMB:Hid (mb=v5.heap.size):=hdq hmb;clear hmb;replace hzv57:v5.heap.size<v57.heap.size:=hzv57;replace hm:=hm.below hbv57;replace hbs:=hbs.trans (hbv57.mono hbs.size);clear hbv57;refine k_h hK (by (try dsimp only);all_goals trivial) (fun hHeld=>?_)
    clear hK K;refine em 1 4 (fun K hK=>?_) (fun K hK=>?_)
    ·go_simp;go_at_call 66;refine (bh (nums xs) ta tn tc ty _ (HTY.out.below hbs lrf) HTR.out HSH.out HTN.out).mono ?_;rintro e v571 ⟨g,os,rfl,hws,hnum,-,hgb,hup,hbv571⟩;have hc:BegsIn v571 g tn v57.heap.size v571.heap.size os:=⟨hws,hgb,hup,Nat.le_refl _⟩;have hzv571:v57.heap.size<=v571.heap.size:=hbv571.size;clear hws hgb hup;replace hm:=hm.below hbv571;replace hl:=(hbv571.block _ (hltq hl)).trans hl;replace hbs:=hbs.trans (hbv571.mono hbs.size);clear hbv571;go_wp2_with fail;refine k_h hK (by (try dsimp only);all_goals trivial) (fun hHeld=>?_)
     clear hK K;refine r_h 4 (fun K hK=>?_);refine bf (by rfl) (.tmp 18) tn (by rfl) (by rfl) (by have:=HTN.out;omega) ?_
     intro ob v5714 hob hs hbv5714 hzv5714;have HOB:Hid (ob=v571.heap.size):=hdq hob;clear hob;replace hzv5714:v571.heap.size<v5714.heap.size:=hzv5714;replace hc:=hc.below hbv5714;replace hm:=hm.below hbv5714;replace hl:=(hbv5714.block _ (hltq hl)).trans hl;replace hbs:=hbs.trans (hbv5714.mono hbs.size);clear hbv5714;refine k_h hK (by (try dsimp only);all_goals trivial) (fun hHeld=>?_)
     clear hK K;refine t_h 6 ?_;refine r_h 8 (fun K hK=>?_);have c0:v5714.cell? ⟨mb,0,none⟩=some (.slice none 0 0):=by rw [ae hl];rfl
     have c1:v5714.cell? ⟨mb,1,none⟩=some (.slice none 0 0):=by rw [ae hl];rfl
     have c2:v5714.cell? ⟨mb,2,none⟩=some (.map none):=by rw [ae hl];rfl
     have c3:v5714.cell? ⟨mb,3,none⟩=some (.slice none 0 0):=by rw [ae hl];rfl
     have cf:∀j,v5714.frozen? ⟨mb,j,none⟩=false:=fun j=>frozen_of_row _ _ j _ _ hl;have e1:=HOB.out;have e2:=HMP.out;have e3:=HMB.out;have HFIN:=hdq (bd hc hs hm hl hbs (by omega) (by omega) (by omega) (by omega) (by omega) hnum)
     clear hc hs hm hl hbs hnum e1 e2 e3;go_simp;refine k_h hK (by (try dsimp only);all_goals trivial) (fun hHeld=>?_)
     clear hK K;refine wpAnyH_done (by kernel_rfl) ?_ _
     exact HREST.out g ob mp mb os _ HFIN.out
    ·refine bf (by rfl) (.tmp 18) tn (by rfl) (by rfl) (by have:=HTN.out;omega) ?_
     intro ob v574 hob hs hbv574 hzv574;have HOB:Hid (ob=v57.heap.size):=hdq hob;clear hob;replace hzv574:v57.heap.size<v574.heap.size:=hzv574;replace hm:=hm.below hbv574;replace hl:=(hbv574.block _ (hltq hl)).trans hl;replace hbs:=hbs.trans (hbv574.mono hbs.size);clear hbv574;refine k_h hK (by (try dsimp only);all_goals trivial) (fun hHeld=>?_)
     clear hK K;refine r_h 1 (fun K hK=>?_);go_simp;go_at_call 66;refine (bh (nums xs) ta tn tc ty _ (HTY.out.below hbs lrf) HTR.out HSH.out HTN.out).mono ?_;rintro e v5741 ⟨g,os,rfl,hws,hnum,-,hgb,hup,hbv5741⟩;have hc:BegsIn v5741 g tn v574.heap.size v5741.heap.size os:=⟨hws,hgb,hup,Nat.le_refl _⟩;have hzv5741:v574.heap.size<=v5741.heap.size:=hbv5741.size;clear hws hgb hup;replace hs:=af hs hbv5741 lrf;replace hm:=hm.below hbv5741;replace hl:=(hbv5741.block _ (hltq hl)).trans hl;replace hbs:=hbs.trans (hbv5741.mono hbs.size);clear hbv5741;go_wp2_with fail;refine k_h hK (by (try dsimp only);all_goals trivial) (fun hHeld=>?_)
     clear hK K;refine t_h 6 ?_;refine r_h 8 (fun K hK=>?_);have c0:v5741.cell? ⟨mb,0,none⟩=some (.slice none 0 0):=by rw [ae hl];rfl
     have c1:v5741.cell? ⟨mb,1,none⟩=some (.slice none 0 0):=by rw [ae hl];rfl
     have c2:v5741.cell? ⟨mb,2,none⟩=some (.map none):=by rw [ae hl];rfl
     have c3:v5741.cell? ⟨mb,3,none⟩=some (.slice none 0 0):=by rw [ae hl];rfl
     have cf:∀j,v5741.frozen? ⟨mb,j,none⟩=false:=fun j=>frozen_of_row _ _ j _ _ hl;have e1:=HOB.out;have e2:=HMP.out;have e3:=HMB.out;have HFIN:=hdq (bd hc hs hm hl hbs (by omega) (by omega) (by omega) (by omega) (by omega) hnum)
     clear hc hs hm hl hbs hnum e1 e2 e3;go_simp;refine k_h hK (by (try dsimp only);all_goals trivial) (fun hHeld=>?_)
     clear hK K;refine wpAnyH_done (by kernel_rfl) ?_ _
     exact HREST.out g ob mp mb os _ HFIN.out
  ·refine au (by rfl) (by rfl) ?_
   intro mb v7 hmb hl hbv7 hzv7;have HMB:Hid (mb=w1.heap.size):=hdq hmb;clear hmb;replace hzv7:w1.heap.size<v7.heap.size:=hzv7;have hbs:Below w1.heap.size w1 v7:=(al (Below.refl _ w1) ⟨1,rfl⟩).trans hbv7;clear hbv7;refine k_h hK (by (try dsimp only);all_goals trivial) (fun hHeld=>?_)
   clear hK K;refine wpAnyH_ready (rs:=[1,4,5]) (by kernel_rfl) (by simp) ?_
   refine AllReadyH.cons rfl (fun K hK=>?_) (AllReadyH.cons rfl (fun K hK=>?_) (AllReadyH.cons rfl (fun K hK=>?_) AllReadyH.nil))
   ·go_simp;go_at_call 66;refine (bh (nums xs) ta tn tc ty _ (HTY.out.below hbs lrf) HTR.out HSH.out HTN.out).mono ?_;rintro e v71 ⟨g,os,rfl,hws,hnum,-,hgb,hup,hbv71⟩;have hc:BegsIn v71 g tn v7.heap.size v71.heap.size os:=⟨hws,hgb,hup,Nat.le_refl _⟩;have hzv71:v7.heap.size<=v71.heap.size:=hbv71.size;clear hws hgb hup;replace hl:=(hbv71.block _ (hltq hl)).trans hl;replace hbs:=hbs.trans (hbv71.mono hbs.size);clear hbv71;go_wp2_with fail;refine k_h hK (by (try dsimp only);all_goals trivial) (fun hHeld=>?_)
    clear hK K;refine em 4 5 (fun K hK=>?_) (fun K hK=>?_)
    ·refine bf (by rfl) (.tmp 18) tn (by rfl) (by rfl) (by have:=HTN.out;omega) ?_
     intro ob v714 hob hs hbv714 hzv714;have HOB:Hid (ob=v71.heap.size):=hdq hob;clear hob;replace hzv714:v71.heap.size<v714.heap.size:=hzv714;replace hc:=hc.below hbv714;replace hl:=(hbv714.block _ (hltq hl)).trans hl;replace hbs:=hbs.trans (hbv714.mono hbs.size);clear hbv714;refine k_h hK (by (try dsimp only);all_goals trivial) (fun hHeld=>?_)
     clear hK K;refine r_h 5 (fun K hK=>?_);refine bi (by rfl) (by rfl) ?_
     intro mp v7145 hmp hm hbv7145 hzv7145;have HMP:Hid (mp=v714.heap.size):=hdq hmp;clear hmp;replace hzv7145:v714.heap.size<v7145.heap.size:=hzv7145;replace hc:=hc.below hbv7145;replace hs:=af hs hbv7145 lrf;replace hl:=(hbv7145.block _ (hltq hl)).trans hl;replace hbs:=hbs.trans (hbv7145.mono hbs.size);clear hbv7145;refine k_h hK (by (try dsimp only);all_goals trivial) (fun hHeld=>?_)
     clear hK K;refine t_h 6 ?_;refine r_h 8 (fun K hK=>?_);have c0:v7145.cell? ⟨mb,0,none⟩=some (.slice none 0 0):=by rw [ae hl];rfl
     have c1:v7145.cell? ⟨mb,1,none⟩=some (.slice none 0 0):=by rw [ae hl];rfl
     have c2:v7145.cell? ⟨mb,2,none⟩=some (.map none):=by rw [ae hl];rfl
     have c3:v7145.cell? ⟨mb,3,none⟩=some (.slice none 0 0):=by rw [ae hl];rfl
     have cf:∀j,v7145.frozen? ⟨mb,j,none⟩=false:=fun j=>frozen_of_row _ _ j _ _ hl;have e1:=HOB.out;have e2:=HMP.out;have e3:=HMB.out;have HFIN:=hdq (bd hc hs hm hl hbs (by omega) (by omega) (by omega) (by omega) (by omega) hnum)
     clear hc hs hm hl hbs hnum e1 e2 e3;go_simp;refine k_h hK (by (try dsimp only);all_goals trivial) (fun hHeld=>?_)
     clear hK K;refine wpAnyH_done (by kernel_rfl) ?_ _
     exact HREST.out g ob mp mb os _ HFIN.out
    ·refine bi (by rfl) (by rfl) ?_
     intro mp v715 hmp hm hbv715 hzv715;have HMP:Hid (mp=v71.heap.size):=hdq hmp;clear hmp;replace hzv715:v71.heap.size<v715.heap.size:=hzv715;replace hc:=hc.below hbv715;replace hl:=(hbv715.block _ (hltq hl)).trans hl;replace hbs:=hbs.trans (hbv715.mono hbs.size);clear hbv715;refine k_h hK (by (try dsimp only);all_goals trivial) (fun hHeld=>?_)
     clear hK K;refine r_h 4 (fun K hK=>?_);refine bf (by rfl) (.tmp 18) tn (by rfl) (by rfl) (by have:=HTN.out;omega) ?_
     intro ob v7154 hob hs hbv7154 hzv7154;have HOB:Hid (ob=v715.heap.size):=hdq hob;clear hob;replace hzv7154:v715.heap.size<v7154.heap.size:=hzv7154;replace hc:=hc.below hbv7154;replace hm:=hm.below hbv7154;replace hl:=(hbv7154.block _ (hltq hl)).trans hl;replace hbs:=hbs.trans (hbv7154.mono hbs.size);clear hbv7154;refine k_h hK (by (try dsimp only);all_goals trivial) (fun hHeld=>?_)
     clear hK K;refine t_h 6 ?_;refine r_h 8 (fun K hK=>?_);have c0:v7154.cell? ⟨mb,0,none⟩=some (.slice none 0 0):=by rw [ae hl];rfl
     have c1:v7154.cell? ⟨mb,1,none⟩=some (.slice none 0 0):=by rw [ae hl];rfl
     have c2:v7154.cell? ⟨mb,2,none⟩=some (.map none):=by rw [ae hl];rfl
     have c3:v7154.cell? ⟨mb,3,none⟩=some (.slice none 0 0):=by rw [ae hl];rfl
     have cf:∀j,v7154.frozen? ⟨mb,j,none⟩=false:=fun j=>frozen_of_row _ _ j _ _ hl;have e1:=HOB.out;have e2:=HMP.out;have e3:=HMB.out;have HFIN:=hdq (bd hc hs hm hl hbs (by omega) (by omega) (by omega) (by omega) (by omega) hnum)
     clear hc hs hm hl hbs hnum e1 e2 e3;go_simp;refine k_h hK (by (try dsimp only);all_goals trivial) (fun hHeld=>?_)
     clear hK K;refine wpAnyH_done (by kernel_rfl) ?_ _
     exact HREST.out g ob mp mb os _ HFIN.out
   ·refine bf (by rfl) (.tmp 18) tn (by rfl) (by rfl) (by have:=HTN.out;omega) ?_
    intro ob v74 hob hs hbv74 hzv74;have HOB:Hid (ob=v7.heap.size):=hdq hob;clear hob;replace hzv74:v7.heap.size<v74.heap.size:=hzv74;replace hl:=(hbv74.block _ (hltq hl)).trans hl;replace hbs:=hbs.trans (hbv74.mono hbs.size);clear hbv74;refine k_h hK (by (try dsimp only);all_goals trivial) (fun hHeld=>?_)
    clear hK K;refine em 1 5 (fun K hK=>?_) (fun K hK=>?_)
    ·go_simp;go_at_call 66;refine (bh (nums xs) ta tn tc ty _ (HTY.out.below hbs lrf) HTR.out HSH.out HTN.out).mono ?_;rintro e v741 ⟨g,os,rfl,hws,hnum,-,hgb,hup,hbv741⟩;have hc:BegsIn v741 g tn v74.heap.size v741.heap.size os:=⟨hws,hgb,hup,Nat.le_refl _⟩;have hzv741:v74.heap.size<=v741.heap.size:=hbv741.size;clear hws hgb hup;replace hs:=af hs hbv741 lrf;replace hl:=(hbv741.block _ (hltq hl)).trans hl;replace hbs:=hbs.trans (hbv741.mono hbs.size);clear hbv741;go_wp2_with fail;refine k_h hK (by (try dsimp only);all_goals trivial) (fun hHeld=>?_)
     clear hK K;refine r_h 5 (fun K hK=>?_);refine bi (by rfl) (by rfl) ?_
     intro mp v7415 hmp hm hbv7415 hzv7415;have HMP:Hid (mp=v741.heap.size):=hdq hmp;clear hmp;replace hzv7415:v741.heap.size<v7415.heap.size:=hzv7415;replace hc:=hc.below hbv7415;replace hs:=af hs hbv7415 lrf;replace hl:=(hbv7415.block _ (hltq hl)).trans hl;replace hbs:=hbs.trans (hbv7415.mono hbs.size);clear hbv7415;refine k_h hK (by (try dsimp only);all_goals trivial) (fun hHeld=>?_)
     clear hK K;refine t_h 6 ?_;refine r_h 8 (fun K hK=>?_);have c0:v7415.cell? ⟨mb,0,none⟩=some (.slice none 0 0):=by rw [ae hl];rfl
     have c1:v7415.cell? ⟨mb,1,none⟩=some (.slice none 0 0):=by rw [ae hl];rfl
     have c2:v7415.cell? ⟨mb,2,none⟩=some (.map none):=by rw [ae hl];rfl
     have c3:v7415.cell? ⟨mb,3,none⟩=some (.slice none 0 0):=by rw [ae hl];rfl
     have cf:∀j,v7415.frozen? ⟨mb,j,none⟩=false:=fun j=>frozen_of_row _ _ j _ _ hl;have e1:=HOB.out;have e2:=HMP.out;have e3:=HMB.out;have HFIN:=hdq (bd hc hs hm hl hbs (by omega) (by omega) (by omega) (by omega) (by omega) hnum)
     clear hc hs hm hl hbs hnum e1 e2 e3;go_simp;refine k_h hK (by (try dsimp only);all_goals trivial) (fun hHeld=>?_)
     clear hK K;refine wpAnyH_done (by kernel_rfl) ?_ _
     exact HREST.out g ob mp mb os _ HFIN.out
    ·refine bi (by rfl) (by rfl) ?_
     intro mp v745 hmp hm hbv745 hzv745;have HMP:Hid (mp=v74.heap.size):=hdq hmp;clear hmp;replace hzv745:v74.heap.size<v745.heap.size:=hzv745;replace hs:=af hs hbv745 lrf;replace hl:=(hbv745.block _ (hltq hl)).trans hl;replace hbs:=hbs.trans (hbv745.mono hbs.size);clear hbv745;refine k_h hK (by (try dsimp only);all_goals trivial) (fun hHeld=>?_)
     clear hK K;refine r_h 1 (fun K hK=>?_);go_simp;go_at_call 66;refine (bh (nums xs) ta tn tc ty _ (HTY.out.below hbs lrf) HTR.out HSH.out HTN.out).mono ?_;rintro e v7451 ⟨g,os,rfl,hws,hnum,-,hgb,hup,hbv7451⟩;have hc:BegsIn v7451 g tn v745.heap.size v7451.heap.size os:=⟨hws,hgb,hup,Nat.le_refl _⟩;have hzv7451:v745.heap.size<=v7451.heap.size:=hbv7451.size;clear hws hgb hup;replace hs:=af hs hbv7451 lrf;replace hm:=hm.below hbv7451;replace hl:=(hbv7451.block _ (hltq hl)).trans hl;replace hbs:=hbs.trans (hbv7451.mono hbs.size);clear hbv7451;go_wp2_with fail;refine k_h hK (by (try dsimp only);all_goals trivial) (fun hHeld=>?_)
     clear hK K;refine t_h 6 ?_;refine r_h 8 (fun K hK=>?_);have c0:v7451.cell? ⟨mb,0,none⟩=some (.slice none 0 0):=by rw [ae hl];rfl
     have c1:v7451.cell? ⟨mb,1,none⟩=some (.slice none 0 0):=by rw [ae hl];rfl
     have c2:v7451.cell? ⟨mb,2,none⟩=some (.map none):=by rw [ae hl];rfl
     have c3:v7451.cell? ⟨mb,3,none⟩=some (.slice none 0 0):=by rw [ae hl];rfl
     have cf:∀j,v7451.frozen? ⟨mb,j,none⟩=false:=fun j=>frozen_of_row _ _ j _ _ hl;have e1:=HOB.out;have e2:=HMP.out;have e3:=HMB.out;have HFIN:=hdq (bd hc hs hm hl hbs (by omega) (by omega) (by omega) (by omega) (by omega) hnum)
     clear hc hs hm hl hbs hnum e1 e2 e3;go_simp;refine k_h hK (by (try dsimp only);all_goals trivial) (fun hHeld=>?_)
     clear hK K;refine wpAnyH_done (by kernel_rfl) ?_ _
     exact HREST.out g ob mp mb os _ HFIN.out
   ·refine bi (by rfl) (by rfl) ?_
    intro mp v75 hmp hm hbv75 hzv75;have HMP:Hid (mp=v7.heap.size):=hdq hmp;clear hmp;replace hzv75:v7.heap.size<v75.heap.size:=hzv75;replace hl:=(hbv75.block _ (hltq hl)).trans hl;replace hbs:=hbs.trans (hbv75.mono hbs.size);clear hbv75;refine k_h hK (by (try dsimp only);all_goals trivial) (fun hHeld=>?_)
    clear hK K;refine em 1 4 (fun K hK=>?_) (fun K hK=>?_)
    ·go_simp;go_at_call 66;refine (bh (nums xs) ta tn tc ty _ (HTY.out.below hbs lrf) HTR.out HSH.out HTN.out).mono ?_;rintro e v751 ⟨g,os,rfl,hws,hnum,-,hgb,hup,hbv751⟩;have hc:BegsIn v751 g tn v75.heap.size v751.heap.size os:=⟨hws,hgb,hup,Nat.le_refl _⟩;have hzv751:v75.heap.size<=v751.heap.size:=hbv751.size;clear hws hgb hup;replace hm:=hm.below hbv751;replace hl:=(hbv751.block _ (hltq hl)).trans hl;replace hbs:=hbs.trans (hbv751.mono hbs.size);clear hbv751;go_wp2_with fail;refine k_h hK (by (try dsimp only);all_goals trivial) (fun hHeld=>?_)
     clear hK K;refine r_h 4 (fun K hK=>?_);refine bf (by rfl) (.tmp 18) tn (by rfl) (by rfl) (by have:=HTN.out;omega) ?_
     intro ob v7514 hob hs hbv7514 hzv7514;have HOB:Hid (ob=v751.heap.size):=hdq hob;clear hob;replace hzv7514:v751.heap.size<v7514.heap.size:=hzv7514;replace hc:=hc.below hbv7514;replace hm:=hm.below hbv7514;replace hl:=(hbv7514.block _ (hltq hl)).trans hl;replace hbs:=hbs.trans (hbv7514.mono hbs.size);clear hbv7514;refine k_h hK (by (try dsimp only);all_goals trivial) (fun hHeld=>?_)
     clear hK K;refine t_h 6 ?_;refine r_h 8 (fun K hK=>?_);have c0:v7514.cell? ⟨mb,0,none⟩=some (.slice none 0 0):=by rw [ae hl];rfl
     have c1:v7514.cell? ⟨mb,1,none⟩=some (.slice none 0 0):=by rw [ae hl];rfl
     have c2:v7514.cell? ⟨mb,2,none⟩=some (.map none):=by rw [ae hl];rfl
     have c3:v7514.cell? ⟨mb,3,none⟩=some (.slice none 0 0):=by rw [ae hl];rfl
     have cf:∀j,v7514.frozen? ⟨mb,j,none⟩=false:=fun j=>frozen_of_row _ _ j _ _ hl;have e1:=HOB.out;have e2:=HMP.out;have e3:=HMB.out;have HFIN:=hdq (bd hc hs hm hl hbs (by omega) (by omega) (by omega) (by omega) (by omega) hnum)
     clear hc hs hm hl hbs hnum e1 e2 e3;go_simp;refine k_h hK (by (try dsimp only);all_goals trivial) (fun hHeld=>?_)
     clear hK K;refine wpAnyH_done (by kernel_rfl) ?_ _
     exact HREST.out g ob mp mb os _ HFIN.out
    ·refine bf (by rfl) (.tmp 18) tn (by rfl) (by rfl) (by have:=HTN.out;omega) ?_
     intro ob v754 hob hs hbv754 hzv754;have HOB:Hid (ob=v75.heap.size):=hdq hob;clear hob;replace hzv754:v75.heap.size<v754.heap.size:=hzv754;replace hm:=hm.below hbv754;replace hl:=(hbv754.block _ (hltq hl)).trans hl;replace hbs:=hbs.trans (hbv754.mono hbs.size);clear hbv754;refine k_h hK (by (try dsimp only);all_goals trivial) (fun hHeld=>?_)
     clear hK K;refine r_h 1 (fun K hK=>?_);go_simp;go_at_call 66;refine (bh (nums xs) ta tn tc ty _ (HTY.out.below hbs lrf) HTR.out HSH.out HTN.out).mono ?_;rintro e v7541 ⟨g,os,rfl,hws,hnum,-,hgb,hup,hbv7541⟩;have hc:BegsIn v7541 g tn v754.heap.size v7541.heap.size os:=⟨hws,hgb,hup,Nat.le_refl _⟩;have hzv7541:v754.heap.size<=v7541.heap.size:=hbv7541.size;clear hws hgb hup;replace hs:=af hs hbv7541 lrf;replace hm:=hm.below hbv7541;replace hl:=(hbv7541.block _ (hltq hl)).trans hl;replace hbs:=hbs.trans (hbv7541.mono hbs.size);clear hbv7541;go_wp2_with fail;refine k_h hK (by (try dsimp only);all_goals trivial) (fun hHeld=>?_)
     clear hK K;refine t_h 6 ?_;refine r_h 8 (fun K hK=>?_);have c0:v7541.cell? ⟨mb,0,none⟩=some (.slice none 0 0):=by rw [ae hl];rfl
     have c1:v7541.cell? ⟨mb,1,none⟩=some (.slice none 0 0):=by rw [ae hl];rfl
     have c2:v7541.cell? ⟨mb,2,none⟩=some (.map none):=by rw [ae hl];rfl
     have c3:v7541.cell? ⟨mb,3,none⟩=some (.slice none 0 0):=by rw [ae hl];rfl
     have cf:∀j,v7541.frozen? ⟨mb,j,none⟩=false:=fun j=>frozen_of_row _ _ j _ _ hl;have e1:=HOB.out;have e2:=HMP.out;have e3:=HMB.out;have HFIN:=hdq (bd hc hs hm hl hbs (by omega) (by omega) (by omega) (by omega) (by omega) hnum)
     clear hc hs hm hl hbs hnum e1 e2 e3;go_simp;refine k_h hK (by (try dsimp only);all_goals trivial) (fun hHeld=>?_)
     clear hK K;refine wpAnyH_done (by kernel_rfl) ?_ _
     exact HREST.out g ob mp mb os _ HFIN.out
 ·have hne:(er != 0)=true:=by simpa using her
  have hgg:g=([],er):=by rw [<-HG.out];unfold dmade;rw [<-HER.out];simp [her]
  subst hgg;clear her;go_wp2;go_ret2;exact ⟨none,0,0,[],rfl,Ss.nil,rfl,fun _=>rfl,HB1.out⟩
end Go.Proofs.YtkiamgcpcneggaaGreat
