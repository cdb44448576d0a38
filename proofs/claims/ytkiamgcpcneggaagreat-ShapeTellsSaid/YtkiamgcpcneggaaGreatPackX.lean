import Derived.Test.YtkiamgcpcneggaaGreatPackU
import Derived.Test.YtkiamgcpcneggaaGreatPackAB
set_option linter.all false
set_option maxRecDepth 100000
set_option maxHeartbeats 12800000
namespace Go.Proofs.YtkiamgcpcneggaaGreat
section
open Go.RowKit Tri Wlk

theorem ait {w:World} {B:Nat} {a:OAd} {k c m:Nat} {zs:LIn} {v:Int} (h:w.ownsRow B 3 1 (.slice a k c) k (ay zs)) (hl:zs.length=k) (hm:m<k) (hv:zs.getD m 0=v) :
 ∃g,a=some ⟨g,0,none⟩/\w.cell? ⟨g,m,none⟩=some (.int .i64 v):=by
 obtain ⟨g,cap',cur,e,_⟩:=h.2.resolve_left (by rintro ⟨_,h⟩;omega);simp only [Value.slice.injEq] at e;refine ⟨g,e.1,?_⟩;rw [e.1] at h;rw [h.cellAt m omg,<-hv];unfold ay;simp [show m<zs.length by omega]
theorem WG (w:World) (z:Int):(w.alloc (.cells #[.int .i64 z] 3)).ownsRow w.heap.size 3 1 (.slice (some ⟨w.heap.size,0,none⟩) 1 1) 1 (ay [z]) :=
 ⟨rfl,.inr ⟨w.heap.size,1,#[.int .i64 z],rfl,Nat.le_refl _,han w _,Nat.le_refl _,by unfold maxLen;omega,rfl,rfl⟩⟩

theorem Oe (t:Nat) (h:t<=10000):(Lit.int .i64 (t:Int)).wf=true:=WalkArith.wf_i64 omg
theorem aiu (w:World) (z:Int) (hz:(Lit.int .i64 z).wf=true):Sl .i64 (w.alloc (.cells #[.int .i64 z] 3)) (some ⟨w.heap.size,0,none⟩) 1 1 [z] :=
 Sl.of_owns (WG w z) (by simpa using hz) rfl

theorem aiv {l:List St} (hc:check l=true) (a b:OAd) (n cap m cap2:Nat) (xs:List Sw) (zs:LIn) (w:World) (hx:Ss w a n cap xs) (hxs:sts xs=l) (hz:Sl .i64 w b m cap2 zs) :
 Calls Tryz.prog 56 #[.slice a n cap,.slice b m cap2] w fun e w'=>∃a' k c',e=.returned (.slice a' k c')/\(Wlk.along l 0 zs).length=k /\
  w'.ownsRow w.heap.size 3 1 (.slice a' k c') k (ay (Wlk.along l 0 zs))/\Below w.heap.size w w':=by
 have hn:l.length=n:=by rw [<-hxs,fq];exact hx.1
 have hN:=jo hc;have hmc:=hz.2.1;have hmm:=hz.2.2.1;unfold maxLen at hmm;have HX:=hdq hx;have HZ:=hdq hz;have fw:Hid (zs.length=m):=hdq hz.1;have HST:Hid (∀t z,Tri.step (sts xs) t z=Tri.step l t z):=hdq fun t z=>by rw [hxs]
 have uY:Hid (∀(t:Nat) (z:Int),t<n->(Tri.step l (t:Int) z).2=true->(t:Int)<(Tri.step l (t:Int) z).1/\(Tri.step l (t:Int) z).1<(n:Int)):=hdq fun t z ht h=>by
  have:=step_lt hc omg h;omega
 have HB0:∀o,Hid (Below w.heap.size w (w.alloc o)):=fun o=>hdq ((Below.refl _ w).alloc lrf o);have hn1:1<=n:=omg;have hn2:n<=6001:=omg;clear hx hz hxs hc hN hn;go_enter Tryz.func56,Tryz.ntmps56;go_wp2;go_step3;go_wp2;go_step3;go_wp2
 go_loopw [5,13] (fun ov ix wr=>∃(i t:Nat) (pre:LIn) (o':OAd) (oc:Nat),i<=m/\i<=t/\t<n/\ix=.int .i64 (i:Int)/\ov=.slice o' (i+1) oc/\Hid (pre.length=i)/\Hid (Wlk.along l 0 zs=pre++Wlk.along l (t:Int) (zs.drop i)) /\
  Hid (wr.ownsRow w.heap.size 3 1 (.slice o' (i+1) oc) (i+1) (ay (pre++[(t:Int)])))/\Hid (Below w.heap.size w wr)) (fun _ ix _=>m-(intOf ix).toNat)
 case atStart=>exact ⟨0,0,[],_,_,Nat.zero_le _,Nat.le_refl _,by omega,rfl,rfl,rfl,rfl,WG w 0,(HB0 _).out⟩
 case round =>
  obtain ⟨i,t,pre,o',oc,him,hit,htn,rfl,rfl,fH,fG,HO,HW⟩:=hrel;by_cases hlt:i<m
  ·have bB:(i:Int)<(m:Int):=omg;obtain ⟨b1,o1,rfl,hb1,hc1⟩:=(HZ.out.below HW.out lrf).at omg;have hz1:=hc1 i hlt;obtain ⟨z,hz⟩:∃z,z=zs.getD i 0:=⟨_,rfl⟩;rw [<-hz] at hz1
   have hd:zs.drop i=z::zs.drop (i+1):=by
    have hi:i<zs.length:=by rw [fw.out];exact hlt
    rw [List.drop_eq_getElem_cons hi,hz];simp [hi]
   obtain ⟨g,rfl,hg1⟩:∃g,o'=some ⟨g,0,none⟩/\wr.cell? ⟨g,i,none⟩=some (.int .i64 (t:Int)):=by
    obtain ⟨g,cap',cur,e,_⟩:=HO.out.2.resolve_left (by rintro ⟨_,h⟩;omega);simp only [Value.slice.injEq] at e;refine ⟨g,e.1,?_⟩;have:=HO.out;rw [e.1] at this;rw [this.cellAt i omg];unfold ay;simp [fH.out]
   obtain ⟨r,hr⟩:∃r,Tri.step l (t:Int) z=r:=⟨_,rfl⟩;obtain ⟨to,leads⟩:=r;have HR:=hdq hr
   have EO:Hid (Wlk.along l 0 zs=pre++((t:Int)::if leads=true then Wlk.along l to (zs.drop (i+1)) else [])):=hdq (by
    rw [fG.out,hd,Wlk.along,hr])
   have Km:∀w',Below wr.heap.size wr w'->w'.ownsRow w.heap.size 3 1 (.slice (some ⟨g,0,none⟩) (i+1) oc) (i+1) (ay (pre++[(t:Int)])):=fun w' hb=>ownsRow_below HO.out hb lrf;have vk:=hdq Km;clear hc1 hd Km hz hr fG;cases leads
   ·simp only [Bool.false_eq_true,if_false] at EO;go_wp2_with (go_at_call 104;refine (VA a n cap xs (t:Int) z (to,false) _ (HX.out.below HW.out lrf) (Oe _ omg) ((HST.out _ _).trans HR.out)).mono ?_;rintro e w' ⟨rfl,hb'⟩)
    try rw [Exit.noGoto_ret]
    go_ret;refine ⟨_,_,_,rfl,?_,?_,HW.out.trans (hb'.mono HW.out.size)⟩
    ·rw [EO.out,List.length_append,fH.out];rfl
    ·rw [EO.out];exact vk.out _ hb'
   ·simp only [if_true] at EO;obtain ⟨l1,l2⟩:=uY.out t z htn (by rw [HR.out]);rw [HR.out] at l1 l2;simp only at l1 l2;obtain ⟨u,rfl⟩:∃u:Nat,to=(u:Int):=⟨to.toNat,by omega⟩
    go_wp2_with (first
     | (go_at_call 104;refine (VA a n cap xs (t:Int) z ((u:Int),true) _ (HX.out.below HW.out lrf) (Oe _ omg) ((HST.out _ _).trans HR.out)).mono ?_;rintro e w' ⟨rfl,hb'⟩)
     | (at_builtin;refine MM rfq (.tmp 28) (.tmp 30) rfq w.heap.size _ (i+1) (pre++[(t:Int)]) rfq ((vk.out _ hb').alloc _) (some ⟨w'.heap.size,0,none⟩) 1 1 [(u:Int)] rfq (aiu w' (u:Int) (Oe _ omg)) smp (i+2) omg omg (by have:=HW.out.size;have:=hb'.size;simp;omega) ?_;intro a' c' w6 hown hb hnil;have jq:=hdq hown;have bZ:=hdq hb;clear hown hb hnil))
    try rw [Exit.noGoto_ret]
    refine ⟨⟨i+1,u,pre++[(t:Int)],a',c',by omega,by omega,by omega,by go_num,rfl,?_,?_,?_,?_⟩,by simp [intOf];omega⟩
    ·show _=_;rw [List.length_append,fH.out];rfl
    ·show _=_;rw [EO.out,List.append_assoc];rfl
    ·exact jq.out
    ·exact (((HW.out.trans (hb'.mono HW.out.size)).alloc (Nat.le_trans HW.out.size hb'.size) _).trans (bZ.out.mono lrf))
  ·have hnot:¬(i:Int)<(m:Int):=omg;have hd:zs.drop i=[]:=List.drop_eq_nil_of_le (by rw [fw.out];omega);have qA:Hid (Wlk.along l 0 zs=pre++[(t:Int)]):=hdq (by rw [fG.out,hd];rfl);clear hd;go_wp2
   try rw [Exit.noGoto_ret]
   go_ret;exact ⟨_,_,_,rfl,by rw [qA.out,List.length_append,fH.out];rfl,by rw [qA.out];exact HO.out,HW.out⟩
end
section
theorem z10 {P:Prop} (h:P:=by
 rw [iE,<-hst,gdq,geg (by rw [hx.1];exact hk),Option.getD_some];exact List.getElem_mem _):P:=h
open Go.RowKit Tri Wlk

theorem aiz (l:List St) (i:Nat) {b:Bool} (h:(l.getD i St.no).final=b):((min (upA l i 0).length 301:Nat):Int)=if b then 1 else 0:=by
 rw [DT,h];cases b<;>rfl
theorem aiA (l:List St) (i:Nat) {b:Bool} (h:(l.getD i St.no).final=b):dp (upA l i 0)=if b then 0 else -1:=by
 rw [DT,h];cases b<;>rfl

theorem aiB {l:List St} (hc:check l=true) (i:Nat) (hi:i<l.length) (x:Sw) (hxs:l.getD i St.no=x.st) (pa:OAd) (pn pc:Nat) (ps:LIn) (w:World) (hx:x.Good w) (hp:Sl .i64 w pa pn pc ps) (hpn:pn=l.length)
 (hps:∀j,i<j->j<l.length->ps.getD j 0=(mny l j:Int)) :
 Calls Tryz.prog 108 #[.agg #[.bool x.fin,.slice x.a x.n x.cap],.slice pa pn pc] w fun e w'=>e=.returned (.int .i64 (mny l i:Int))/\Below w.heap.size w w':=by
 obtain ⟨fin,a,n,cap,arcs⟩:=x;simp only [Sw.Good] at hx;have hnc:=hx.2.1;have hcm:=hx.2.2.1;have hpc:=hp.2.1;have hpm:=hp.2.2.1;unfold maxLen at hcm hpm;have hfin:(l.getD i St.no).final=fin:=by rw [hxs];rfl
 have iE:(l.getD i St.no).arcs=arcs:=by rw [hxs];rfl
 have HF:=hdq (aiz l i hfin);have HX:=hdq hx;have HP:=hdq hp;have HL:Hid ((l.getD i St.no).arcs.length=n):=by show _=_;rw [iE];exact hx.1
 have mK:Hid (∀k,k<n->∀s t,arcs.getD k (0,0)=(s,t)->∃u:Nat,t=(u:Int)/\u<pn/\ps.getD u 0=(mny l u:Int)/\min (upA l i (k+1)).length 301=min (min (upA l i k).length 301+mny l u) 301):=hdq fun k hk s t hst=>by
  have hm:(s,t)∈(l.getD i St.no).arcs:=by
   exact z10
  obtain ⟨_,h2,h3⟩:=(ik hc hi).1 _ hm;simp only at h2 h3;obtain ⟨u,rfl⟩:∃u:Nat,t=(u:Int):=⟨t.toNat,by omega⟩;refine ⟨u,rfl,by omega,hps u omg omg,?_⟩;have:=Wv l i (k:=k) (a:=(s,(u:Int))) (by rw [iE,hx.1];exact hk) (by rw [iE];exact hst);rw [Int.toNat_natCast] at this;exact this
 have HE:Hid (min (upA l i n).length 301=mny l i):=by
  show _=_;rw [<-hx.1,<-iE,DU hc hi];rfl
 have HB0:∀o,Hid (Below w.heap.size w (w.alloc o)):=fun o=>hdq ((Below.refl _ w).alloc lrf o);have HM:∀u,Hid (mny l u<=301):=fun u=>by show _<=_;unfold mny;omega
 clear hx hp hfin iE hps hxs hpn hi hc;cases fin
 all_goals
  simp only [if_true,if_false,Bool.false_eq_true] at HF;go_enter Tryz.func108,Tryz.ntmps108;go_wp2;go_loopw [5,13] (fun mx ix wr=>∃(k m:Nat),k<=n/\ix=.int .i64 (k:Int)/\mx=.int .i64 (m:Int)/\Hid (min (upA l i k).length 301=m)/\Hid (Below w.heap.size w wr)) (fun _ ix _=>n-(intOf ix).toNat)
  case atStart=>exact ⟨0,_,Nat.zero_le _,rfl,by rw [HF.out],rfl,(HB0 _).out⟩
  case round =>
   obtain ⟨k,m,hk,rfl,rfl,xw,HW⟩:=hrel;have hm:m<=301:=by rw [<-xw.out];omega
   by_cases hlt:k<n
   ·obtain ⟨b2,o2,s2,t2,rfl,hb2,hy1,hy2,_,_,hz2⟩:=(HX.out.below HW.out lrf).one k hlt;obtain ⟨u,rfl,hu,BL,hnext⟩:=mK.out k hlt _ _ hz2;obtain ⟨pb,po,rfl,hpb,vo⟩:=(HP.out.below HW.out lrf).at omg;have hcell:=vo u hu;rw [BL] at hcell;have hv:=(HM u).out;obtain ⟨v,hvv⟩:∃v,v=mny l u:=⟨_,rfl⟩;rw [<-hvv] at hcell hnext hv;rw [xw.out] at hnext;have HN:=hdq hnext;have bB:(k:Int)<(n:Int):=omg;have mF:∀o,Hid (Below w.heap.size w (wr.alloc o)):=fun o=>HW.out.alloc HW.out.size o;clear hz2 hb2 BL hnext hvv vo;go_wp2;go_roundw
    case rel =>
     exact ⟨k+1,min (m+v) 301,by omega,by go_num,by go_num,HN.out,(mF _).out⟩
    case measure=>simp [intOf];omega
   ·have nE:Hid (m=mny l i):=by show _=_;rw [<-xw.out,show k=n by omega,HE.out]
    go_wp2;go_ret;exact ⟨by rw [nE.out];rfl,HW.out⟩

theorem WL {l:List St} (hc:check l=true) {i:Nat} (hi:i<l.length):-1<=dp (wds l i)/\dp (wds l i)<=6001:=by
 refine ⟨DR _,?_⟩;have h:=NY (ws:=wds l i) (n:=l.length) fun w hw=>by have:=(NV hc w hi hw).2;omega
 have:=(jo hc).2;omega
theorem aiC {l:List St} (hc:check l=true) (i:Nat) (hi:i<l.length) (x:Sw) (hxs:l.getD i St.no=x.st) (pa:OAd) (pn pc:Nat) (ps:LIn) (w:World) (hx:x.Good w) (hp:Sl .i64 w pa pn pc ps) (hpn:pn=l.length)
 (hps:∀j,i<j->j<l.length->ps.getD j 0=dp (wds l j)) :
 Calls Tryz.prog 160 #[.agg #[.bool x.fin,.slice x.a x.n x.cap],.slice pa pn pc] w fun e w'=>e=.returned (.int .i64 (dp (wds l i)))/\Below w.heap.size w w':=by
 obtain ⟨fin,a,n,cap,arcs⟩:=x;simp only [Sw.Good] at hx;have hnc:=hx.2.1;have hcm:=hx.2.2.1;have hpc:=hp.2.1;have hpm:=hp.2.2.1;unfold maxLen at hcm hpm;have hfin:(l.getD i St.no).final=fin:=by rw [hxs];rfl
 have iE:(l.getD i St.no).arcs=arcs:=by rw [hxs];rfl
 have HF:=hdq (aiA l i hfin);have HX:=hdq hx;have HP:=hdq hp
 have mK:Hid (∀k,k<n->∀s t,arcs.getD k (0,0)=(s,t)->∃(u:Nat) (v:Int),t=(u:Int)/\u<pn/\ps.getD u 0=v/\-1<=v/\v<=6001/\dp (upA l i (k+1))=if v=-1 then dp (upA l i k) else max (dp (upA l i k)) (v+1)):=hdq fun k hk s t hst=>by
  have hm:(s,t)∈(l.getD i St.no).arcs:=by
   exact z10
  obtain ⟨_,h2,h3⟩:=(ik hc hi).1 _ hm;simp only at h2 h3;obtain ⟨u,rfl⟩:∃u:Nat,t=(u:Int):=⟨t.toNat,by omega⟩;obtain ⟨b1,b2⟩:=WL hc (i:=u) omg;refine ⟨u,_,rfl,by omega,hps u omg omg,b1,b2,?_⟩;have:=Ww l i (k:=k) (a:=(s,(u:Int))) (by rw [iE,hx.1];exact hk) (by rw [iE];exact hst);rw [Int.toNat_natCast] at this;exact this
 have HE:Hid (dp (upA l i n)=dp (wds l i)):=by
  show _=_;rw [<-hx.1,<-iE,DU hc hi]
 have HB0:∀o,Hid (Below w.heap.size w (w.alloc o)):=fun o=>hdq ((Below.refl _ w).alloc lrf o);clear hx hp hfin iE hps hxs hpn hi hc;cases fin
 all_goals
  simp only [if_true,if_false,Bool.false_eq_true] at HF;go_enter Tryz.func160,Tryz.ntmps160;go_wp2;go_loopw [5,13] (fun mx ix wr=>∃(k:Nat) (d:Int),k<=n/\ix=.int .i64 (k:Int)/\mx=.int .i64 d/\-1<=d/\d<=6002/\Hid (dp (upA l i k)=d)/\Hid (Below w.heap.size w wr)) (fun _ ix _=>n-(intOf ix).toNat)
  case atStart=>exact ⟨0,_,Nat.zero_le _,rfl,by rw [HF.out],by rw [HF.out];omega,by rw [HF.out];omega,rfl,(HB0 _).out⟩
  case round =>
   obtain ⟨k,d,hk,rfl,rfl,hd1,hd2,xw,HW⟩:=hrel;by_cases hlt:k<n
   ·obtain ⟨b2,o2,s2,t2,rfl,hb2,hy1,hy2,_,_,hz2⟩:=(HX.out.below HW.out lrf).one k hlt;obtain ⟨u,v,rfl,hu,BL,hv1,hv2,hnext⟩:=mK.out k hlt _ _ hz2;obtain ⟨pb,po,rfl,hpb,vo⟩:=(HP.out.below HW.out lrf).at omg;have hcell:=vo u hu;rw [BL] at hcell;rw [xw.out] at hnext;have bB:(k:Int)<(n:Int):=omg;have mF:∀o,Hid (Below w.heap.size w (wr.alloc o)):=fun o=>HW.out.alloc HW.out.size o;by_cases hv:v=-1
    ·rw [if_pos hv] at hnext;have HN:=hdq hnext;subst hv;clear hz2 hb2 BL hnext vo hv1 hv2;go_wp2;go_roundw
     case rel =>
      exact ⟨k+1,d,by omega,by go_num,rfl,hd1,hd2,HN.out,(mF _).out⟩
     case measure=>simp [intOf];omega
    ·rw [if_neg hv] at hnext;have HN:=hdq hnext;have hne:(v==-1)=false:=by simpa using hv
     clear hz2 hb2 BL hnext vo hv;go_wp2;go_roundw
     case rel =>
      exact ⟨k+1,max d (v+1),by omega,by go_num,by go_num,by omega,by omega,HN.out,(mF _).out⟩
     case measure=>simp [intOf];omega
   ·have nE:Hid (d=dp (wds l i)):=by show _=_;rw [<-xw.out,show k=n by omega,HE.out]
    go_wp2;go_ret;exact ⟨by rw [nE.out];rfl,HW.out⟩

end
section
theorem z11 {P:Prop} (h:P:=by
 rintro D xs O X hD ui ⟨hxs,hxl⟩ ⟨h1,h2,h3,h4,h5,h6,zs,h7,h8,h9,h10⟩ hK;have hc:=h2.cell;have kD:ae (fun k=>k≠D) X (X.putObj D (.deferred none)):=ae.putObj _ _ _ (fun h=>h rfl)
 have ZM:=tC h7 kD (fun r e=>by
  have:w.heap.size+1=r:=by simpa [Value.ownBlock] using e
  omega)
 have hbD:Below w.heap.size w (X.putObj D (.deferred none)):=h6.trans ((kD.mono (T:=fun k=>k<w.heap.size) fun k _ h=>by omega).below h6.size (fun _ h=>h));have HR:=hdq (And.intro ZM (And.intro h8 (And.intro h9 (And.intro h10 hbD))));clear h1 h2 h7 ZM h8 h9 h10 h6 hbD kD
 gi_wp2
 refine ⟨by simp,.inl ⟨_,_,rfl,run_takeDeferred hK,?_⟩⟩
 exact ⟨_,results_tmp rfl _ _ _,rfl,zs,HR.out.1,HR.out.2.1,HR.out.2.2.1,fun j hj=>HR.out.2.2.2.1 j omg hj,HR.out.2.2.2.2⟩):P:=h
theorem z12 {P:Prop} (h:P:=by
 intro j hj1 hj2;by_cases hji:j=i
 ·subst hji;rw [gdq,List.getElem?_set_self omg];rfl
 ·rw [gdq,List.getElem?_set_ne omg,<-gdq]
  exact ET.out j (by simp at hj1;omega) hj2):P:=h
theorem z13 {P:Prop} (h:P:=by
 have hm:x.1.2∈ys:=by
  rw [<-x.2.2,gdq,geg x.2.1,Option.getD_some];exact List.getElem_mem _
 exact (HY.out.2.2.2.1 _ hm).below h6 lrf):P:=h
theorem z14 {P:Prop} (h:P:=by
 have h:=han (w4.alloc (.cells #[.slice (some ⟨w.heap.size+1,0,none⟩) n n] 51)) (.cells #[.slice a n cap] 22);rw [World.size_alloc] at h
 rw [hw1,hnb,af h];rfl):P:=h
theorem z15 {P:Prop} (h:P:=by
 have:=hTx pre.length smp;rw [List.getElem_append_right lrf] at this;simp only [Nat.sub_self,List.getElem_cons_zero] at this
 rw [this];exact HY.out.1):P:=h
theorem z16 {P:Prop} (h:P:=by
 rw [hw1,hnb];exact (ae.alloc (fun _=>True) _ _).boxed (Boxed.new w4 51 (.slice (some ⟨w.heap.size+1,0,none⟩) n n)) trivial):P:=h
theorem z17 {P:Prop} (h:P:=by
 exact h6.trans ((az.mono h6.size).setCell (p:=⟨w.heap.size+1,i,none⟩) (by show w.heap.size<=w.heap.size+1;omega) _)):P:=h
theorem z18 {P:Prop} (h:P:=by
 intro z hz;rcases List.mem_or_eq_of_mem_set hz with hz|hz
 ·exact H9.out z hz
 ·subst hz;exact HW.out i omg):P:=h
open Go.RowKit Go.Shelf Tri Wlk
attribute [local go_sem] Oper.semAt_some

def AY (N:Nat->Int) (n h nb:Nat) (fe:Value) (w:World) (k:Nat) (O:Nat->Prop) (W:World):Prop :=
 Boxed W h 141 fe/\Boxed W nb 51 (.slice (some ⟨h+1,0,none⟩) n n)/\O (h+1)/\¬O h/\¬O nb/\Below h w W /\
  ∃zs:LIn,W.ownsRow h 3 1 (.slice (some ⟨h+1,0,none⟩) n n) n (ay zs)/\zs.length=n/\(∀z∈zs,(Lit.int .i64 z).wf=true)/\∀j,n-k<=j->j<n->zs.getD j 0=N j
theorem WN {N:Nat->Int} {n h nb:Nat} {fe:Value} {w:World} {k base:Nat} {O:Nat->Prop} {W W':World} (hb:h+1<base) (hnb:nb<base) (hw:h<=w.heap.size) (h0:AY N n h nb fe w k O W) (hk:ae (fun k=>k<base\/O k) W W'):AY N n h nb fe w k O W':=by
 obtain ⟨h1,h2,h3,h4,h5,h6,zs,h7,h8⟩:=h0;refine ⟨hk.boxed h1 (.inl omg),hk.boxed h2 (.inl hnb),h3,h4,h5,h6.trans ((hk.mono (T:=fun k=>k<base) fun k _ h=>.inl h).below (Nat.le_trans hw h6.size) (fun k h=>by omega)),zs,tC h7 hk (fun r e=>.inl ?_),h8⟩;have:h+1=r:=by simpa [Value.ownBlock] using e
 omega
theorem WO {z:Int} (h1:-1000000<=z) (h2:z<=1000000):(Lit.int .i64 z).wf=true:=by
 apply WalkArith.wf_i64<;>omega
theorem WQ (zs:LIn) (k:Nat) (v:Int):(ay zs).set k (.int .i64 v)=ay (zs.set k v):=by unfold ay;rw [List.map_set]
theorem WR (n:Nat):(madeCells #[Value.int .i64 0] n).toList=ay (List.replicate n 0):=by
 apply List.ext_getElem?;intro j;by_cases hj:j<n
 ·have:j%1=0:=omg;simp [madeCells,ay,hj,this]
 ·simp [madeCells,ay,hj]

theorem aiE {l:List St} (hc:check l=true) (a:OAd) (n cap:Nat) (ys:List Sw) (w:World) (hy:Ss w a n cap ys) (hys:sts ys=l) :
 Calls Tryz.prog 107 #[.slice a n cap,.func (.func 108) #[] #[]] w fun e w'=>e=.returned (.slice (some ⟨w.heap.size+1,0,none⟩) n n)/\∃zs:LIn,w'.ownsRow w.heap.size 3 1 (.slice (some ⟨w.heap.size+1,0,none⟩) n n) n (ay zs)/\zs.length=n/\(∀z∈zs,(Lit.int .i64 z).wf=true)/\(∀j,j<n->zs.getD j 0=(mny l j:Int))/\Below w.heap.size w w':=by
 have hyl:l.length=n:=by rw [<-hys,fq];exact hy.1
 have HW:Hid (∀i,i<n->(Lit.int .i64 ((mny l i:Int))).wf=true):=hdq fun i hi=>WO (by unfold mny;omega) (by unfold mny;omega);have hN:n<=6001:=by have:=(jo hc).2;omega
 have aB:∀(F:Fence) (m:Nat),F=Fence.wide->∀(i:Nat) (W:World) (x:Sw) (zs:LIn),i<n->x.Good W->l.getD i St.no=x.st->W.ownsRow w.heap.size 3 1 (.slice (some ⟨w.heap.size+1,0,none⟩) n n) n (ay zs)->zs.length=n->(∀z∈zs,(Lit.int .i64 z).wf=true)->(∀j,i<j->j<n->zs.getD j 0=(mny l j:Int)) ->
  CallsIn F m Tryz.prog 108 #[.agg #[.bool x.fin,.slice x.a x.n x.cap],.slice (some ⟨w.heap.size+1,0,none⟩) n n] W fun e w'=>e=.returned (.int .i64 ((mny l i:Int)))/\Below W.heap.size W w':=by
  intro F m hF i W x zs hi hx hxs ho hl hz hv;subst hF;exact callsIn_wide.2 (aiB hc i omg x hxs _ _ _ zs W hx (Sl.of_owns ho hz hl) hyl.symm (fun j h1 h2=>hv j h1 omg))
 refine (callsIn_wide (n:=20)).1 ?_;obtain ⟨F,hF⟩:∃F,F=Fence.wide:=⟨_,rfl⟩;have hfn:∀f,F.fn f:=by subst hF;exact fun _=>trivial
 have hro:F.round=none:=by subst hF;rfl
 have hd:F.depth=none:=by subst hF;rfl
 have hnu:=fun (m:Nat)=>aB F m hF;rw [<-hF];clear hF aB;have Qq:Tryz.prog.follows .mixedOrders=true:=krf;refine callsIn_of_wp_marks Tryz.func107 rfl (hfn _) ?_ hro;simp only [Tryz.ntmps107,List.size_toArray,List.length_cons,List.length_nil,Nat.reduceAdd,Nat.reduceSub,Array.replicate_succ,Array.replicate_zero,List.push_toArray,List.append_toArray,List.nil_append,List.cons_append];have HY:=hdq hy;have rM:=hdq hys;have qB:=hdq hnu;obtain ⟨ia,hia,ha0,ha1,ha2⟩:=info_parts nW;obtain ⟨h,hh⟩:∃h,h=w.heap.size:=⟨_,rfl⟩;have ZN:=hy.2.1;clear hy hys hnu
 gi_wp2_with (first
  | (gi_at_make;refine WM _ rfq _ _ 51 rfq w.heap.size 3 ia (.int .i64 0) 1 Tryz.underlying51 hia ha0 ha1 .i64 .i64 (n:Int) (n:Int) n rfq rfq rfl rfl (by rw [ha2];omega) (by unfold maxLen;omega) smp ?_;intro w4 fK hg4;have fA:=hdq fK;have gY:=hdq hg4;clear fK hg4)
  | (gi_at_call 112;refine (Oj F _ (hfn _) hro _ _ _ _).mono ?_;rintro e w' ⟨rfl,rfl⟩))
 have hns:Tryz.prog.follows .mixedOrders=true:=Qq;have bF:=Boxed.new w 141 (.func (.func 108) #[] #[]);obtain ⟨fe,hfe⟩:∃fe:Value,fe=.func (.func 108) #[] #[]:=⟨_,rfl⟩;have EU:=gY.out.size;have EW:Boxed w4 w.heap.size 141 fe:=by rw [hfe];exact (gY.out.block w.heap.size smp smp).trans bF
 have hb4:Below w.heap.size w w4:=((Below.refl w.heap.size w).alloc lrf _).trans ⟨gY.out.os,gY.out.tape,gY.out.output,gY.out.size,fun k hk=>gY.out.block k (by simp;omega) smp⟩;have hO4:=fA.out;rw [show (Value.int .i64 0).cells=#[Value.int .i64 0] from rfl,Nat.mul_one,WR,World.size_alloc] at hO4;rw [World.size_alloc] at EU;obtain ⟨nb,hnb⟩:∃nb,nb=w4.heap.size:=⟨_,rfl⟩;obtain ⟨w1,hw1⟩:∃w1,w1=(w4.alloc (.cells #[.slice (some ⟨w.heap.size+1,0,none⟩) n n] 51)).alloc (.cells #[.slice a n cap] 22):=⟨_,rfl⟩;have z1:w1.heap.size=nb+2:=by rw [hw1,hnb];simp
 have k1:∀T,ae T w4 w1:=fun T=>by rw [hw1];exact (ae.alloc T w4 _).trans (ae.alloc T _ _)
 have bN:Boxed w1 nb 51 (.slice (some ⟨w.heap.size+1,0,none⟩) n n):=by
  exact z16
 have bl:w1.cell? ⟨nb+1,0,none⟩=some (.slice a n cap):=by
  exact z14
 have BG:w.heap.size+1<w4.heap.size:=(hO4.lt _ rfl).2;have oN:Below w.heap.size w w1:=hb4.trans ((k1 (fun _=>True)).below hb4.size (fun _ _=>trivial))
 have hI1:AY (fun j=>(mny l j:Int)) n w.heap.size nb fe w 0 (fun k=>k=w.heap.size+1) w1 :=
  ⟨(k1 (fun _=>True)).boxed EW trivial,bN,rfl,by omega,by omega,oN,List.replicate n 0,tC hO4 (k1 (fun _=>True)) (fun _ _=>trivial),by simp,(fun z hz=>by rw [(List.mem_replicate.1 hz).2];decide),fun j h1 h2=>by omega⟩
 rw [<-hw1,<-hnb];have anS:w.heap.size+1<nb:=omg;clear hO4 EW bF bN hw1 hnb EU BG k1 hb4 gY fA
 refine Oh hro (fun h=>by rw [hd] at h;cases h) (gf:=148) (lb:=#[.pointer (some ⟨nb+1,0,none⟩)]) rfl (hfn _) (enters_of Tryz.func148 krf rfl)
  (encs:=bpv (ys:=ys)) (Rd:=fun k=>k<w.heap.size\/k=nb+1) (T:=nZ ys) (S:=fun xs=>nZ ys xs/\xs.length=n) (Sp:=fun _=>True) (N:=n) (w0:=w1)
  (fun l J Jx O W hW hO _ _ hY h0=>Oi F _ (hfn _) hro omg l (nb+1) a n cap ys w HY.out omg J Jx hY (fun k=>k<w.heap.size\/k=nb+1) (fun _ h=>.inl h) (.inr rfl) O W
   (by rintro k (h|rfl)<;>(have:=hW.size;omega)) (fun k hk=>(hO k hk).1) (oN.trans (hW.below omg (fun k h=>.inl h))) (hW.cell bl (.inr rfl)) h0)
  (ae.refl _ _) (by rintro k (h|rfl)<;>omega) (fun _=>rfl)
  (fun pre O W=>AY (fun j=>(mny l j:Int)) n w.heap.size nb fe w pre.length O W) (fun _ _ _ _=>False) (fun _ _ _ _ h hk=>WN omg omg lrf h hk) (fun _ _ _ _ _ h _=>h)
  (fun k=>k=w.heap.size+1) (by rintro k rfl;refine ⟨?_,by omega⟩;rintro (h|h)<;>omega)
  hI1
  (fun x bx=>{ tmps:=#[.slice a n cap,.func (.func 108) #[] #[],undef,.pointer (some ⟨w.heap.size,0,none⟩),.slice none 0 0,.pointer (some ⟨nb,0,none⟩),.int .i64 (x.1.1:Int),.pointer (some ⟨bx,0,none⟩),.slice a n cap,.int .i64 (n:Int),.slice (some ⟨w.heap.size+1,0,none⟩) n n,.slice a n cap,.func (.func 148) #[] #[.pointer (some ⟨nb+1,0,none⟩)],.int .i64 (x.1.1:Int),.agg #[.bool x.1.2.fin,.slice x.1.2.a x.1.2.n x.1.2.cap],undef,undef,undef,undef,undef,undef,undef,undef],defers:=[] })
  (fun x=>.cells #[.bool x.1.2.fin,.slice x.1.2.a x.1.2.n x.1.2.cap] 58) ?assign ?body ?done ?stop
 case assign =>
  intro l x W K hK;simp only [bpv]
  gi_wp2
  exact hK
 case body =>
  rintro l2 pre x O X bx hTx ⟨h1,h2,h3,h4,h5,h6,zs,h7,h8,h9,h10⟩ hlt hsz hbx
  have hi:x.1.1+pre.length+1=n:=by
   exact z15
  have hxg:x.1.2.Good X:=by
   exact z13
  have hxs:l.getD x.1.1 St.no=x.1.2.st:=by rw [<-rM.out,ic,x.2.2]
  obtain ⟨⟨⟨i,⟨fin,sa,sn,sc,arcs⟩⟩,hx2⟩,hxe⟩:∃y,y=x:=⟨x,rfl⟩;subst hxe;simp only at hi hxg hxs hbx ⊢;have Qr:i<n:=omg;have hcall:=fun (m:Nat) (W:World) (hW:Below X.heap.size X W)=>(qB.out m i W ⟨fin,sa,sn,sc,arcs⟩ zs Qr (Sw.Good.below hxg hW lrf) hxs (ownsRow_below h7 hW lrf) h8 h9 (fun j hj1 hj2=>h10 j omg hj2)).inRound l2;have ct:=h1.cell;rw [hfe] at ct;have cn:=h2.cell;have c0:X.cell? ⟨bx,0,none⟩=some (.bool fin):=by rw [af hbx];rfl
  have c1:X.cell? ⟨bx,1,none⟩=some (.slice sa sn sc):=by rw [af hbx];rfl
  have hii:(i:Int)<(n:Int):=omg;have EX:=hdq hcall;have H1:=hdq h1;have H2:=hdq h2;have H7:=hdq h7;have HXB:=hdq hbx;have H9:=hdq h9;have ET:=hdq h10;clear hcall hbx h1 h2 h7 hxg hxs h9 h10
  have dA:Hid (∀W,Below X.heap.size X W->W.cell? ⟨nb,0,none⟩=some (.slice (some ⟨w.heap.size+1,0,none⟩) n n)/\W.cell? ⟨w.heap.size,0,none⟩=some (.func (.func 108) #[] #[])/\W.cell? ⟨bx,0,none⟩=some (.bool fin)/\W.cell? ⟨bx,1,none⟩=some (.slice sa sn sc)):=hdq fun W hW=>by
   have e1:=bQ cn;have e2:=bQ ct;have e3:=bQ c0;exact ⟨by rw [hW.cell (p:=⟨nb,0,none⟩) e1];exact cn,by rw [hW.cell (p:=⟨w.heap.size,0,none⟩) e2];exact ct,by rw [hW.cell (p:=⟨bx,0,none⟩) e3];exact c0,by rw [hW.cell (p:=⟨bx,1,none⟩) e3];exact c1⟩
  have oO:Hid (∀(W:World) (v:Value),Below X.heap.size X W->(W.setCell ⟨w.heap.size+1,i,none⟩ v).cell? ⟨nb,0,none⟩=some (.slice (some ⟨w.heap.size+1,0,none⟩) n n)/\(W.setCell ⟨w.heap.size+1,i,none⟩ v).cell? ⟨w.heap.size,0,none⟩=some (.func (.func 108) #[] #[])/\(W.setCell ⟨w.heap.size+1,i,none⟩ v).cell? ⟨bx,0,none⟩=some (.bool fin)/\(W.setCell ⟨w.heap.size+1,i,none⟩ v).cell? ⟨bx,1,none⟩=some (.slice sa sn sc)):=hdq fun W v hW=>by
   obtain ⟨g1,g2,g3,g4⟩:=dA.out W hW
   have EY:w.heap.size+1≠bx:=fun e=>by
    have h0:=H7.out.cellAt 0 omg;rw [e] at h0;have h1:X.cell? ⟨bx,0,none⟩=some (.bool fin):=by rw [af HXB.out];rfl
    rw [h1] at h0
    cases zs with
    | nil=>cases h0
    | cons z zs=>cases h0
   rw [World.cell?_setCell_far _ _ _ _ (by show w.heap.size+1≠nb;omega),World.cell?_setCell_far _ _ _ _ (by show w.heap.size+1≠w.heap.size;omega),World.cell?_setCell_far _ _ _ _ (by show w.heap.size+1≠bx;exact EY),World.cell?_setCell_far _ _ _ _ (by show w.heap.size+1≠bx;exact EY)];exact ⟨g1,g2,g3,g4⟩
  have jf:Below X.heap.size X X.drew:=aG (Below.refl _ _) ⟨1,rfl⟩;have hi0:(0:Int)<=(i:Int):=omg;have aO:∀f,(F.inRound l2).fn f:=hfn;clear ct cn c0 c1
  gi_wp2
  refine uH (S:=(fun W=>W.cell? ⟨nb,0,none⟩=some (.slice (some ⟨w.heap.size+1,0,none⟩) n n)/\W.cell? ⟨w.heap.size,0,none⟩=some (.func (.func 108) #[] #[])/\W.cell? ⟨bx,0,none⟩=some (.bool fin)/\W.cell? ⟨bx,1,none⟩=some (.slice sa sn sc))) krf (by first|((first|exact bI|exact dA.out _ jf|exact oO.out _ _ az))|((try dsimp only);(first|exact bI|exact dA.out _ jf|exact oO.out _ _ az))) (fun hHeld=>?_);refine t_f aO 0 ?_;refine t_f aO 1 ?_;refine t_f aO 2 ?_;refine t_f aO 3 ?_;refine t_f aO 4 ?_;refine r_f aO 5 (fun K hK=>?_);go_simp
  gi_at_call 108
  refine (EX.out _ _ jf).mono ?_;rintro e w7 ⟨rfl,iF⟩;have az:Below X.heap.size X w7:=jf.trans iF;have bI:=dA.out w7 az;have tZ:=ownsRow_below H7.out az lrf;have vg:w7.cell? ⟨w.heap.size+1,i,none⟩=some (.int .i64 (zs.getD i 0)):=(by rw [tZ.cellAt i omg];unfold ay;simp [show i<zs.length by omega]);have EJ:=tZ.frozenAt i
  gi_wp2_with fail
  refine k_h hK (by first|((first|exact bI|exact dA.out _ jf|exact oO.out _ _ az))|(dsimp only;(first|exact bI|exact dA.out _ jf|exact oO.out _ _ az))) (fun hHeld=>?_);clear hK K;refine t_f aO 6 ?_;refine r_f aO 7 (fun K hK=>?_);go_simp;refine k_h hK (by first|((first|exact bI|exact dA.out _ jf|exact oO.out _ _ az))|(dsimp only;(first|exact bI|exact dA.out _ jf|exact oO.out _ _ az))) (fun hHeld=>?_);clear hK K;refine mo krf ?_ _;clear hHeld;have ky:ae (fun k=>¬O k) X w7:=⟨az.os,az.tape,az.output,az.size,fun k hk _=>az.block k hk⟩;have fM:ae (fun k=>¬O k) X (w7.setCell ⟨w.heap.size+1,i,none⟩ (.int .i64 ((mny l i:Int)))):=ky.trans (ae.setCell _ _ _ (fun h=>h h3));have EZ:=(tZ.stored i (.int .i64 ((mny l i:Int)))).1;rw [WQ] at EZ;refine ⟨O,fM,fun k h=>.inl h,fM.boxed H1.out h4,fM.boxed H2.out h5,h3,h4,h5,?_,zs.set i ((mny l i:Int)),EZ,by simpa using h8,?_,?_⟩
  ·exact z17
  ·exact z18
  ·exact z12
 case done =>
  exact z11
 case stop =>
  rintro D c pre U X _ _ _ h _;exact h.elim

theorem WS {l:List St} (hc:check l=true) (a:OAd) (n cap:Nat) (ys:List Sw) (w:World) (hy:Ss w a n cap ys) (hys:sts ys=l) :
 Calls Tryz.prog 107 #[.slice a n cap,.func (.func 160) #[] #[]] w fun e w'=>e=.returned (.slice (some ⟨w.heap.size+1,0,none⟩) n n)/\∃zs:LIn,w'.ownsRow w.heap.size 3 1 (.slice (some ⟨w.heap.size+1,0,none⟩) n n) n (ay zs)/\zs.length=n/\(∀z∈zs,(Lit.int .i64 z).wf=true)/\(∀j,j<n->zs.getD j 0=dp (wds l j))/\Below w.heap.size w w':=by
 have hyl:l.length=n:=by rw [<-hys,fq];exact hy.1
 have HW:Hid (∀i,i<n->(Lit.int .i64 (dp (wds l i))).wf=true):=hdq fun i hi=>(by have:=WL hc (i:=i) omg;exact WO omg omg);have hN:n<=6001:=by have:=(jo hc).2;omega
 have aB:∀(F:Fence) (m:Nat),F=Fence.wide->∀(i:Nat) (W:World) (x:Sw) (zs:LIn),i<n->x.Good W->l.getD i St.no=x.st->W.ownsRow w.heap.size 3 1 (.slice (some ⟨w.heap.size+1,0,none⟩) n n) n (ay zs)->zs.length=n->(∀z∈zs,(Lit.int .i64 z).wf=true)->(∀j,i<j->j<n->zs.getD j 0=dp (wds l j)) ->
  CallsIn F m Tryz.prog 160 #[.agg #[.bool x.fin,.slice x.a x.n x.cap],.slice (some ⟨w.heap.size+1,0,none⟩) n n] W fun e w'=>e=.returned (.int .i64 (dp (wds l i)))/\Below W.heap.size W w':=by
  intro F m hF i W x zs hi hx hxs ho hl hz hv;subst hF;exact callsIn_wide.2 (aiC hc i omg x hxs _ _ _ zs W hx (Sl.of_owns ho hz hl) hyl.symm (fun j h1 h2=>hv j h1 omg))
 refine (callsIn_wide (n:=20)).1 ?_;obtain ⟨F,hF⟩:∃F,F=Fence.wide:=⟨_,rfl⟩;have hfn:∀f,F.fn f:=by subst hF;exact fun _=>trivial
 have hro:F.round=none:=by subst hF;rfl
 have hd:F.depth=none:=by subst hF;rfl
 have hnu:=fun (m:Nat)=>aB F m hF;rw [<-hF];clear hF aB;have Qq:Tryz.prog.follows .mixedOrders=true:=krf;refine callsIn_of_wp_marks Tryz.func107 rfl (hfn _) ?_ hro;simp only [Tryz.ntmps107,List.size_toArray,List.length_cons,List.length_nil,Nat.reduceAdd,Nat.reduceSub,Array.replicate_succ,Array.replicate_zero,List.push_toArray,List.append_toArray,List.nil_append,List.cons_append];have HY:=hdq hy;have rM:=hdq hys;have qB:=hdq hnu;obtain ⟨ia,hia,ha0,ha1,ha2⟩:=info_parts nW;obtain ⟨h,hh⟩:∃h,h=w.heap.size:=⟨_,rfl⟩;have ZN:=hy.2.1;clear hy hys hnu
 gi_wp2_with (first
  | (gi_at_make;refine WM _ rfq _ _ 51 rfq w.heap.size 3 ia (.int .i64 0) 1 Tryz.underlying51 hia ha0 ha1 .i64 .i64 (n:Int) (n:Int) n rfq rfq rfl rfl (by rw [ha2];omega) (by unfold maxLen;omega) smp ?_;intro w4 fK hg4;have fA:=hdq fK;have gY:=hdq hg4;clear fK hg4)
  | (gi_at_call 112;refine (Oj F _ (hfn _) hro _ _ _ _).mono ?_;rintro e w' ⟨rfl,rfl⟩))
 have hns:Tryz.prog.follows .mixedOrders=true:=Qq;have bF:=Boxed.new w 141 (.func (.func 160) #[] #[]);obtain ⟨fe,hfe⟩:∃fe:Value,fe=.func (.func 160) #[] #[]:=⟨_,rfl⟩;have EU:=gY.out.size;have EW:Boxed w4 w.heap.size 141 fe:=by rw [hfe];exact (gY.out.block w.heap.size smp smp).trans bF
 have hb4:Below w.heap.size w w4:=((Below.refl w.heap.size w).alloc lrf _).trans ⟨gY.out.os,gY.out.tape,gY.out.output,gY.out.size,fun k hk=>gY.out.block k (by simp;omega) smp⟩;have hO4:=fA.out;rw [show (Value.int .i64 0).cells=#[Value.int .i64 0] from rfl,Nat.mul_one,WR,World.size_alloc] at hO4;rw [World.size_alloc] at EU;obtain ⟨nb,hnb⟩:∃nb,nb=w4.heap.size:=⟨_,rfl⟩;obtain ⟨w1,hw1⟩:∃w1,w1=(w4.alloc (.cells #[.slice (some ⟨w.heap.size+1,0,none⟩) n n] 51)).alloc (.cells #[.slice a n cap] 22):=⟨_,rfl⟩;have z1:w1.heap.size=nb+2:=by rw [hw1,hnb];simp
 have k1:∀T,ae T w4 w1:=fun T=>by rw [hw1];exact (ae.alloc T w4 _).trans (ae.alloc T _ _)
 have bN:Boxed w1 nb 51 (.slice (some ⟨w.heap.size+1,0,none⟩) n n):=by
  exact z16
 have bl:w1.cell? ⟨nb+1,0,none⟩=some (.slice a n cap):=by
  exact z14
 have BG:w.heap.size+1<w4.heap.size:=(hO4.lt _ rfl).2;have oN:Below w.heap.size w w1:=hb4.trans ((k1 (fun _=>True)).below hb4.size (fun _ _=>trivial))
 have hI1:AY (fun j=>dp (wds l j)) n w.heap.size nb fe w 0 (fun k=>k=w.heap.size+1) w1 :=
  ⟨(k1 (fun _=>True)).boxed EW trivial,bN,rfl,by omega,by omega,oN,List.replicate n 0,tC hO4 (k1 (fun _=>True)) (fun _ _=>trivial),by simp,(fun z hz=>by rw [(List.mem_replicate.1 hz).2];decide),fun j h1 h2=>by omega⟩
 rw [<-hw1,<-hnb];have anS:w.heap.size+1<nb:=omg;clear hO4 EW bF bN hw1 hnb EU BG k1 hb4 gY fA
 refine Oh hro (fun h=>by rw [hd] at h;cases h) (gf:=148) (lb:=#[.pointer (some ⟨nb+1,0,none⟩)]) rfl (hfn _) (enters_of Tryz.func148 krf rfl)
  (encs:=bpv (ys:=ys)) (Rd:=fun k=>k<w.heap.size\/k=nb+1) (T:=nZ ys) (S:=fun xs=>nZ ys xs/\xs.length=n) (Sp:=fun _=>True) (N:=n) (w0:=w1)
  (fun l J Jx O W hW hO _ _ hY h0=>Oi F _ (hfn _) hro omg l (nb+1) a n cap ys w HY.out omg J Jx hY (fun k=>k<w.heap.size\/k=nb+1) (fun _ h=>.inl h) (.inr rfl) O W
   (by rintro k (h|rfl)<;>(have:=hW.size;omega)) (fun k hk=>(hO k hk).1) (oN.trans (hW.below omg (fun k h=>.inl h))) (hW.cell bl (.inr rfl)) h0)
  (ae.refl _ _) (by rintro k (h|rfl)<;>omega) (fun _=>rfl)
  (fun pre O W=>AY (fun j=>dp (wds l j)) n w.heap.size nb fe w pre.length O W) (fun _ _ _ _=>False) (fun _ _ _ _ h hk=>WN omg omg lrf h hk) (fun _ _ _ _ _ h _=>h)
  (fun k=>k=w.heap.size+1) (by rintro k rfl;refine ⟨?_,by omega⟩;rintro (h|h)<;>omega)
  hI1
  (fun x bx=>{ tmps:=#[.slice a n cap,.func (.func 160) #[] #[],undef,.pointer (some ⟨w.heap.size,0,none⟩),.slice none 0 0,.pointer (some ⟨nb,0,none⟩),.int .i64 (x.1.1:Int),.pointer (some ⟨bx,0,none⟩),.slice a n cap,.int .i64 (n:Int),.slice (some ⟨w.heap.size+1,0,none⟩) n n,.slice a n cap,.func (.func 148) #[] #[.pointer (some ⟨nb+1,0,none⟩)],.int .i64 (x.1.1:Int),.agg #[.bool x.1.2.fin,.slice x.1.2.a x.1.2.n x.1.2.cap],undef,undef,undef,undef,undef,undef,undef,undef],defers:=[] })
  (fun x=>.cells #[.bool x.1.2.fin,.slice x.1.2.a x.1.2.n x.1.2.cap] 58) ?assign ?body ?done ?stop
 case assign =>
  intro l x W K hK;simp only [bpv]
  gi_wp2
  exact hK
 case body =>
  rintro l2 pre x O X bx hTx ⟨h1,h2,h3,h4,h5,h6,zs,h7,h8,h9,h10⟩ hlt hsz hbx
  have hi:x.1.1+pre.length+1=n:=by
   exact z15
  have hxg:x.1.2.Good X:=by
   exact z13
  have hxs:l.getD x.1.1 St.no=x.1.2.st:=by rw [<-rM.out,ic,x.2.2]
  obtain ⟨⟨⟨i,⟨fin,sa,sn,sc,arcs⟩⟩,hx2⟩,hxe⟩:∃y,y=x:=⟨x,rfl⟩;subst hxe;simp only at hi hxg hxs hbx ⊢;have Qr:i<n:=omg;have hcall:=fun (m:Nat) (W:World) (hW:Below X.heap.size X W)=>(qB.out m i W ⟨fin,sa,sn,sc,arcs⟩ zs Qr (Sw.Good.below hxg hW lrf) hxs (ownsRow_below h7 hW lrf) h8 h9 (fun j hj1 hj2=>h10 j omg hj2)).inRound l2;have ct:=h1.cell;rw [hfe] at ct;have cn:=h2.cell;have c0:X.cell? ⟨bx,0,none⟩=some (.bool fin):=by rw [af hbx];rfl
  have c1:X.cell? ⟨bx,1,none⟩=some (.slice sa sn sc):=by rw [af hbx];rfl
  have hii:(i:Int)<(n:Int):=omg;have EX:=hdq hcall;have H1:=hdq h1;have H2:=hdq h2;have H7:=hdq h7;have HXB:=hdq hbx;have H9:=hdq h9;have ET:=hdq h10;clear hcall hbx h1 h2 h7 hxg hxs h9 h10
  have dA:Hid (∀W,Below X.heap.size X W->W.cell? ⟨nb,0,none⟩=some (.slice (some ⟨w.heap.size+1,0,none⟩) n n)/\W.cell? ⟨w.heap.size,0,none⟩=some (.func (.func 160) #[] #[])/\W.cell? ⟨bx,0,none⟩=some (.bool fin)/\W.cell? ⟨bx,1,none⟩=some (.slice sa sn sc)):=hdq fun W hW=>by
   have e1:=bQ cn;have e2:=bQ ct;have e3:=bQ c0;exact ⟨by rw [hW.cell (p:=⟨nb,0,none⟩) e1];exact cn,by rw [hW.cell (p:=⟨w.heap.size,0,none⟩) e2];exact ct,by rw [hW.cell (p:=⟨bx,0,none⟩) e3];exact c0,by rw [hW.cell (p:=⟨bx,1,none⟩) e3];exact c1⟩
  have oO:Hid (∀(W:World) (v:Value),Below X.heap.size X W->(W.setCell ⟨w.heap.size+1,i,none⟩ v).cell? ⟨nb,0,none⟩=some (.slice (some ⟨w.heap.size+1,0,none⟩) n n)/\(W.setCell ⟨w.heap.size+1,i,none⟩ v).cell? ⟨w.heap.size,0,none⟩=some (.func (.func 160) #[] #[])/\(W.setCell ⟨w.heap.size+1,i,none⟩ v).cell? ⟨bx,0,none⟩=some (.bool fin)/\(W.setCell ⟨w.heap.size+1,i,none⟩ v).cell? ⟨bx,1,none⟩=some (.slice sa sn sc)):=hdq fun W v hW=>by
   obtain ⟨g1,g2,g3,g4⟩:=dA.out W hW
   have EY:w.heap.size+1≠bx:=fun e=>by
    have h0:=H7.out.cellAt 0 omg;rw [e] at h0;have h1:X.cell? ⟨bx,0,none⟩=some (.bool fin):=by rw [af HXB.out];rfl
    rw [h1] at h0
    cases zs with
    | nil=>cases h0
    | cons z zs=>cases h0
   rw [World.cell?_setCell_far _ _ _ _ (by show w.heap.size+1≠nb;omega),World.cell?_setCell_far _ _ _ _ (by show w.heap.size+1≠w.heap.size;omega),World.cell?_setCell_far _ _ _ _ (by show w.heap.size+1≠bx;exact EY),World.cell?_setCell_far _ _ _ _ (by show w.heap.size+1≠bx;exact EY)];exact ⟨g1,g2,g3,g4⟩
  have jf:Below X.heap.size X X.drew:=aG (Below.refl _ _) ⟨1,rfl⟩;have hi0:(0:Int)<=(i:Int):=omg;have aO:∀f,(F.inRound l2).fn f:=hfn;clear ct cn c0 c1
  gi_wp2
  refine uH (S:=(fun W=>W.cell? ⟨nb,0,none⟩=some (.slice (some ⟨w.heap.size+1,0,none⟩) n n)/\W.cell? ⟨w.heap.size,0,none⟩=some (.func (.func 160) #[] #[])/\W.cell? ⟨bx,0,none⟩=some (.bool fin)/\W.cell? ⟨bx,1,none⟩=some (.slice sa sn sc))) krf (by first|((first|exact bI|exact dA.out _ jf|exact oO.out _ _ az))|((try dsimp only);(first|exact bI|exact dA.out _ jf|exact oO.out _ _ az))) (fun hHeld=>?_);refine t_f aO 0 ?_;refine t_f aO 1 ?_;refine t_f aO 2 ?_;refine t_f aO 3 ?_;refine t_f aO 4 ?_;refine r_f aO 5 (fun K hK=>?_);go_simp
  gi_at_call 160
  refine (EX.out _ _ jf).mono ?_;rintro e w7 ⟨rfl,iF⟩;have az:Below X.heap.size X w7:=jf.trans iF;have bI:=dA.out w7 az;have tZ:=ownsRow_below H7.out az lrf;have vg:w7.cell? ⟨w.heap.size+1,i,none⟩=some (.int .i64 (zs.getD i 0)):=(by rw [tZ.cellAt i omg];unfold ay;simp [show i<zs.length by omega]);have EJ:=tZ.frozenAt i
  gi_wp2_with fail
  refine k_h hK (by first|((first|exact bI|exact dA.out _ jf|exact oO.out _ _ az))|(dsimp only;(first|exact bI|exact dA.out _ jf|exact oO.out _ _ az))) (fun hHeld=>?_);clear hK K;refine t_f aO 6 ?_;refine r_f aO 7 (fun K hK=>?_);go_simp;refine k_h hK (by first|((first|exact bI|exact dA.out _ jf|exact oO.out _ _ az))|(dsimp only;(first|exact bI|exact dA.out _ jf|exact oO.out _ _ az))) (fun hHeld=>?_);clear hK K;refine mo krf ?_ _;clear hHeld;have ky:ae (fun k=>¬O k) X w7:=⟨az.os,az.tape,az.output,az.size,fun k hk _=>az.block k hk⟩;have fM:ae (fun k=>¬O k) X (w7.setCell ⟨w.heap.size+1,i,none⟩ (.int .i64 (dp (wds l i)))):=ky.trans (ae.setCell _ _ _ (fun h=>h h3));have EZ:=(tZ.stored i (.int .i64 (dp (wds l i)))).1;rw [WQ] at EZ;refine ⟨O,fM,fun k h=>.inl h,fM.boxed H1.out h4,fM.boxed H2.out h5,h3,h4,h5,?_,zs.set i (dp (wds l i)),EZ,by simpa using h8,?_,?_⟩
  ·exact z17
  ·exact z18
  ·exact z12
 case done =>
  exact z11
 case stop =>
  rintro D c pre U X _ _ _ h _;exact h.elim

end
section
open Go.RowKit Tri Wlk

theorem Ot (a:OAd) (n cap:Nat) (xs:List Sw) (w:World) (r:Nat) (hx:Ss w a n cap xs) (hr:dK (sts xs)=r) :
 Calls Tryz.prog 62 #[.slice a n cap] w fun e w'=>e=.returned (.int .i64 (r:Int))/\Below w.heap.size w w':=by
 have HX:=hdq hx;cases hcc:check (sts xs)
 ·have hr0:r=0:=by unfold dK at hr;rw [hcc] at hr;exact hr.symm
  subst hr0;clear hx hr;go_enter Tryz.func62,Tryz.ntmps62;go_wp2_with (go_at_call 26;refine (uE a n cap xs false _ HX.out hcc).mono ?_;rintro e w' ⟨rfl,hb'⟩);go_ret;exact ⟨rfl,hb'⟩
 ·have hn:(sts xs).length=n:=by rw [fq];exact hx.1
  have hsz:=jo hcc;have hr1:r=mny (sts xs) 0:=by unfold dK at hr;rw [hcc] at hr;exact hr.symm
  have HR:=hdq hr1;have hn1:0<n:=omg;clear hx hr hsz hn hr1;go_enter Tryz.func62,Tryz.ntmps62
  go_wp2_with (first
   | (go_at_call 26;refine (uE a n cap xs true _ HX.out hcc).mono ?_;rintro e w1 ⟨rfl,hb1⟩)
   | (go_at_call 107;refine (aiE hcc a n cap xs w1 (HX.out.below hb1 lrf) rfl).mono ?_;rintro e w2 ⟨rfl,ds,hown,hdl,hdw,hdv,hb2⟩;have hnl:(0:Int)<(n:Int):=omg;have hd0:w2.cell? ⟨w1.heap.size+1,0,none⟩=some (.int .i64 (mny (sts xs) 0:Int)):=(by rw [hown.cellAt 0 omg,<-hdv 0 hn1];unfold ay;simp [show 0<ds.length by omega]);have HB2:=hdq hb2;clear hown hdl hdw hdv hb2))
  go_ret;exact ⟨by rw [HR.out];rfl,hb1.trans (HB2.out.mono hb1.size)⟩
theorem aiF (a:OAd) (n cap:Nat) (xs:List Sw) (w:World) (r:Int) (hx:Ss w a n cap xs) (hr:gT (sts xs)=r) :
 Calls Tryz.prog 126 #[.slice a n cap] w fun e w'=>e=.returned (.int .i64 r)/\Below w.heap.size w w':=by
 have HX:=hdq hx;cases hcc:check (sts xs)
 ·have hr0:r=-1:=by unfold gT at hr;rw [hcc] at hr;exact hr.symm
  subst hr0;clear hx hr;go_enter Tryz.func126,Tryz.ntmps126;go_wp2_with (go_at_call 26;refine (uE a n cap xs false _ HX.out hcc).mono ?_;rintro e w' ⟨rfl,hb'⟩);go_ret;exact ⟨rfl,hb'⟩
 ·have hn:(sts xs).length=n:=by rw [fq];exact hx.1
  have hsz:=jo hcc;have hr1:r=dp (wds (sts xs) 0):=by unfold gT at hr;rw [hcc] at hr;exact hr.symm
  have HR:=hdq hr1;have hn1:0<n:=omg;clear hx hr hsz hn hr1;go_enter Tryz.func126,Tryz.ntmps126
  go_wp2_with (first
   | (go_at_call 26;refine (uE a n cap xs true _ HX.out hcc).mono ?_;rintro e w1 ⟨rfl,hb1⟩)
   | (go_at_call 107;refine (WS hcc a n cap xs w1 (HX.out.below hb1 lrf) rfl).mono ?_;rintro e w2 ⟨rfl,ds,hown,hdl,hdw,hdv,hb2⟩;have hnl:(0:Int)<(n:Int):=omg;have hd0:w2.cell? ⟨w1.heap.size+1,0,none⟩=some (.int .i64 (dp (wds (sts xs) 0))):=(by rw [hown.cellAt 0 omg,<-hdv 0 hn1];unfold ay;simp [show 0<ds.length by omega]);have HB2:=hdq hb2;clear hown hdl hdw hdv hb2))
  go_ret;exact ⟨by rw [HR.out];rfl,hb1.trans (HB2.out.mono hb1.size)⟩
end
end Go.Proofs.YtkiamgcpcneggaaGreat
