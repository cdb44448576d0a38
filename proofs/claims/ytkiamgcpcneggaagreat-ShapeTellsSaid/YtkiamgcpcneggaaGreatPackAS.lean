import Derived.Test.YtkiamgcpcneggaaGreatPackK
set_option linter.all false
set_option maxRecDepth 100000
set_option maxHeartbeats 12800000
namespace Go.Proofs.YtkiamgcpcneggaaGreat
section
open Go.RowKit

theorem afK {zs:LIn} {i:Nat} (h:i<zs.length) (h1:(zs.take i).all Utf.good=true) (h2:Utf.good (zs.getD i 0)=true):(zs.take (i+1)).all Utf.good=true:=by
 rw [tsa h,List.all_append,h1];simpa [h] using h2
theorem afL {zs:LIn} {i:Nat} (h:i<zs.length) (h2:Utf.good (zs.getD i 0)=false):zs.all Utf.good=false:=by
 rw [Bool.eq_false_iff];intro ha;have:=List.all_eq_true.1 ha (zs[i]) (List.getElem_mem h);simp [h] at h2;rw [h2] at this;cases this
theorem Sl.range {w:World} {a:OAd} {n cap:Nat} {zs:LIn} (h:Sl .i64 w a n cap zs) (i:Nat):-9223372036854775808<=zs.getD i 0/\zs.getD i 0<=9223372036854775807:=by
 rcases Nat.lt_or_ge i zs.length with hi|hi
 ·have:=h.2.2.2.1 (zs[i]) (List.getElem_mem hi);have hb:=bounds_i64 this;simp [hi];exact hb
 ·rw [gdq,List.getElem?_eq_none hi];decide

theorem Vf (a:OAd) (n cap:Nat) (zs:LIn) (r:Bool) (w:World) (hs:Sl .i64 w a n cap zs) (hr:gZ zs=r) :
 Calls Tryz.prog 159 #[.slice a n cap] w fun e w'=>e=.returned (.bool r)/\w'=w:=by
 have hnc:=hs.2.1;have hcm:=hs.2.2.1;unfold maxLen at hcm;have HS:=hdq hs;have HR:=hdq hr;clear hs hr;go_enter Tryz.func159,Tryz.ntmps159;go_wp2;go_loopw [3] (fun ix wr=>∃i:Nat,i<=n/\ix=.int .i64 (i:Int)/\Hid ((zs.take i).all Utf.good=true)/\Hid (wr=w)) (fun ix _=>n-(intOf ix).toNat)
 case atStart=>exact ⟨0,Nat.zero_le _,rfl,(by first|exact (trivial:True)|rfl),(by first|exact (trivial:True)|rfl)⟩
 case round =>
  obtain ⟨i,hi,rfl,H,HW⟩:=hrel;obtain rfl:=HW.out;clear HW;by_cases hlt:i<n
  ·obtain ⟨b,off,rfl,_,hc⟩:=HS.out.at omg;have hx1:=hc i hlt;have hil:i<zs.length:=by rw [HS.out.1];exact hlt
   obtain ⟨hx0,oD⟩:=HS.out.range i;obtain ⟨x,hx⟩:∃x,x=zs.getD i 0:=⟨_,rfl⟩;rw [<-hx] at hx1 hx0 oD;have HX:=hdq hx;have HI:=hdq hil;have bB:(i:Int)<(n:Int):=omg;clear hc hx hil;by_cases hg:Utf.good x=true
   ·go_wp2_with (go_at_call 83;refine (tq _ _ hx0 oD).mono ?_;rintro e w' ⟨rfl,rfl⟩);go_roundw
    case rel=>exact ⟨i+1,by omega,by go_num,afK HI.out H.out (by rw [<-HX.out];exact hg),(by first|exact (trivial:True)|rfl)⟩
    case measure=>simp [intOf];omega
   ·have hgf:Utf.good x=false:=by simpa using hg
    have hrf:r=false:=by
     rw [<-HR.out];unfold gZ;rw [afL HI.out (by rw [<-HX.out];exact hgf)];rfl
    clear hg;go_wp2_with (go_at_call 83;refine (tq _ _ hx0 oD).mono ?_;rintro e w' ⟨rfl,rfl⟩);go_ret;exact ⟨by rw [hrf];rfl,rfl⟩
  ·obtain rfl:i=n:=omg;have h1:=H.out;rw [tol (by rw [HS.out.1];exact Nat.le_refl _)] at h1
   have hrf:r=decide ((i:Int)<=8):=by
    rw [<-HR.out];unfold gZ;rw [h1,HS.out.1,Bool.true_and,decide_eq_decide];omega
   clear h1 HR;subst hrf;go_wp2;go_ret;exact ⟨rfl,rfl⟩

theorem Nn (x:Rw) (r:Bool) (w:World) (hx:x.Good w) (hr:chk x.r=r) :
 Calls Tryz.prog 123 #[x.v] w fun e w'=>e=.returned (.bool r)/\Below w.heap.size w w':=by
 obtain ⟨la,ln,lc,L,ra,rn,rc,R,C⟩:=x;obtain ⟨hl,hrr,h0,h1⟩:=hx;obtain ⟨gl,hgl⟩:∃b,gZ L=b:=⟨_,rfl⟩;obtain ⟨gr,hgr⟩:∃b,gZ R=b:=⟨_,rfl⟩;obtain ⟨sm,hsm⟩:∃b,decide (L=R)=b:=⟨_,rfl⟩;have hre:r=(gl&&gr&&decide (C<18446744073709551615)&&!sm):=by rw [<-hr,<-hgl,<-hgr,<-hsm];rfl
 have HL:=hdq hl;have HRR:=hdq hrr;have mE:=hdq hgl;have wN:=hdq hgr;have jQ:=hdq hsm;have HE:=hdq hre;clear hl hrr hgl hgr hsm hre hr;simp only [Rw.v,Rw.l,Rw.rt,Rw.c];have HB:∀o,Hid (Below w.heap.size w (w.alloc o)):=fun o=>hdq ((Below.refl _ w).alloc lrf o)
 have hcs:gl=false\/(gl=true/\gr=false)\/(gl=true/\gr=true/\¬C<18446744073709551615)\/(gl=true/\gr=true/\C<18446744073709551615):=by
  cases gl
  ·exact .inl rfl
  ·cases gr
   ·exact .inr (.inl ⟨rfl,rfl⟩)
   ·by_cases hc:C<18446744073709551615
    ·exact .inr (.inr (.inr ⟨rfl,rfl,hc⟩))
    ·exact .inr (.inr (.inl ⟨rfl,rfl,hc⟩))
 rcases hcs with rfl|⟨rfl,rfl⟩|⟨rfl,rfl,hc⟩|⟨rfl,rfl,hc⟩
 all_goals (
  go_enter Tryz.func123,Tryz.ntmps123;go_wp2_with fail;refine (Vf la _ _ _ _ _ (HL.out.alloc _) mE.out).mono ?_;rintro e w1 ⟨rfl,hw1⟩;obtain rfl:=hw1.symm;clear hw1;go_wp2_with fail;refine (Vf ra _ _ _ _ _ (HRR.out.alloc _) wN.out).mono ?_;rintro e w1 ⟨rfl,hw1⟩;obtain rfl:=hw1.symm;clear hw1
  go_wp2_with fail)
 ·go_ret;exact ⟨by rw [HE.out];rfl,(HB _).out⟩
 ·go_ret;exact ⟨by rw [HE.out];rfl,(HB _).out⟩
 ·go_ret;have hd:decide (C<18446744073709551615)=false:=by simp;omega
  exact ⟨by rw [HE.out,hd];rfl,(HB _).out⟩
 ·refine (dR _ _ _ _ _ _ _ _ _ _ (HL.out.alloc _) (HRR.out.alloc _) jQ.out).mono ?_;rintro e w1 ⟨rfl,hq⟩;have HQ:=hdq hq;clear hq;go_wp2;go_ret;exact ⟨by rw [HE.out];simp [hc],aG (HB _).out HQ.out⟩

theorem Vg (x y:Rw) (r:Bool) (w:World) (hx:x.Good w) (hy:y.Good w) (hr:eF x.r y.r=r) :
 Calls Tryz.prog 125 #[x.v,y.v] w fun e w'=>e=.returned (.bool r)/\Below w.heap.size w w':=by
 obtain ⟨la,ln,lc,L,ra,rn,rc,R,C⟩:=x;obtain ⟨la',jA,jB,L',iU,iV,rc',R',C'⟩:=y;obtain ⟨hl,hrr,h0,h1⟩:=hx;obtain ⟨hl',wO,h0',h1'⟩:=hy;obtain ⟨sl,hsl⟩:∃b,decide (L=L')=b:=⟨_,rfl⟩;obtain ⟨sr,gI⟩:∃b,decide (R=R')=b:=⟨_,rfl⟩;obtain ⟨tl,htl⟩:∃b,lessL L L'=b:=⟨_,rfl⟩;obtain ⟨tr,htr⟩:∃b,lessL R R'=b:=⟨_,rfl⟩
 have hre:r=if sl=true then (if sr=true then decide (C<C') else tr) else tl:=by
  rw [<-hr,<-hsl,<-gI,<-htl,<-htr];simp only [decide_eq_true_eq];rfl
 have HL:=hdq hl;have HRR:=hdq hrr;have rz:=hdq hl';have uU:=hdq wO;have dH:=hdq hsl;have uV:=hdq gI;have yY:=hdq htl;have iw:=hdq htr;have HE:=hdq hre;have HB:∀o o',Hid (Below w.heap.size w ((w.alloc o).alloc o')):=fun o o'=>hdq (((Below.refl _ w).alloc lrf o).alloc smp o');clear hl hrr hl' wO hsl gI htl htr hre hr;simp only [Rw.v,Rw.l,Rw.rt,Rw.c];cases sl
 ·go_enter Tryz.func125,Tryz.ntmps125;go_wp2_with fail;refine (dR _ _ _ _ _ _ _ _ _ _ ((HL.out.alloc _).alloc _) ((rz.out.alloc _).alloc _) dH.out).mono ?_;rintro e w1 ⟨rfl,q,rfl⟩;go_wp2_with fail;refine (jL _ _ _ _ _ _ _ _ _ _ (((HL.out.alloc _).alloc _).drewN _) (((rz.out.alloc _).alloc _).drewN _) yY.out).mono ?_;rintro e w1 ⟨rfl,hq⟩;have HQ:=hdq hq;clear hq;go_wp2;go_ret;exact ⟨by rw [HE.out];rfl,aG (aG (HB _ _).out ⟨_,rfl⟩) HQ.out⟩
 ·cases sr
  ·go_enter Tryz.func125,Tryz.ntmps125;go_wp2_with fail;refine (dR _ _ _ _ _ _ _ _ _ _ ((HL.out.alloc _).alloc _) ((rz.out.alloc _).alloc _) dH.out).mono ?_;rintro e w1 ⟨rfl,q,rfl⟩;go_wp2_with fail;refine (dR _ _ _ _ _ _ _ _ _ _ (((HRR.out.alloc _).alloc _).drewN _) (((uU.out.alloc _).alloc _).drewN _) uV.out).mono ?_;rintro e w1 ⟨rfl,q2,rfl⟩;go_wp2_with fail;refine (jL _ _ _ _ _ _ _ _ _ _ (((HRR.out.alloc _).alloc _).drewN _) (((uU.out.alloc _).alloc _).drewN _) iw.out).mono ?_;rintro e w1 ⟨rfl,hq⟩;have HQ:=hdq hq;clear hq;go_wp2;go_ret;exact ⟨by rw [HE.out];rfl,aG (aG (HB _ _).out ⟨_,rfl⟩) HQ.out⟩
  ·go_enter Tryz.func125,Tryz.ntmps125;go_wp2_with fail;refine (dR _ _ _ _ _ _ _ _ _ _ ((HL.out.alloc _).alloc _) ((rz.out.alloc _).alloc _) dH.out).mono ?_;rintro e w1 ⟨rfl,q,rfl⟩;go_wp2_with fail;refine (dR _ _ _ _ _ _ _ _ _ _ (((HRR.out.alloc _).alloc _).drewN _) (((uU.out.alloc _).alloc _).drewN _) uV.out).mono ?_;rintro e w1 ⟨rfl,q2,rfl⟩;go_wp2;go_ret;exact ⟨by rw [HE.out];rfl,aG (HB _ _).out ⟨_,rfl⟩⟩

end
section
open Go.RowKit

def qQ (c:Int):Bool:=decide (c≠9)&&decide (c≠10)&&decide (c≠32)
theorem Vh {l:LIn}:Spec.plain l=(l.all qQ&&!decide (l=[95])):=rfl

theorem Vi (a:OAd) (n cap:Nat) (l:LIn) (r:Bool) (w:World) (hs:Sl .i64 w a n cap l) (hr:Spec.plain l=r) :
 Calls Tryz.prog 124 #[.slice a n cap] w fun e w'=>e=.returned (.bool r)/\w=w':=by
 have hnc:=hs.2.1;have hcm:=hs.2.2.1;unfold maxLen at hcm;have HS:=hdq hs;have HL:=hdq hs.1;rw [Vh] at hr;have HR:=hdq hr;clear hs hr;go_enter Tryz.func124,Tryz.ntmps124;go_wp2;go_loopw [3] (fun ix wr=>∃i:Nat,i<=n/\ix=.int .i64 (i:Int)/\Hid (∀z∈l.take i,qQ z=true)/\wr=w) (fun ix _=>n-(intOf ix).toNat)
 case atStart=>exact ⟨0,Nat.zero_le _,rfl,by first|trivial|(intro z hz;simp at hz),rfl⟩
 case round =>
  obtain ⟨i,hi,rfl,HT,rfl⟩:=hrel;by_cases hlt:i<n
  ·have bB:(i:Int)<(n:Int):=omg;obtain ⟨b1,o1,rfl,hb1,hc1⟩:=HS.out.at omg;obtain ⟨x,hx⟩:∃x,x=l.getD i 0:=⟨_,rfl⟩;have hx1:=hc1 i hlt;rw [<-hx] at hx1;have hxm:x∈l:=by rw [hx,gdq,geg (by rw [HL.out];exact hlt),Option.getD_some];exact List.getElem_mem _
   have dS:=hdq hxm;have HX:=hdq hx
   have hbad:qQ x=false->r=false:=fun h=>by
    rw [<-HR.out,Bool.and_eq_false_iff];left;rw [List.all_eq_false];exact ⟨x,dS.out,by rw [h];decide⟩
   have HBAD:=hdq hbad;clear hc1 hx hxm hb1 hbad;by_cases h9:x=9
   ·have e9:(x==9)=true:=by simpa using h9
    obtain rfl:=HBAD.out (by rw [h9];decide);clear h9;go_wp2;go_ret;exact ⟨rfl,rfl⟩
   ·have e9:(x==9)=false:=by simpa using h9
    by_cases h10:x=10
    ·have e10:(x==10)=true:=by simpa using h10
     obtain rfl:=HBAD.out (by rw [h10];decide);clear h9 h10;go_wp2;go_ret;exact ⟨rfl,rfl⟩
    ·have e10:(x==10)=false:=by simpa using h10
     by_cases h32:x=32
     ·have e32:(x==32)=true:=by simpa using h32
      obtain rfl:=HBAD.out (by rw [h32];decide);clear h9 h10 h32;go_wp2;go_ret;exact ⟨rfl,rfl⟩
     ·have e32:(x==32)=false:=by simpa using h32
      have HP:Hid (qQ x=true):=by show _=_;simp [qQ,h9,h10,h32]
      clear h9 h10 h32;go_wp2;go_roundw
      case rel =>
       refine ⟨i+1,by omega,by go_num,?_,by first|rfl|trivial⟩;intro z hz;rw [tsa (by rw [HL.out];exact hlt)] at hz;rcases map1 hz with hz|hz
       ·exact HT.out z hz
       ·rw [msg hz];have h:=HX.out;rw [gdq,geg (by rw [HL.out];exact hlt),Option.getD_some] at h;rw [<-h];exact HP.out
      case measure=>simp [intOf];omega
  ·obtain rfl:i=n:=omg
   have hall:l.all qQ=true:=by
    rw [List.all_eq_true];intro z hz;exact HT.out z (by rw [tol (by rw [HL.out];exact Nat.le_refl _)];exact hz)
   have hr2:(!decide (l=[95]))=r:=by rw [<-HR.out,hall];rfl
   have HR2:=hdq hr2;clear hall hr2;by_cases h1:i=1
   ·subst h1;obtain ⟨b1,o1,rfl,hb1,hc1⟩:=HS.out.at omg;have hx1:=hc1 0 omg
    obtain ⟨x,hx⟩:∃x,l=[x]:=by
     match l,HL.out with
     | [x],_=>exact ⟨x,rfl⟩
    subst hx;have hx2:wr.cell? ⟨b1,o1,none⟩=some (.int .i64 x):=hx1
    have PO:(x != 95)=r:=by
     rw [<-HR2.out];by_cases h:x=95
     ·subst h;rfl
     ·simp [h]
    clear hc1 hb1;go_wp2;go_ret;exact ⟨by rw [<-PO];rfl,rfl⟩
   ·have e1:((i:Int) != 1)=true:=by simp;omega
    obtain rfl:r=true:=by
     rw [<-HR2.out];have:l≠[95]:=fun h=>h1 (by rw [<-HL.out,h];rfl);simp [this]
    go_wp2;go_ret;exact ⟨rfl,rfl⟩

theorem afM (x:Rw) (r:Bool) (w:World) (hx:x.Good w) (hr:Spec.fit x.r=r) :
 Calls Tryz.prog 77 #[x.v] w fun e w'=>e=.returned (.bool r)/\Below w.heap.size w w':=by
 obtain ⟨la,ln,lc,L,ra,rn,rc,R,C⟩:=x;have HX:=hdq hx;obtain ⟨ck,hck⟩:∃b,chk ⟨L,R,C⟩=b:=⟨_,rfl⟩;obtain ⟨pl,hpl⟩:∃b,Spec.plain L=b:=⟨_,rfl⟩;obtain ⟨pr,hpr⟩:∃b,Spec.plain R=b:=⟨_,rfl⟩
 have hrr:(ck&&pl&&pr)=r:=by
  rw [<-hr,<-hck,<-hpl,<-hpr];rfl
 have aC:=hdq hck;have fH:=hdq hpl;have wU:=hdq hpr;have HRR:=hdq hrr;have HB:∀o,Hid (Below w.heap.size w (w.alloc o)):=fun o=>(Below.refl _ w).alloc lrf o;clear hx hck hpl hpr hrr hr;simp only [Rw.v,Rw.l,Rw.rt,Rw.c];go_enter Tryz.func77,Tryz.ntmps77;go_wp2_with fail;refine (Nn ⟨la,ln,lc,L,ra,rn,rc,R,C⟩ ck _ (HX.out.alloc _) aC.out).mono ?_;rintro e w1 ⟨rfl,hb1⟩
 have hf1:w1.heap[w.heap.size]?=some (.cells #[.slice la ln lc,.slice ra rn rc,.int .u64 C] 74 (0,0)):=by
  rw [hb1.block _ (by unfold World.alloc;simp)];unfold World.alloc;simp
 have hc0:w1.cell? ⟨w.heap.size,0,none⟩=some (.slice la ln lc):=by simp [World.cell?,hf1]
 have hc1:w1.cell? ⟨w.heap.size,1,none⟩=some (.slice ra rn rc):=by simp [World.cell?,hf1]
 have HB1:Hid (Below w.heap.size w w1):=(HB _).out.trans (hb1.mono smp);have cO:Hid (Rw.Good w1 ⟨la,ln,lc,L,ra,rn,rc,R,C⟩):=(HX.out.alloc _).below hb1 lrf;clear hb1 hf1;go_wp2_with fail;refine (Vi la ln lc L pl w1 cO.out.1 fH.out).mono ?_;rintro e w2 ⟨rfl,rfl⟩;go_wp2_with fail;refine (Vi ra rn rc R pr w1 cO.out.2.1 wU.out).mono ?_;rintro e w2 ⟨rfl,rfl⟩;cases ck
 ·go_wp2;go_ret;exact ⟨by rw [<-HRR.out];rfl,HB1.out⟩
 ·cases pl
  ·go_wp2;go_ret;exact ⟨by rw [<-HRR.out];rfl,HB1.out⟩
  ·go_wp2;go_ret;exact ⟨by rw [<-HRR.out];rfl,HB1.out⟩

end
end Go.Proofs.YtkiamgcpcneggaaGreat
