import Derived.Test.YtkiamgcpcneggaaGreatSortPins
import Derived.Test.YtkiamgcpcneggaaGreatSortShelf
import Derived.Deep.CutRange
import Derived.Shelf.GgSortFunc.Tiny
set_option linter.all false
set_option maxRecDepth 100000
set_option maxHeartbeats 12800000
namespace Go.Proofs.YtkiamgcpcneggaaGreat
section
open Go.RowKit Go.Lib Go.Sort

variable {α:Type} [Inhabited α] {enc:α->List Value} {k blk off n g sf:Nat} {lb sb:Array Value} {lt:α->α->Bool} {w:World}

theorem Kp.world (W:World) (q:Nat) (D:Array α) (os:Array Obj):Kp blk W (sortWorldK enc k W blk off q D os):=by
 unfold sortWorldK;refine ⟨by rw [size_grow,size_putRowK];exact Nat.le_add_right _ _,fun b hb hne=>?_⟩;rw [heap_grow_old _ _ (by rw [size_putRowK];exact hb)];simp only [putRowK,putRow,mapBlock,Array.getElem?_modify];rw [if_neg (fun e=>hne e.symm)];rfl
theorem gG.worldly (S:gG Tryz.prog enc k lt g lb sf sb blk off n w) {D D':Array α} {W w':World} (hA:AtK enc k w blk off D W) (hD:D.size=n) (hD':D'.size=n) (h:∃q os,w'=sortWorldK enc k W blk off q D' os):Post enc k blk off n w W D' w':=by
 obtain ⟨q,os,rfl⟩:=h;exact ⟨hD',AtK.stepG hA S.old (hD'.trans hD.symm) ⟨q,os,rfl⟩,Kp.world W q D' os⟩
theorem ajJ (S:gG Tryz.prog enc k lt g lb sf sb blk off n w) (a b:Nat) (D:Array α) (W:World) (hA:AtK enc k w blk off D W) (hD:D.size=n) (hab:a<=b) (hb:b<=n) :
 Calls Tryz.prog 185 #[.agg #[.func (.func g) #[] lb,.func (.func sf) #[] sb],.int .i64 (a:Int),.int .i64 (b:Int)] W fun e w'=>e=.returned (.tuple #[])/\Post enc k blk off n w W (breakPatterns D a b) w':=by
 have h:=Any.breakPatterns_func_cells_w (P:=Tryz.prog) (ρ:=Tryz.sortS_ren) { Tryz.sortS with } enc k S.hk (.func g) #[] lb sf sb blk off a b D W (by rw [hD];exact S.swap) (S.holds hD hA) (by have:=AtK.le hA;have:=S.old;omega) hab omg (by rw [hD];exact S.few);refine Calls.mono (show Calls Tryz.prog 185 _ W _ from h) ?_;rintro e w' ⟨rfl,hw⟩;exact ⟨rfl,S.worldly hA hD (by rw [(breakPatterns_holds D a b hab omg).1,hD]) hw⟩
theorem ajK (S:gG Tryz.prog enc k lt g lb sf sb blk off n w) (a b:Nat) (D:Array α) (W:World) (hA:AtK enc k w blk off D W) (hD:D.size=n) (hab:a<=b) (hb:b<=n) :
 Calls Tryz.prog 187 #[.agg #[.func (.func g) #[] lb,.func (.func sf) #[] sb],.int .i64 (a:Int),.int .i64 (b:Int)] W fun e w'=>e=.returned (.tuple #[])/\Post enc k blk off n w W (reverseRange D a b) w':=by
 have h:=Any.reverseRange_func_cells_w (P:=Tryz.prog) (ρ:=Tryz.sortS_ren) { Tryz.sortS with } enc k S.hk (.func g) #[] lb sf sb blk off a b D W (by rw [hD];exact S.swap) (S.holds hD hA) (by have:=AtK.le hA;have:=S.old;omega) hab omg (by rw [hD];exact S.few);refine Calls.mono (show Calls Tryz.prog 187 _ W _ from h) ?_;rintro e w' ⟨rfl,hw⟩;exact ⟨rfl,S.worldly hA hD (by rw [(reverseRange_holds D a b hab omg).1,hD]) hw⟩

theorem ajL (S:gG Tryz.prog enc k lt g lb sf sb blk off n w) (hO:SWO lt):∀(N a b limit:Nat) (D:Array α) (W:World),b-a<N->AtK enc k w blk off D W->D.size=n->a<=b->b<=n->limit<4611686018427387904->Go.Sort.Below lt a b D ->
 Calls Tryz.prog 154 #[.agg #[.func (.func g) #[] lb,.func (.func sf) #[] sb],.int .i64 (a:Int),.int .i64 (b:Int),.int .i64 (limit:Int)] W fun e w'=>e=.returned (.tuple #[])/\Post enc k blk off n w W (pdq lt D a b limit true true) w':=by
 have HS:=hdq S;have eg:=S.eg;have hn:=S.few;intro N
 induction N with
 | zero=>intro _ _ _ _ _ h;exact absurd h (Nat.not_lt_zero _)
 | succ N ih =>
   intro a b limit D W hN hA hD hab hb hlimit hBel0;have Ck:=hdq ih;have jI:=hdq (Mid.start S hA hD 213);have HB0:=hdq hBel0;clear S ih hA hD hBel0;go_enter Tryz.func154,Tryz.ntmps154;go_wp2
   go_loopg [1,2,3,8,9] (b-a) (fun kx s1 s2 s3 s8 s9 wr=>∃(a' b' lim:Nat) (wb wp:Bool) (dk:Array α),s1=.int .i64 (a':Int)/\s2=.int .i64 (b':Int)/\s3=.int .i64 (lim:Int)/\s8=.bool wb/\s9=.bool wp /\
    a'<=b'/\b'<=n/\b'-a'<=kx/\kx<=b-a/\lim<=limit/\Hid (Go.Sort.Below lt a' b' dk)/\Hid (Mid enc k g lb sf sb blk off n w W dk wr)/\Hid (pdq lt dk a' b' lim wb wp=pdq lt D a b limit true true))
   case atStart=>exact ⟨a,b,limit,true,true,D,rfl,rfl,rfl,rfl,rfl,hab,hb,Nat.le_refl _,Nat.le_refl _,Nat.le_refl _,HB0,jI,hdq rfl⟩
   case round =>
    obtain ⟨a',b',lim,wb,wp,dk,rfl,rfl,rfl,rfl,rfl,hab',hb',hkx,hkN,hlim,HB,HM,HE⟩:=hrel;have x0:=HM.out.fn;have x1:=HM.out.sw;by_cases h12:b'-a'<=12
    ·have h12z:(b':Int)-(a':Int)<=12:=omg;have HC:=hdq (ajD HS.out a' b' dk wr HM.out.at HM.out.size hab' hb');go_wp2_with (go_at_call 183;refine HC.out.mono ?_;rintro e w_HP ⟨rfl,hp_HP⟩;have HP:=hdq (HM.out.next hp_HP);have c_HP:=HP.out.fn;have d_HP:=HP.out.sw;clear hp_HP)
     (try simp only [Exit.inBlock,Exit.then]);refine bodyPost_ret (results_none rfl _ _ _) rfl ?_
     refine ⟨rfl,?_⟩;rw [<-HE.out,pdq_small h12];exact HP.out.1
    ·have h12z:¬((b':Int)-(a':Int)<=12):=omg;by_cases hl0:lim=0
     ·subst hl0;have HC:=hdq (ajE HS.out a' b' dk wr HM.out.at HM.out.size hab' hb');go_wp2_with (go_at_call 184;refine HC.out.mono ?_;rintro e w_HP ⟨rfl,hp_HP⟩;have HP:=hdq (HM.out.next hp_HP);have c_HP:=HP.out.fn;have d_HP:=HP.out.sw;clear hp_HP)
      (try simp only [Exit.inBlock,Exit.then]);refine bodyPost_ret (results_none rfl _ _ _) rfl ?_
      refine ⟨rfl,?_⟩;rw [<-HE.out,pdq_heap h12 rfl];exact HP.out.1
     ·have hl0z:¬((lim:Int)=0):=omg;obtain ⟨s1,B1,hc1,s2,B2,hpv,s3,B3⟩:=rd_facts (lt:=lt) (limit:=lim) (wb:=wb) (wp:=wp) hO partialInsertionSort_holds reverseRange_holds (show a'<b' by omega) (show b'<=dk.size by rw [HM.out.size];exact hb') HB.out;have HB3:=hdq B3;have bU:=hdq (And.intro s1 (And.intro s2 s3));clear B1 B2 B3 s1 s2 s3;go_upto_if 35 with fail;go_cut [3] from 19 to 129 (fun s3 wc=>s3=.int .i64 ((rd lt dk a' b' lim wb wp).lim:Int)/\Hid (Mid enc k g lb sf sb blk off n w W (rd lt dk a' b' lim wb wp).d1 wc))
      case first =>
       cases wb
       ·have HC:=hdq (ajJ HS.out a' b' dk wr HM.out.at HM.out.size hab' hb');go_wp2_with (go_at_call 185;refine HC.out.mono ?_;rintro e w_HP ⟨rfl,hp_HP⟩;have HP:=hdq (HM.out.next hp_HP);have c_HP:=HP.out.fn;have d_HP:=HP.out.sw;clear hp_HP);go_meet
        case rel =>
         refine ⟨?_,HP⟩;show Value.int .i64 ((lim:Int)-1)=Value.int .i64 ((lim-1:Nat):Int)
         congr 1
         omega
       ·go_wp2_with fail;go_meet
        case rel=>exact ⟨rfl,HM⟩
      case rest =>
       obtain ⟨rfl,df⟩:=hcut;clear x0 x1;have x0:=df.out.fn;have x1:=df.out.sw;have hc:=ajF HS.out a' b' (rd lt dk a' b' lim wb wp).d1 wc df.out.at df.out.size (show a'<b' by omega) hb';rw [<-rd_c] at hc;have HC:=hdq hc;clear hc;go_upto_if 50 with (go_at_call 186;refine HC.out.mono ?_;rintro e w_HP ⟨rfl,hp_HP⟩;have HP:=hdq (df.out.next hp_HP);have c_HP:=HP.out.fn;have d_HP:=HP.out.sw;clear hp_HP);clear x0 x1;go_cut [11,12] from 19 to 129 (fun s11 s12 wc=>s11=.int .i64 ((rd lt dk a' b' lim wb wp).pivot:Int)/\s12=.int .i64 (hintCode (rd lt dk a' b' lim wb wp).hint)/\Hid (Mid enc k g lb sf sb blk off n w W (rd lt dk a' b' lim wb wp).d2 wc))
       case first =>
        by_cases hh:(rd lt dk a' b' lim wb wp).c.2=.decreasing
        ·have hcode:hintCode (rd lt dk a' b' lim wb wp).c.2=2:=by rw [hh];rfl
         obtain ⟨e2,epv,eht⟩:=rd_dec hh;have Bt:=hdq (ajK HS.out a' b' (rd lt dk a' b' lim wb wp).d1 w_HP HP.out.at HP.out.size hab' hb');have HE2:=hdq (And.intro e2 (And.intro epv eht));clear e2 epv eht;go_wp2_with (go_at_call 187;refine Bt.out.mono ?_;rintro e w_HV ⟨rfl,hp_HV⟩;have HV:=hdq (HP.out.next hp_HV);have c_HV:=HV.out.fn;have d_HV:=HV.out.sw;clear hp_HV);go_meet
         case rel =>
          refine ⟨?_,by rw [HE2.out.2.2];rfl,by rw [HE2.out.1];exact HV⟩;rw [HE2.out.2.1]
          congr 1
          omega
        ·have hcode:¬(hintCode (rd lt dk a' b' lim wb wp).c.2=2):=fun h=>hh (hintCode_two h);obtain ⟨e2,epv,eht⟩:=rd_not hh;have HE2:=hdq (And.intro e2 (And.intro epv eht));clear e2 epv eht;go_wp2_with fail;go_meet
         case rel=>exact ⟨by rw [HE2.out.2.1],by rw [HE2.out.2.2],by rw [HE2.out.1];exact HP⟩
       case rest =>
        obtain ⟨rfl,rfl,dI⟩:=hcut;clear c_HP d_HP;have x0:=dI.out.fn;have x1:=dI.out.sw;go_upto_region 16 with fail;go_cut [12,68] from 19 to 129 (fun s12 s68 wx=>s12=.int .i64 (hintCode (rd lt dk a' b' lim wb wp).hint)/\s68=.bool (wb&&wp&&decide ((rd lt dk a' b' lim wb wp).hint=.increasing))/\wx=wc)
        case first =>
         cases wb<;>cases wp<;>cases hh3:(rd lt dk a' b' lim _ _).hint <;>
          (have hcode3:=congrArg hintCode hh3
           simp only [hintCode] at hcode3;go_wp2_with fail;go_meet
           exact ⟨by simp [hh3,hintCode],by simp [hh3,hintCode],rfl⟩)
        case rest =>
         obtain ⟨rfl,rfl,rfl⟩:=hcut;go_upto_if 68 with fail;go_cut [] from 19 to 129 (fun wx=>(rd lt dk a' b' lim wb wp).pi.2=false/\Hid (Mid enc k g lb sf sb blk off n w W (rd lt dk a' b' lim wb wp).pi.1 wx))
         case first =>
          cases h68:(wb&&wp&&decide ((rd lt dk a' b' lim wb wp).hint=.increasing))
          ·have epi:=rd_pi_no h68;go_wp2_with fail;go_meet
           case rel=>exact ⟨by rw [epi],by rw [epi];exact dI⟩
          ·have epi:=rd_pi_yes h68;have HC3:=hdq (ajI HS.out a' b' (rd lt dk a' b' lim wb wp).d2 wc dI.out.at dI.out.size (show a'<b' by omega) hb' epi.symm);have FW:=hdq epi;clear epi;go_wp2_with (go_at_call 188;refine HC3.out.mono ?_;rintro e w_HQ ⟨rfl,hp_HQ⟩;have HQ:=hdq (dI.out.next hp_HQ);have c_HQ:=HQ.out.fn;have d_HQ:=HQ.out.sw;clear hp_HQ)
           all_goals first
            | (have hp2:(rd lt dk a' b' lim wb wp).pi.2=false:=by assumption
               go_meet
               exact ⟨hp2,HQ⟩)
            | (have hp2:(rd lt dk a' b' lim wb wp).pi.2=true:=by assumption
               (try simp only [Exit.inBlock,Exit.then]);refine bodyPost_ret (results_none rfl _ _ _) rfl ?_
               refine ⟨rfl,?_⟩;rw [<-HE.out,pdq_done h12 hl0 hp2]
               exact HQ.out.1)
         case rest =>
          obtain ⟨hp2,lK⟩:=hcut;clear x0 x1;have x0:=lK.out.fn;have x1:=lK.out.sw;go_upto_region 18 with fail;go_cut [83] from 19 to 129 (fun s83 wx=>s83=.bool (decide (a'>0)&&!lt (rd lt dk a' b' lim wb wp).pi.1[a'-1]! (rd lt dk a' b' lim wb wp).pi.1[(rd lt dk a' b' lim wb wp).pivot]!)/\Hid (Mid enc k g lb sf sb blk off n w W (rd lt dk a' b' lim wb wp).pi.1 wx))
          case first =>
           rcases Nat.eq_zero_or_pos a' with ha0|ha0
           ·have ha0z:decide ((a':Int)>0)=false:=decide_eq_false omg;go_wp2_with fail;go_meet
            case rel=>exact ⟨by simp [ha0],lK⟩
           ·have ha0z:(a':Int)>0:=omg
            cases hlv:lt (rd lt dk a' b' lim wb wp).pi.1[a'-1]! (rd lt dk a' b' lim wb wp).pi.1[(rd lt dk a' b' lim wb wp).pivot]! <;>
             (have dY:=hdq hlv
              clear hlv;go_wp2_with (go_at_fn g;refine (Mid.less HS.out lK.out (a'-1) (rd lt dk a' b' lim wb wp).pivot omg omg (I:=(a':Int)-1) (J:=((rd lt dk a' b' lim wb wp).pivot:Int)) omg rfl dY.out).mono ?_;rintro e w' ⟨rfl,hm⟩;have HL:=hdq hm;clear hm);go_meet
              exact ⟨by simp [ha0,dY.out],HL⟩)
          case rest =>
           obtain ⟨rfl,bC⟩:=hcut;clear x0 x1;have x0:=bC.out.fn;have x1:=bC.out.sw;have Rl:=bC.out.size;cases h87:(decide (a'>0)&&!lt (rd lt dk a' b' lim wb wp).pi.1[a'-1]! (rd lt dk a' b' lim wb wp).pi.1[(rd lt dk a' b' lim wb wp).pivot]!)
           ·obtain ⟨⟨mid,ap,d4⟩,hx⟩:∃r,partition lt (rd lt dk a' b' lim wb wp).pi.1 a' b' (rd lt dk a' b' lim wb wp).pivot=r:=⟨_,rfl⟩;obtain ⟨r1,r2,r3,r4,r5,r6,r7⟩:=round_part hO (partition_holds lt) hpv.1 hpv.2 (show b'<=(rd lt dk a' b' lim wb wp).pi.1.size by omega) HB3.out hx;have Rm:=hdq (ajH HS.out a' b' (rd lt dk a' b' lim wb wp).pivot (rd lt dk a' b' lim wb wp).pi.1 wc bC.out.at bC.out.size hpv.1 hpv.2 hb' hx);have X:=hdq hx;have R4:=hdq r4;have R5:=hdq r5;have R6:=hdq r6;have R7:=hdq r7;have hs4:d4.size=n:=r3.trans Rl;clear hx r3 r4 r5 r6 r7 Rl;go_upto_if 109 with (go_at_call 190;refine Rm.out.mono ?_;rintro e w_HT ⟨rfl,hp_HT⟩;have HT:=hdq (bC.out.next hp_HT);have c_HT:=HT.out.fn;have d_HT:=HT.out.sw;clear hp_HT);clear x0 x1;by_cases h4:mid-a'<b'-mid
            ·have h4z:(mid:Int)-(a':Int)<(b':Int)-(mid:Int):=omg;have Rn:=hdq (Ck.out a' mid (rd lt dk a' b' lim wb wp).lim d4 w_HT omg HT.out.at HT.out.size omg omg (Nat.lt_of_le_of_lt (Nat.le_trans rd_lim_le hlim) hlimit) R4.out);have fH:=hdq (pdq_sorts lt hO d4 a' mid (rd lt dk a' b' lim wb wp).lim true true omg omg R4.out);go_wp2_with (go_at_call 154;refine Rn.out.mono ?_;rintro e w8 ⟨rfl,hp⟩;have HZ:=hdq (HT.out.next hp);clear hp);go_roundg (b'-(mid+1))
             case measure=>omega
             case rel =>
              have hx:=X.out;refine ⟨mid+1,b',(rd lt dk a' b' lim wb wp).lim,decide (mid-a'>=(b'-a')/8),ap,pdq lt d4 a' mid (rd lt dk a' b' lim wb wp).lim true true,by simp,rfl,rfl,?_,rfl,by omega,by omega,Nat.le_refl _,by omega,Nat.le_trans rd_lim_le hlim,hdq (R6.out _ fH.out.1 fH.out.2).1,HZ,hdq ?_⟩
              ·exact congrArg Value.bool (eighth omg omg)
              ·rw [<-HE.out,pdq_left h12 hl0 hp2 h87 (by rw [hx];exact ⟨r1,r2⟩) (by rw [hx];exact h4),hx]
            ·have h4z:¬((mid:Int)-(a':Int)<(b':Int)-(mid:Int)):=omg;have hih:=Ck.out (mid+1) b' (rd lt dk a' b' lim wb wp).lim d4 w_HT omg HT.out.at HT.out.size omg omg (Nat.lt_of_le_of_lt (Nat.le_trans rd_lim_le hlim) hlimit) R5.out;rw [show ((mid+1:Nat):Int)=(mid:Int)+1 by omega] at hih;have Rn:=hdq hih;clear hih;have fH:=hdq (pdq_sorts lt hO d4 (mid+1) b' (rd lt dk a' b' lim wb wp).lim true true omg omg R5.out);go_wp2_with (go_at_call 154;refine Rn.out.mono ?_;rintro e w8 ⟨rfl,hp⟩;have HZ:=hdq (HT.out.next hp);clear hp);go_roundg (mid-a')
             case measure=>omega
             case rel =>
              have hx:=X.out;refine ⟨a',mid,(rd lt dk a' b' lim wb wp).lim,decide (b'-mid>=(b'-a')/8),ap,pdq lt d4 (mid+1) b' (rd lt dk a' b' lim wb wp).lim true true,rfl,rfl,rfl,?_,rfl,by omega,by omega,Nat.le_refl _,by omega,Nat.le_trans rd_lim_le hlim,hdq (R7.out _ fH.out.1 fH.out.2).1,HZ,hdq ?_⟩
              ·exact congrArg Value.bool (eighth omg omg)
              ·rw [<-HE.out,pdq_right h12 hl0 hp2 h87 (by rw [hx];exact ⟨r1,r2⟩) (by rw [hx];exact h4),hx]
           ·have h87':=h87;simp only [Bool.and_eq_true,decide_eq_true_eq,Bool.not_eq_true'] at h87';obtain ⟨⟨mid,d4⟩,hx⟩:∃r,partitionEqual lt (rd lt dk a' b' lim wb wp).pi.1 a' b' (rd lt dk a' b' lim wb wp).pivot=r:=⟨_,rfl⟩;obtain ⟨r1,r2,r3,r4,_⟩:=round_eq hO (partitionEqual_holds lt) h87'.1 hpv.1 hpv.2 (show b'<=(rd lt dk a' b' lim wb wp).pi.1.size by omega) HB3.out h87'.2 hx;have Rm:=hdq (ajG HS.out a' b' (rd lt dk a' b' lim wb wp).pivot (rd lt dk a' b' lim wb wp).pi.1 wc bC.out.at bC.out.size hpv.1 hpv.2 hb' hx);have X:=hdq hx;have R4:=hdq r4;clear hx r3 r4 h87' Rl;go_wp2_with (go_at_call 189;refine Rm.out.mono ?_;rintro e w_HT ⟨rfl,hp_HT⟩;have HT:=hdq (bC.out.next hp_HT);have c_HT:=HT.out.fn;have d_HT:=HT.out.sw;clear hp_HT);go_roundg (b'-mid)
            case measure=>omega
            case rel =>
             have hx:=X.out;exact ⟨mid,b',(rd lt dk a' b' lim wb wp).lim,wb,wp,d4,rfl,rfl,rfl,rfl,rfl,r2,hb',Nat.le_refl _,by omega,Nat.le_trans rd_lim_le hlim,R4,HT,hdq (by rw [<-HE.out,pdq_eq h12 hl0 hp2 h87 (by rw [hx];exact ⟨r1,r2⟩),hx])⟩
end
section
open Go.RowKit Go.Lib Go.Sort

variable {α:Type} [Inhabited α] {enc:α->List Value} {k blk off n g:Nat} {lb:Array Value} {lt:α->α->Bool} {w:World}

noncomputable def svT:TypeInfo:=(Tryz.prog.info? 102).get krf
noncomputable def svE:TypeInfo:=(Tryz.prog.info? 158).get krf
theorem svK (n:Nat) (h2:2<=n):Lib.swapperK n svE 25=9:=by
 have a:svE.hasPointers=true:=krf;have b:(svE.bytes==8)=false:=krf;have c:(n==0)=false:=by simp;omega
 have d:(n==1)=false:=by simp;omega
 simp [Lib.swapperK,a,b,c,d]
theorem ajM:Lib.swapperK 1 svE 25=2:=rfl

theorem ajN (hk:∀x,(enc x).length=5) (h1:∀x,∀v∈enc x,v.oneCell'=true) (hO:SWO lt) (eg:∀args w,(callFunc g args).run Tryz.prog w=.ok (.enter g args) w) (c:Nat) (d:Array α) (h0:1<=d.size) (hsz:d.size<4611686018427387904)
 (hless:∀(D:Array α) (W:World),D.size=d.size->AtK enc 5 w blk off D W->∀i j:Nat,i<d.size->j<d.size ->
  Calls Tryz.prog g (#[.int .i64 i,.int .i64 j]++lb) W fun e W'=>e=.returned (.bool (lt D[i]! D[j]!))/\∃q os,W'=Sort.grow (Sort.ahead W q) os)
 (hH:HoldsK enc 5 w blk off d) (hblk:blk<w.heap.size) :
 Calls Tryz.prog 116 #[.iface 102 (.slice (some ⟨blk,off,none⟩) d.size c),.func (.func g) #[] lb] w fun e w' =>
  e=.returned (.tuple #[])/\∃d',PermIn 0 d.size d d'/\SortedIn lt 0 d.size d'/\Post enc 5 blk off d.size w w d' w':=by
 rcases Nat.lt_or_ge d.size 2 with h2|h2
 ·have hd:d.size=1:=omg;have ht:=Any.sort_Slice_tiny (P:=Tryz.prog) (ρ:=Tryz.sortS_ren) Tryz.sortS 102 158 svT svE krf krf krf krf 25 (fun _=>by kernel_rfl) (some ⟨blk,off,none⟩) d.size c omg 173 (by rw [hd,ajM];kernel_rfl) (.func g) #[] lb w;refine Calls.mono (show Calls Tryz.prog 116 _ w _ from ht) ?_;rintro e w' ⟨rfl,os,rfl⟩;refine ⟨rfl,d,⟨rfl,fun _ _=>rfl,List.Perm.refl _⟩,fun i j h1 h2 h3=>by omega,rfl,⟨0,os,?_⟩,Kp.grow w 0 os⟩;rw [ahead_zero,putRowK_self enc 5 w blk off d hH]
 ·have S:gG Tryz.prog enc 5 lt g lb 180 #[.slice (some ⟨blk,off,none⟩) d.size c,typeHandle Tryz.prog 158] blk off d.size w :=
   ⟨hk,eg,hless,swapSwapsK_of_literal false 180 (fun args W=>run_callFunc_extern Tryz.func180 krf krf krf (e:=Extern.ReflectliteSwapper.swap false) krf args W) 158 svE krf enc 5 hk krf (fun _=>by kernel_rfl) h1 blk off d.size c,⟨d,rfl,hH⟩,hblk,hsz⟩
  have hB:sliceBound Tryz.prog 158 svE 25 (some ⟨blk,off,none⟩) d.size c=#[.slice (some ⟨blk,off,none⟩) d.size c,typeHandle Tryz.prog 158]:=by
   unfold sliceBound;rw [if_neg (swapperK_gt _ _ _ h2)]
  have hlim:Lib.bitLen d.size<4611686018427387904:=Nat.lt_of_le_of_lt (Lib.bitLen_le d.size 62 omg omg) omg;obtain ⟨W,hW⟩:∃W,sliceWorld Tryz.prog Tryz.sortS_ren 102 (some ⟨blk,off,none⟩) d.size c w=W:=⟨_,rfl⟩
  have hWg:∃os,W=Sort.grow w os:=by
   rw [<-hW];unfold sliceWorld;exact ⟨_,by rw [alloc_eq_grow,alloc_eq_grow,grow_grow]⟩
  obtain ⟨os,hos⟩:=hWg
  have hAW:AtK enc 5 w blk off d W:=by
   have:=S.same rfl (AtK.refl hH) 0 os;rw [ahead_zero,<-hos] at this;exact this
  have hKW:Kp blk w W:=by rw [hos];exact Kp.grow w 0 os
  have hp:=ajL S hO (d.size+1) 0 d.size (Lib.bitLen d.size) d W omg hAW rfl (Nat.zero_le _) lrf hlim (Or.inl rfl)
  have hs:=Any.sort_Slice_of_pdq (P:=Tryz.prog) (ρ:=Tryz.sortS_ren) Tryz.sortS 102 158 svT svE krf krf krf krf 25 (fun _=>by kernel_rfl) (some ⟨blk,off,none⟩) d.size c hsz 180 (by rw [svK _ h2];kernel_rfl) (.func g) #[] lb w
   (fun w'=>Post enc 5 blk off d.size w w (pdq lt d 0 d.size (Lib.bitLen d.size) true true) w') (by
    rw [hB,hW];refine Calls.mono (show Calls Tryz.prog 154 _ W _ from hp) ?_;rintro e w' ⟨rfl,h1,h2,h3⟩
    exact ⟨rfl,h1,h2,hKW.trans h3⟩)
  refine Calls.mono (show Calls Tryz.prog 116 _ w _ from hs) ?_;rintro e w' ⟨rfl,hP⟩;have h:=pdq_sorts lt hO d 0 d.size (Lib.bitLen d.size) true true (Nat.zero_le _) lrf (Or.inl rfl);exact ⟨rfl,_,h.1,h.2,hP⟩
end
end Go.Proofs.YtkiamgcpcneggaaGreat
