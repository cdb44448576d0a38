import Derived.Test.YtkiamgcpcneggaaGreatPackAC
set_option linter.all false
set_option maxRecDepth 100000
set_option maxHeartbeats 12800000
namespace Go.Proofs.YtkiamgcpcneggaaGreat
theorem z40 {P:Prop} (h:P:=by
 obtain ⟨u,du,rfl,hxu,hub,HU,HUU⟩:=hrel;have cu:=HU.out.fn;have du':=HU.out.sw;have BI:Hid (shiftUp lt b u du=du->fixUp lt b x (fixDown lt a x (swp dk x (x-1)))=du):=hdq (fun h=>by unfold fixUp;rw [if_pos hb2,zV.out,<-HUU.out,h]);by_cases hul:u<b
 ·have aoQ:(u:Int)<(b:Int):=omg
  cases oP:lt du[u]! du[u-1]! with
  | true =>
    have uo:=hdq oP;clear oP;go_wp2_with (go_at_fn g;refine (Mid.less HS.out HU.out (u) (u-1) omg omg (I:=(u:Int)) (J:=(u:Int)-1) omg omg uo.out).mono ?_;rintro e w_HUa ⟨rfl,hm_HUa⟩;have HUa:=hdq hm_HUa;have c_HUa:=hm_HUa.fn;have d_HUa:=hm_HUa.sw;obtain ⟨w_HUb,hs_HUb,hm_HUb⟩:=Mid.swap HS.out hm_HUa (u) (u-1) omg omg (I:=(u:Int)) (J:=(u:Int)-1) omg omg;have HUb:=hdq hm_HUb;have c_HUb:=hm_HUb.fn;have d_HUb:=hm_HUb.sw;clear hm_HUb;clear hm_HUa);go_roundw
    case rel=>exact ⟨u+1,swp du u (u-1),by go_num,by omega,by omega,HUb,hdq (by rw [<-HUU.out,shiftUp_go lt b u du hul uo.out])⟩
    case measure=>simp [intOf];omega
  | false =>
    have zW:=hdq (BI.out (shiftUp_stop lt b u du (.inr oP)));have uo:=hdq oP;clear oP;go_wp2_with (go_at_fn g;refine (Mid.less HS.out HU.out (u) (u-1) omg omg (I:=(u:Int)) (J:=(u:Int)-1) omg omg uo.out).mono ?_;rintro e w_HUa ⟨rfl,hm_HUa⟩;have HUa:=hdq hm_HUa;have c_HUa:=hm_HUa.fn;have d_HUa:=hm_HUa.sw;clear hm_HUa);go_roundw
    case rel=>exact ⟨x,s+1,du,by go_num,by go_num,by omega,by omega,by omega,HUa,hdq (by rw [<-FW.out,zW.out])⟩
    case measure=>simp [intOf];omega
 ·have aoQ:¬(u:Int)<(b:Int):=omg;have zW:=hdq (BI.out (shiftUp_stop lt b u du (.inl hul)));go_wp2;go_roundw
  case rel=>exact ⟨x,s+1,du,by go_num,by go_num,by omega,by omega,by omega,HU,hdq (by rw [<-FW.out,zW.out])⟩
  case measure=>simp [intOf];omega):P:=h
open Go.RowKit Go.Lib Go.Sort

variable {α:Type} [Inhabited α] {enc:α->List Value} {k blk off n g sf:Nat} {lb sb:Array Value} {lt:α->α->Bool} {w:World}

theorem ajI (S:gG Tryz.prog enc k lt g lb sf sb blk off n w) (a b:Nat) (D:Array α) (W:World) (hA:AtK enc k w blk off D W) (hD:D.size=n) (hab:a<b) (hb:b<=n) {R:Array α × Bool} (hr:partialInsertionSort lt D a b=R) :
 Calls Tryz.prog 188 #[.agg #[.func (.func g) #[] lb,.func (.func sf) #[] sb],.int .i64 (a:Int),.int .i64 (b:Int)] W fun e w'=>e=.returned (.bool R.2)/\Post enc k blk off n w W R.1 w':=by
 have HS:=hdq S;have eg:=S.eg;have hn:=S.few;have hm0:=Mid.start S hA hD 213;have HST:=hdq hm0;have HR:Hid (partialIns lt a b (5-0) (a+1) D=R):=hdq hr;clear S hA hD hm0 hr;go_enter Tryz.func188,Tryz.ntmps188;go_wp2;go_loopw [7,8] (fun vi vs wr=>∃(i s:Nat) (dk:Array α),vi=.int .i64 (i:Int)/\vs=.int .i64 (s:Int)/\s<=5/\a<i/\i<=b/\Hid (Mid enc k g lb sf sb blk off n w W dk wr)/\Hid (partialIns lt a b (5-s) i dk=R)) (fun vi vs _=>5-(intOf vs).toNat)
 case atStart=>exact ⟨a+1,0,D,by go_num,by go_num,by omega,by omega,by omega,HST,HR⟩
 case round =>
  obtain ⟨i,s,dk,rfl,rfl,hs5,hai,hib,HM,HE⟩:=hrel;by_cases hlt:s<5
  ·have hltz:(s:Int)<5:=omg;go_wp2;generalize wr=wq at *;go_loopw [7] (fun vi wr=>∃(x:Nat),vi=.int .i64 (x:Int)/\i<=x/\x<=b/\Hid (Mid enc k g lb sf sb blk off n w W dk wr)/\Hid (scanSorted lt dk b x=scanSorted lt dk b i)) (fun vi _=>b-(intOf vi).toNat)
   case atStart=>exact ⟨i,rfl,Nat.le_refl _,hib,HM,hdq rfl⟩
   case round =>
    obtain ⟨x,rfl,hix,hxb,HX,Cj⟩:=hrel;have cx:=HX.out.fn;have dx:=HX.out.sw;by_cases aaD:x<b
    ·have hxz:(x:Int)<(b:Int):=omg
     cases hlv:lt dk[x]! dk[x-1]! with
     | false =>
       have dY:=hdq hlv;clear hlv;go_wp2_with (go_at_fn g;refine (Mid.less HS.out HX.out (x) (x-1) omg omg (I:=(x:Int)) (J:=(x:Int)-1) omg omg dY.out).mono ?_;rintro e w_HXa ⟨rfl,hm_HXa⟩;have FX:=hdq hm_HXa;have c_HXa:=hm_HXa.fn;have d_HXa:=hm_HXa.sw;clear hm_HXa);go_roundw
       case rel=>exact ⟨x+1,by go_num,by omega,by omega,FX,hdq (by rw [<-Cj.out,scanSorted_go lt dk b x aaD dY.out])⟩
       case measure=>simp [intOf];omega
     | true =>
       have HK:Hid (scanSorted lt dk b i=x):=hdq (by rw [<-Cj.out,scanSorted_stop lt dk b x (.inr hlv)]);have dY:=hdq hlv;clear hlv;have aap:((x:Int)==(b:Int))=false:=by simpa using (show ¬(x:Int)=(b:Int) by omega)
       have asU:¬(x:Int)=(b:Int):=omg;have asV:¬x=b:=omg;by_cases h50:b-a<50
       ·have h50z:(b:Int)-(a:Int)<50:=omg;go_wp2_with (go_at_fn g;refine (Mid.less HS.out HX.out (x) (x-1) omg omg (I:=(x:Int)) (J:=(x:Int)-1) omg omg dY.out).mono ?_;rintro e w_HXa ⟨rfl,hm_HXa⟩;have FX:=hdq hm_HXa;have c_HXa:=hm_HXa.fn;have d_HXa:=hm_HXa.sw;clear hm_HXa);go_ret;have e:=HE.out;rw [pi_short lt a b s i dk hlt (by rw [HK.out];omega) h50] at e;rw [<-e];exact ⟨rfl,FX.out.1⟩
       ·have h50z:¬(b:Int)-(a:Int)<50:=omg;have FW:Hid (partialIns lt a b (5-(s+1)) x (fixUp lt b x (fixDown lt a x (swp dk x (x-1))))=R):=hdq (by rw [<-HE.out,pi_go lt a b s i x dk hlt HK.out omg h50]);by_cases ha2:x-a>=2
        ·have aoS:2<=(x:Int)-(a:Int):=omg;go_wp2_with (go_at_fn g;refine (Mid.less HS.out HX.out (x) (x-1) omg omg (I:=(x:Int)) (J:=(x:Int)-1) omg omg dY.out).mono ?_;rintro e w_HXa ⟨rfl,hm_HXa⟩;have FX:=hdq hm_HXa;have c_HXa:=hm_HXa.fn;have d_HXa:=hm_HXa.sw;obtain ⟨w_HD,hs_HD,hm_HD⟩:=Mid.swap HS.out hm_HXa (x) (x-1) omg omg (I:=(x:Int)) (J:=(x:Int)-1) omg omg;have HD:=hdq hm_HD;have c_HD:=hm_HD.fn;have d_HD:=hm_HD.sw;clear hm_HD;clear hm_HXa);generalize wr=wd at *;go_loopw [9] (fun vj wr=>∃(j:Nat) (dj:Array α),vj=.int .i64 (j:Int)/\j<=x-1/\Hid (Mid enc k g lb sf sb blk off n w W dj wr)/\Hid (shiftDown lt j dj=shiftDown lt (x-1) (swp dk x (x-1)))) (fun vj _=>(intOf vj).toNat)
         case atStart=>exact ⟨x-1,swp dk x (x-1),by go_num,Nat.le_refl _,HD,hdq rfl⟩
         case round =>
          obtain ⟨j,dj,rfl,tL,HJ,HJJ⟩:=hrel;have cj:=HJ.out.fn;have dj':=HJ.out.sw;have HFD:Hid (shiftDown lt j dj=dj->fixDown lt a x (swp dk x (x-1))=dj):=hdq (fun h=>by unfold fixDown;rw [if_pos ha2,<-HJJ.out,h]);by_cases hj1:1<=j
          ·have hj1z:1<=(j:Int):=omg
           cases oP:lt dj[j]! dj[j-1]! with
           | true =>
             have uo:=hdq oP;clear oP;go_wp2_with (go_at_fn g;refine (Mid.less HS.out HJ.out (j) (j-1) omg omg (I:=(j:Int)) (J:=(j:Int)-1) omg omg uo.out).mono ?_;rintro e w_HJa ⟨rfl,hm_HJa⟩;have KN:=hdq hm_HJa;have c_HJa:=hm_HJa.fn;have d_HJa:=hm_HJa.sw;obtain ⟨w_HJb,hs_HJb,hm_HJb⟩:=Mid.swap HS.out hm_HJa (j) (j-1) omg omg (I:=(j:Int)) (J:=(j:Int)-1) omg omg;have HJb:=hdq hm_HJb;have c_HJb:=hm_HJb.fn;have d_HJb:=hm_HJb.sw;clear hm_HJb;clear hm_HJa);go_roundw
             case rel=>exact ⟨j-1,swp dj j (j-1),by go_num,by omega,HJb,hdq (by rw [<-HJJ.out,shiftDown_go lt j dj hj1 uo.out])⟩
             case measure=>simp [intOf];omega
           | false =>
             have zV:=hdq (HFD.out (shiftDown_stop lt j dj (.inr oP)));have uo:=hdq oP;clear oP;by_cases hb2:b-x>=2
             ·have KO:2<=(b:Int)-(x:Int):=omg;go_wp2_with (go_at_fn g;refine (Mid.less HS.out HJ.out (j) (j-1) omg omg (I:=(j:Int)) (J:=(j:Int)-1) omg omg uo.out).mono ?_;rintro e w_HJa ⟨rfl,hm_HJa⟩;have KN:=hdq hm_HJa;have c_HJa:=hm_HJa.fn;have d_HJa:=hm_HJa.sw;clear hm_HJa)
              (try generalize wr=wja at *)
              go_loopw [10] (fun vj wr=>∃(u:Nat) (du:Array α),vj=.int .i64 (u:Int)/\x+1<=u/\u<=b/\Hid (Mid enc k g lb sf sb blk off n w W du wr)/\Hid (shiftUp lt b u du=shiftUp lt b (x+1) dj)) (fun vj _=>b-(intOf vj).toNat)
              case atStart=>exact ⟨x+1,dj,by go_num,Nat.le_refl _,by omega,KN,hdq rfl⟩
              case round =>
               exact z40
             ·have KO:¬2<=(b:Int)-(x:Int):=omg;have zW:Hid (fixUp lt b x (fixDown lt a x (swp dk x (x-1)))=dj):=hdq (by unfold fixUp;rw [if_neg hb2,zV.out]);go_wp2_with (go_at_fn g;refine (Mid.less HS.out HJ.out (j) (j-1) omg omg (I:=(j:Int)) (J:=(j:Int)-1) omg omg uo.out).mono ?_;rintro e w_HJa ⟨rfl,hm_HJa⟩;have KN:=hdq hm_HJa;have c_HJa:=hm_HJa.fn;have d_HJa:=hm_HJa.sw;clear hm_HJa);go_roundw
              case rel=>exact ⟨x,s+1,dj,by go_num,by go_num,by omega,by omega,by omega,KN,hdq (by rw [<-FW.out,zW.out])⟩
              case measure=>simp [intOf];omega
          ·have hj1z:¬1<=(j:Int):=omg;have zV:=hdq (HFD.out (shiftDown_stop lt j dj (.inl omg)));by_cases hb2:b-x>=2
           ·have KO:2<=(b:Int)-(x:Int):=omg;go_wp2
            (try generalize wr=wjb at *)
            go_loopw [10] (fun vj wr=>∃(u:Nat) (du:Array α),vj=.int .i64 (u:Int)/\x+1<=u/\u<=b/\Hid (Mid enc k g lb sf sb blk off n w W du wr)/\Hid (shiftUp lt b u du=shiftUp lt b (x+1) dj)) (fun vj _=>b-(intOf vj).toNat)
            case atStart=>exact ⟨x+1,dj,by go_num,Nat.le_refl _,by omega,HJ,hdq rfl⟩
            case round =>
             exact z40
           ·have KO:¬2<=(b:Int)-(x:Int):=omg;have zW:Hid (fixUp lt b x (fixDown lt a x (swp dk x (x-1)))=dj):=hdq (by unfold fixUp;rw [if_neg hb2,zV.out]);go_wp2;go_roundw
            case rel=>exact ⟨x,s+1,dj,by go_num,by go_num,by omega,by omega,by omega,HJ,hdq (by rw [<-FW.out,zW.out])⟩
            case measure=>simp [intOf];omega
        ·have aoS:¬2<=(x:Int)-(a:Int):=omg;have zV:Hid (fixDown lt a x (swp dk x (x-1))=swp dk x (x-1)):=hdq (by unfold fixDown;rw [if_neg ha2]);by_cases hb2:b-x>=2
         ·have KO:2<=(b:Int)-(x:Int):=omg;go_wp2_with (go_at_fn g;refine (Mid.less HS.out HX.out (x) (x-1) omg omg (I:=(x:Int)) (J:=(x:Int)-1) omg omg dY.out).mono ?_;rintro e w_HXa ⟨rfl,hm_HXa⟩;have FX:=hdq hm_HXa;have c_HXa:=hm_HXa.fn;have d_HXa:=hm_HXa.sw;obtain ⟨w_HD,hs_HD,hm_HD⟩:=Mid.swap HS.out hm_HXa (x) (x-1) omg omg (I:=(x:Int)) (J:=(x:Int)-1) omg omg;have HD:=hdq hm_HD;have c_HD:=hm_HD.fn;have d_HD:=hm_HD.sw;clear hm_HD;clear hm_HXa)
          (try generalize wr=wjc at *)
          go_loopw [10] (fun vj wr=>∃(u:Nat) (du:Array α),vj=.int .i64 (u:Int)/\x+1<=u/\u<=b/\Hid (Mid enc k g lb sf sb blk off n w W du wr)/\Hid (shiftUp lt b u du=shiftUp lt b (x+1) (swp dk x (x-1)))) (fun vj _=>b-(intOf vj).toNat)
          case atStart=>exact ⟨x+1,(swp dk x (x-1)),by go_num,Nat.le_refl _,by omega,HD,hdq rfl⟩
          case round =>
           exact z40
         ·exfalso;omega
    ·have hxz:¬(x:Int)<(b:Int):=omg;obtain rfl:x=b:=omg;have HK:Hid (scanSorted lt dk x i=x):=hdq (by rw [<-Cj.out,scanSorted_stop lt dk x x (.inl aaD)]);go_wp2;go_ret;have e:=HE.out;rw [pi_true lt a x s i dk hlt HK.out] at e;rw [<-e];exact ⟨rfl,HX.out.1⟩
  ·have hltz:¬(s:Int)<5:=omg;obtain rfl:s=5:=omg;go_wp2;go_ret;have e:=HE.out;rw [pi_end lt a b i dk] at e;rw [<-e];exact ⟨rfl,HM.out.1⟩
end Go.Proofs.YtkiamgcpcneggaaGreat
