import Derived.Test.YtkiamgcpcneggaaGreatPackI
import Derived.Shelf.Spec.SlicesInsertGrow
import Derived.Test.YtkiamgcpcneggaaGreatPackF
import Derived.Test.YtkiamgcpcneggaaGreatPackE
set_option linter.all false
set_option maxRecDepth 100000
set_option maxHeartbeats 12800000
namespace Go.Proofs.YtkiamgcpcneggaaGreat
section
theorem z9 {P:Prop} (h:P:=by
 go_enter Tryz.func58,Tryz.ntmps58;go_wp2_with (go_at_call 60;refine (yA n _ h0 h1).mono ?_;rintro e w' ⟨rfl,rfl⟩;rw [hg]);go_ret
 exact ⟨rfl,rfl⟩):P:=h
open Go.RowKit

theorem VP (n:Int) (r:Bool) (w:World) (h0:-9223372036854775808<=n) (h1:n<=9223372036854775807) (hr:Wl.may n=!r) :
 Calls Tryz.prog 58 #[.int .i64 n] w fun e w'=>e=.returned (.bool r)/\w'=w:=by
 unfold Wl.may at hr;by_cases a:n=9
 ·subst a;obtain rfl:r=true:=by simpa using hr
  go_enter Tryz.func58,Tryz.ntmps58;go_wp2;go_ret;exact ⟨rfl,rfl⟩
 ·by_cases b:n=10
  ·subst b;obtain rfl:r=true:=by simpa using hr
   go_enter Tryz.func58,Tryz.ntmps58;go_wp2;go_ret;exact ⟨rfl,rfl⟩
  ·by_cases c:n=32
   ·subst c;obtain rfl:r=true:=by simpa using hr
    go_enter Tryz.func58,Tryz.ntmps58;go_wp2;go_ret;exact ⟨rfl,rfl⟩
   ·have hg:Utf.good n=!r:=by simpa [a,b,c] using hr
    have ea:(n==9)=false:=by simpa using a
    have eb:(n==10)=false:=by simpa using b
    have ec:(n==32)=false:=by simpa using c
    cases r
    ·exact z9
    ·exact z9

theorem VQ {p:Int->Bool} {l:LIn} {j:Nat} (h:(l.take j).all p=true) (hj:j<l.length) (hz:p (l.getD j 0)=true):(l.take (j+1)).all p=true:=by
 rw [tsa hj,List.all_append,h];simp only [gdq,geg hj,Option.getD_some] at hz;simp [hz]
theorem VR {p:Int->Bool} {l:LIn} {j:Nat} (hj:j<l.length) (hz:p (l.getD j 0)=false):l.all p=false:=by
 rw [List.all_eq_false];simp only [gdq,geg hj,Option.getD_some] at hz;exact ⟨_,List.getElem_mem hj,by rw [hz];decide⟩

theorem aib (a:OAd) (n cap:Nat) (zs:LIn) (r:Bool) (w:World) (hs:Sl .i64 w a n cap zs) (hr:zs.all Wl.may=!r) :
 Calls Tryz.prog 105 #[.slice a n cap,.func (.func 58) #[] #[]] w fun e w'=>∃k:Int,e=.returned (.int .i64 k)/\decide (0<=k)=r/\w'=w:=by
 have hl:=hs.1;have hnc:=hs.2.1;have hcm:=hs.2.2.1;unfold maxLen at hcm;have HS:=hdq hs;have HR:=hdq hr;have HL:=hdq hl;clear hs hr hl;go_enter Tryz.func105,Tryz.ntmps105;go_wp2;go_loopw [8] (fun ix wr=>∃j:Nat,j<=n/\ix=.int .i64 (j:Int)/\Hid ((zs.take j).all Wl.may=true)/\wr=w) (fun ix _=>n-(intOf ix).toNat)
 case atStart=>exact ⟨0,Nat.zero_le _,rfl,by first|rfl|trivial,rfl⟩
 case round =>
  obtain ⟨j,hj,rfl,HT,rfl⟩:=hrel;by_cases hlt:j<n
  ·obtain ⟨b,off,rfl,hb,hc⟩:=HS.out.at omg;have hx:=hc j hlt;have hwf:=HS.out.2.2.2.1 (zs.getD j 0) (by rw [gdq,geg (by rw [HL.out];exact hlt),Option.getD_some];exact List.getElem_mem _);obtain ⟨z,hz⟩:∃z,zs.getD j 0=z:=⟨_,rfl⟩;rw [hz] at hx hwf;obtain ⟨q,hq⟩:∃q,Wl.may z=!q:=⟨!Wl.may z,by simp⟩
   have hb0:-9223372036854775808<=z/\z<=9223372036854775807:=by
    simp [Lit.wf,IntKind.min,IntKind.max,IntKind.signed,IntKind.bits] at hwf;omega
   have HB0:=hdq hb0;have HZ:=hdq hz;have HQ:=hdq hq;have bB:(j:Int)<(n:Int):=omg;clear hc hz hq hwf hb0;cases q
   ·go_wp2_with (refine (VP z false _ HB0.out.1 HB0.out.2 HQ.out).mono ?_;rintro e w1 ⟨rfl,rfl⟩);go_roundw
    case rel=>exact ⟨j+1,by omega,by go_num,VQ HT.out (by rw [HL.out];exact hlt) (by rw [HZ.out];exact HQ.out),trivial⟩
    case measure=>simp [intOf];omega
   ·have HF:Hid (zs.all Wl.may=false):=VR (by rw [HL.out];exact hlt) (by rw [HZ.out];exact HQ.out);go_wp2_with (refine (VP z true _ HB0.out.1 HB0.out.2 HQ.out).mono ?_;rintro e w1 ⟨rfl,rfl⟩);go_ret;refine ⟨(j:Int),rfl,?_,rfl⟩;have h:=HR.out;rw [HF.out] at h;have:r=true:=by simpa using h.symm
    rw [this];simp
  ·obtain rfl:j=n:=omg
   have HA:Hid (zs.all Wl.may=true):=by
    have h:=HT.out;rw [tol (by rw [HL.out];exact Nat.le_refl _)] at h;exact h
   go_wp2;go_ret;refine ⟨-1,rfl,?_,rfl⟩;have h:=HR.out;rw [HA.out] at h;have:r=false:=by simpa using h.symm
   rw [this];decide

theorem aic (a:OAd) (n cap:Nat) (zs:LIn) (r:Bool) (w:World) (hs:Sl .i64 w a n cap zs) (hr:zs.all Wl.may=!r) :
 Calls Tryz.prog 57 #[.slice a n cap,.func (.func 58) #[] #[]] w fun e w'=>e=.returned (.bool r)/\w'=w:=by
 go_enter Tryz.func57,Tryz.ntmps57;go_wp2_with (go_at_call 105;refine (aib a n cap zs r _ hs hr).mono ?_;rintro e w' ⟨k,rfl,hk,rfl⟩);go_ret;exact ⟨rfl,rfl⟩

theorem VS (a:OAd) (n cap:Nat) (zs:LIn) (r:Bool) (w:World) (hs:Sl .i64 w a n cap zs) (hr:Wl.fit zs=r) :
 Calls Tryz.prog 25 #[.slice a n cap] w fun e w'=>e=.returned (.bool r)/\w'=w:=by
 have hl:=hs.1;have hnc:=hs.2.1;have hcm:=hs.2.2.1;unfold maxLen at hcm;unfold Wl.fit at hr;rw [hl] at hr;have HS:=hdq hs;rcases Nat.eq_zero_or_pos n with h0|hp
 ·subst h0;obtain rfl:r=false:=by rw [<-hr];rfl
  clear hs;go_enter Tryz.func25,Tryz.ntmps25;go_wp2;go_ret;exact ⟨rfl,rfl⟩
 ·have hn0:((n:Int)==0)=false:=by simp;omega
  by_cases h20:20<n
  ·obtain rfl:r=false:=by rw [<-hr];simp [show ¬n<=20 by omega]
   have Qg:(20:Int)<(n:Int):=omg;clear hs hr;go_enter Tryz.func25,Tryz.ntmps25;go_wp2;go_ret;exact ⟨rfl,rfl⟩
  ·obtain ⟨b,off,rfl,hb,hc⟩:=hs.at hp;have hx:w.cell? ⟨b,off,none⟩=some (.int .i64 (zs.getD 0 0)):=hc 0 hp;obtain ⟨z,hz⟩:∃z,zs.getD 0 0=z:=⟨_,rfl⟩;rw [hz] at hx hr;have Qg:¬(20:Int)<(n:Int):=omg;have h0i:(0:Int)<(n:Int):=omg
   have hr2:(zs.all Wl.may&&!decide (z=35))=r:=by
    rw [<-hr];simp [show 1<=n by omega,show n<=20 by omega]
   clear hs hr hc hz;by_cases hh:z=35
   ·subst hh;obtain rfl:r=false:=by rw [<-hr2];simp
    clear hr2;go_enter Tryz.func25,Tryz.ntmps25;go_wp2;go_ret;exact ⟨rfl,rfl⟩
   ·have hzz:(z==35)=false:=by simpa using hh
    have hr3:zs.all Wl.may=r:=by rw [<-hr2,decide_eq_false hh];simp
    have HR3:Hid (zs.all Wl.may=!(!r)):=by show _=_;rw [Bool.not_not];exact hr3
    clear hr2 hr3 hh;go_enter Tryz.func25,Tryz.ntmps25;go_wp2_with (go_at_call 57;refine (aic (some ⟨b,off,none⟩) n cap zs (!r) _ HS.out HR3.out).mono ?_;rintro e w' ⟨rfl,rfl⟩);go_ret
    first|exact ⟨rfl,rfl⟩|exact ⟨by simp,rfl⟩

theorem NJ {xs:List Wd} {j:Nat} {z:LIn} (hj:j<xs.length) (hz:(nums xs).getD j []=z):(nums xs).take (j+1)=(nums xs).take j++[z]:=by
 have hl:j<(nums xs).length:=by rw [nums_length];exact hj
 rw [tsa hl]
 congr 2
 rw [<-hz,gdq,geg hl,Option.getD_some]

theorem NK (a:OAd) (n cap:Nat) (xs:List Wd) (r:Bool) (w:World) (hs:Ws w a n cap xs) (hr:(nums xs).all Wl.fit=r) :
 Calls Tryz.prog 40 #[.slice a n cap] w fun e w'=>e=.returned (.bool r)/\w'=w:=by
 have hnc:=hs.2.1;have hcm:=hs.2.2.1;unfold maxLen at hcm;have HS:=hdq hs;have HR:=hdq hr;have HL:=hdq hs.1;clear hs hr;go_enter Tryz.func40,Tryz.ntmps40;go_wp2;go_loopw [7] (fun ix wr=>∃j:Nat,j<=n/\ix=.int .i64 (j:Int)/\Hid (((nums xs).take j).all Wl.fit=true)/\wr=w) (fun ix _=>n-(intOf ix).toNat)
 case atStart=>exact ⟨0,Nat.zero_le _,rfl,by first|rfl|trivial,rfl⟩
 case round =>
  obtain ⟨j,hj,rfl,HT,rfl⟩:=hrel;by_cases hlt:j<n
  ·obtain ⟨b1,o1,a1,n1,c1,z1,rfl,hb1,hx,hc,hs1,hz1⟩:=HS.out.one j hlt;have bR:=hdq hs1;have HZ:Hid ((nums xs).take (j+1)=(nums xs).take j++[z1]):=NJ (by rw [HL.out];exact hlt) hz1;have bB:(j:Int)<(n:Int):=omg;obtain ⟨q,hq⟩:∃q,Wl.fit z1=q:=⟨_,rfl⟩;have HQ:=hdq hq;clear hx hs1 hz1 hq;cases q
   ·obtain rfl:r=false:=by
     rw [<-HR.out,List.all_eq_false];refine ⟨z1,?_,by rw [HQ.out];decide⟩;have:z1∈(nums xs).take (j+1):=by rw [HZ.out];simp
     exact List.mem_of_mem_take this
    go_wp2_with (go_at_call 25;refine (VS a1 n1 c1 z1 false _ bR.out HQ.out).mono ?_;rintro e w1 ⟨rfl,rfl⟩);go_ret;exact ⟨rfl,rfl⟩
   ·go_wp2_with (go_at_call 25;refine (VS a1 n1 c1 z1 true _ bR.out HQ.out).mono ?_;rintro e w1 ⟨rfl,rfl⟩);go_roundw
    case rel =>
     refine ⟨j+1,by omega,by go_num,?_,trivial⟩;show _=_;rw [HZ.out,List.all_append,HT.out];simp [HQ.out]
    case measure=>simp [intOf];omega
  ·obtain rfl:j=n:=omg
   obtain rfl:r=true:=by
    rw [<-HR.out,<-HT.out,tol (by rw [nums_length,HL.out];exact Nat.le_refl _)]
   go_wp2;go_ret;exact ⟨rfl,rfl⟩

end
section
open Go Go.RowKit Go.Lib

end
section
open Go.RowKit

theorem VU {l:LLI} {i:Nat} (hi:i+1<l.length) (h:lessL (l.getD i []) (l.getD (i+1) [])=false):Wl.rises l=false:=by
 cases hr:Wl.rises l with
 | false=>rfl
 | true =>
   have:=(Wl.NI.1 hr).at (show i<i+1 by omega) hi;rw [h] at this;cases this
theorem NM:∀{l:LLI},(∀i,i+1<l.length->lessL (l.getD i []) (l.getD (i+1) [])=true)->Wl.rises l=true
 | [],_=>rfl
 | [_],_=>rfl
 | x::y::l,h=>by
   have h0:=h 0 smp
   have ih:=NM (l:=y::l) (fun i hi=>by
    have:=h (i+1) (by simp at hi ⊢;omega)
    simpa using this)
   unfold Wl.rises;simp only [List.getD_cons_zero,List.getD_cons_succ] at h0;rw [h0,ih];rfl

theorem VV (a:OAd) (n cap:Nat) (xs:List Wd) (r:Bool) (w:World) (hs:Ws w a n cap xs) (hr:Wl.rises (nums xs)=r) :
 Calls Tryz.prog 41 #[.slice a n cap] w fun e w'=>e=.returned (.bool r)/\∃q,w'=w.drewN q:=by
 have hnc:=hs.2.1;have hcm:=hs.2.2.1;unfold maxLen at hcm;have HS:=hdq hs;have HR:=hdq hr;have HL:Hid ((nums xs).length=n):=by show _=_;rw [nums_length,hs.1]
 clear hs hr;go_enter Tryz.func41,Tryz.ntmps41;go_wp2;go_loopw [3] (fun ix wr=>∃p:Nat,(p+1<=n\/p=0)/\ix=.int .i64 ((p:Int)+1)/\Hid (∀i,i+1<p+1->i+1<n->lessL ((nums xs).getD i []) ((nums xs).getD (i+1) [])=true)/\Hid (∃q,wr=w.drewN q)) (fun ix _=>n-(intOf ix).toNat)
 case atStart=>exact ⟨0,.inr rfl,rfl,fun i hi=>by omega,⟨0,rfl⟩⟩
 case round =>
  obtain ⟨p,hp,rfl,HT,HW⟩:=hrel;by_cases hlt:p+1<n
  ·obtain ⟨b1,o1,a1,n1,c1,z1,rfl,hb1,hx1,hc1,hs1,hz1⟩:=(HS.out.drawn HW.out).one p omg;obtain ⟨b2,o2,a2,n2,c2,z2,hb2,_,hx2,hc2,hs2,hz2⟩:=(HS.out.drawn HW.out).one (p+1) hlt;simp only [sij,Addr.mk.injEq,and_true] at hb2;obtain ⟨rfl,rfl⟩:=hb2;have bR:=hdq hs1;have HS2:=hdq hs2;have HZ1:=hdq hz1;have HZ2:=hdq hz2;obtain ⟨q,hq⟩:∃q,lessL z1 z2=q:=⟨_,rfl⟩;have HQ:=hdq hq;have bB:(p:Int)+1<(n:Int):=omg;have hpw:IntKind.i64.wrap ((p:Int)+1-1)=(p:Int):=by rw [IntKind.wrap_i64];omega
   have hpn:(p:Int)<(n:Int):=omg;have hp0:(0:Int)<=(p:Int):=omg;have hp1:(0:Int)<=(p:Int)+1:=omg;have htn:((p:Int)+1).toNat=p+1:=omg;have hc2':wr.cell? ⟨b1,o1+(p+1),none⟩=some (.slice a2 n2 c2):=hc2;clear hx1 hs1 hz1 hx2 hs2 hz2 hq hc2;cases q
   ·have HF:Hid (Wl.rises (nums xs)=false):=VU (i:=p) (by rw [HL.out];exact hlt) (by rw [HZ1.out,HZ2.out];exact HQ.out);obtain rfl:r=false:=by rw [<-HR.out];exact HF.out
    go_wp2_with fail;go_quiet ((go_at_call 85;exact Calls.quiet_of (yt a1 a2 n1 n2 c1 c2 z1 z2 false _ (bR.out.drewN _) (HS2.out.drewN _) HQ.out)));go_wp2;go_ret;obtain ⟨q,rfl⟩:=HW.out;exact ⟨rfl,_,World.drewN_drewN _ _ _⟩
   ·go_wp2_with fail;go_quiet ((go_at_call 85;exact Calls.quiet_of (yt a1 a2 n1 n2 c1 c2 z1 z2 true _ (bR.out.drewN _) (HS2.out.drewN _) HQ.out)));go_wp2;go_roundw
    case rel =>
     refine ⟨p+1,.inl omg,by go_num,?_,?_⟩
     ·intro i h1 h2;rcases Nat.lt_or_ge (i+1) (p+1) with h|h
      ·exact HT.out i h h2
      ·obtain rfl:i=p:=omg;rw [HZ1.out,HZ2.out];exact HQ.out
     ·obtain ⟨q,rfl⟩:=HW.out;exact ⟨_,World.drewN_drewN _ _ _⟩
    case measure=>simp [intOf];omega
  ·obtain rfl:r=true:=by
    rw [<-HR.out];exact NM fun i hi=>HT.out i (by rw [HL.out] at hi;omega) (by rw [HL.out] at hi;exact hi)
   have bB:¬(p:Int)+1<(n:Int):=omg;go_wp2;go_ret;exact ⟨rfl,HW.out⟩

def Held (B:Nat) (w:World) (a:OAd) (n c:Nat) (xs:List Wd):Prop :=
 w.ownsRow B 51 1 (.slice a n c) n (vals xs)/\(∀x∈xs,x.Good w/\x.Far (Value.slice a n c).ownBlock)/\(a=none->c=0)
end
section
open Go.RowKit

def VW (w w':World) (e:Ending) (p:LIn × Int):Prop :=
 ∃a c,e=.returned (.tuple #[.slice a p.1.length c,.int .i64 p.2])/\Sl .u8 w' a p.1.length c p.1/\(a=none->c=0)/\Below w.heap.size w w'

def iP (l:LLI):LIn:=l.flatMap fun w=>Utf.put w++[10]
theorem NN (l:LLI) (z:LIn):iP (l++[z])=iP l++Utf.put z++[10]:=by
 unfold iP;rw [List.flatMap_append,List.append_assoc];simp
theorem VX {l:LLI} (h:∀w∈l,Utf.bf w=true):∀z∈iP l,(Lit.int .u8 z).wf=true:=by
 intro z hz;obtain ⟨w,hw,hz⟩:=List.mem_flatMap.1 hz;rcases map1 hz with hz|hz
 ·exact Np (h w hw) z hz
 ·simp only [List.mem_singleton] at hz;subst hz;decide

theorem aie (a:OAd) (n cap:Nat) (xs:List Wd) (p:LIn × Int) (w:World) (hs:Ws w a n cap xs) (hp:Wl.write (nums xs)=p) :
 Calls Tryz.prog 19 #[.slice a n cap] w fun e w'=>VW w w' e p:=by
 have hnc:=hs.2.1;have hcm:=hs.2.2.1;unfold maxLen at hcm;have HS:=hdq hs;have HL:Hid ((nums xs).length=n):=by show _=_;rw [nums_length,hs.1]
 unfold Wl.write at hp;rw [HL.out] at hp;have HP:=hdq hp;clear hs hp;by_cases uf:300<n
 ·have hp:=HP.out;rw [if_pos uf] at hp;subst hp;have Qh:(300:Int)<(n:Int):=omg;clear HP;go_enter Tryz.func19,Tryz.ntmps19;go_wp2;go_ret2;exact ⟨none,0,rfl,Sl.nil,fun _=>rfl,Below.refl _ _⟩
 ·have Qh:¬(300:Int)<(n:Int):=omg;obtain ⟨q,hq⟩:∃q,(nums xs).all Wl.fit=q:=⟨_,rfl⟩;obtain ⟨r,hr⟩:∃r,Wl.rises (nums xs)=r:=⟨_,rfl⟩;have HQ:=hdq hq;have HR:=hdq hr
  have eO:Hid ((if q=true/\r=true then (iP (nums xs),0) else ([],90))=p):=by
   have hp:=HP.out;rw [if_neg uf,hq,hr] at hp;exact hp
  clear hq hr HP;cases q
  ·obtain rfl:p=([],90):=by rw [<-eO.out];simp
   go_enter Tryz.func19,Tryz.ntmps19;go_wp2_with (go_at_call 40;refine (NK a n cap xs false _ HS.out HQ.out).mono ?_;rintro e w' ⟨rfl,rfl⟩);go_ret2;exact ⟨none,0,rfl,Sl.nil,fun _=>rfl,Below.refl _ _⟩
  ·cases r
   ·obtain rfl:p=([],90):=by rw [<-eO.out];simp
    go_enter Tryz.func19,Tryz.ntmps19
    go_wp2_with (first
     | (go_at_call 40;refine (NK a n cap xs true _ HS.out HQ.out).mono ?_;rintro e w' ⟨rfl,rfl⟩)
     | (go_at_call 41;refine (VV a n cap xs false _ HS.out HR.out).mono ?_;rintro e w' ⟨rfl,q,rfl⟩))
    go_ret2;exact ⟨none,0,rfl,Sl.nil,fun _=>rfl,below_drewN (Below.refl _ _) _⟩
   ·obtain rfl:p=(iP (nums xs),0):=by rw [<-eO.out];simp
    have hfit:∀z∈nums xs,Wl.fit z=true:=List.all_eq_true.1 HQ.out;have JS:=hdq hfit;clear hfit;go_enter Tryz.func19,Tryz.ntmps19
    go_wp2_with (first
     | (go_at_call 40;refine (NK a n cap xs true _ HS.out HQ.out).mono ?_;rintro e w' ⟨rfl,rfl⟩)
     | (go_at_call 41;refine (VV a n cap xs true _ HS.out HR.out).mono ?_;rintro e w0 ⟨rfl,hw0⟩;have HW0:Hid (Below w'.heap.size w' w0):=(aG (Below.refl _ _) hw0);have dA:=hdq (HS.out.drawn hw0);clear hw0))
    go_loopw [4,22] (fun ov ix wr=>∃(j:Nat) (a1:OAd) (L c1:Nat) (outs:LIn),j<=n/\ov=.slice a1 L c1/\ix=.int .i64 (j:Int)/\L<=81*j/\Hid (iP ((nums xs).take j)=outs)/\Hid (wr.ownsRow w'.heap.size 5 1 (.slice a1 L c1) L (u8s outs))/\Hid (a1=none->c1=0)/\Hid (Below w'.heap.size w' wr)) (fun _ ix _=>n-(intOf ix).toNat)
    case atStart=>exact ⟨0,none,0,0,[],Nat.zero_le _,rfl,rfl,Nat.zero_le _,(by show iP _=_;simp [iP]),⟨rfl,.inl ⟨rfl,rfl⟩⟩,fun _=>rfl,HW0.out⟩
    case round =>
     obtain ⟨j,a1,L,c1,outs,hj,rfl,rfl,hL,HO,HOWN,fu,ai⟩:=hrel;by_cases hlt:j<n
     ·obtain ⟨b1,o1,za,zn,zc,z,rfl,hb1,hgd,hcl,hsl,hz⟩:=(HS.out.below ai.out lrf).one j hlt;have xh:z∈nums xs:=by rw [<-hz,gdq,geg (by rw [HL.out];exact hlt),Option.getD_some];exact List.getElem_mem _
      obtain ⟨f1,f2,f3,f4,f5⟩:=Wl.fit_parts (JS.out z xh);have HG:=hdq f3;have HT:Hid ((nums xs).take (j+1)=(nums xs).take j++[z]):=NJ (by rw [<-nums_length,HL.out];exact hlt) hz;obtain ⟨bs,hbs⟩:∃bs,Utf.put z=bs:=⟨_,rfl⟩;obtain ⟨m,hm⟩:∃m,bs.length=m:=⟨_,rfl⟩;have hml:m<=80:=by rw [<-hm,<-hbs];have:=Utf.Dk z;omega
      have Kj:zn<=17592186044416:=by have:=hsl.1;omega
      have bM:=hdq hbs;have HM:=hdq hm;have dH:=hdq hsl;have bB:(j:Int)<(n:Int):=omg;clear f1 f2 f3 f4 f5 xh hgd hsl hz hbs hm
      go_wp2_with (first
       | (go_at_call 42;refine (agl za zn zc z bs m _ dH.out Kj HG.out bM.out HM.out).mono ?_;rintro e w2 ⟨g,gc,rfl,hs2,hb2⟩;have HS2:=hdq hs2;have HB2:Hid (Below w'.heap.size w' w2):=ai.out.trans (hb2.mono ai.out.size);have bD:=hdq (ownsRow_below HOWN.out hb2 lrf);clear hs2 hb2)
       | (at_builtin;refine AO rfq (.tmp 31) (.tmp 32) rfq w'.heap.size _ L outs rfq bD.out (some ⟨g,0,none⟩) m gc bs rfq HS2.out (L+m) rfl omg HB2.out.size ?_;intro a3 c3 w3 hown3 hb3 hnil3;have dU:=hdq hown3;have HB3:Hid (Below w'.heap.size w' w3):=HB2.out.trans hb3;clear hown3 hb3 hnil3)
       | (at_builtin;refine AO rfq (.tmp 33) (.tmp 34) rfq w'.heap.size _ (L+m) (outs++bs) rfq (dU.out.alloc _) (some ⟨w3.heap.size,0,none⟩) 1 1 [10] rfq (Sl.newB [10] (by decide) (by unfold maxLen;simp) rfl rfl rfl) (L+m+1) rfl omg (by have:=HB3.out.size;rw [World.size_alloc];omega) ?_;intro a4 c4 w4 fK hb4 xk;have fA:=hdq fK;have zw:=hdq xk;have gm:Hid (Below w'.heap.size w' w4):=(HB3.out.alloc HB3.out.size _).trans hb4;clear fK hb4 xk))
      go_roundw
      case rel=>exact ⟨j+1,a4,L+m+1,c4,outs++bs++[10],by omega,rfl,by go_num,by omega,(by show _=_;rw [HT.out,NN,HO.out,bM.out]),fA.out,zw.out,gm.out⟩
      case measure=>simp [intOf];omega
     ·obtain rfl:j=n:=omg
      have iT:Hid (iP (nums xs)=outs):=by
       have h:=HO.out;rw [tol (by rw [HL.out];exact Nat.le_refl _)] at h;exact h
      have dX:Hid (outs.length=L):=by have h:=HOWN.out.1;unfold u8s at h;rw [List.length_map] at h;show _=_;omega
      go_wp2;go_ret2;refine ⟨a1,c1,?_,?_,fu.out,ai.out⟩
      ·show _=Ending.returned (.tuple #[.slice a1 (iP (nums xs)).length c1,.int .i64 0]);rw [iT.out,dX.out];rfl
      ·show Sl .u8 _ a1 (iP (nums xs)).length c1 (iP (nums xs));rw [iT.out,dX.out];refine Sl.of_owns HOWN.out ?_ dX.out;rw [<-iT.out];exact VX fun z hz=>(Wl.fit_parts (JS.out z hz)).2.2.1

end
end Go.Proofs.YtkiamgcpcneggaaGreat
