import Derived.Deep.DeepMust
import Derived.Deep.DeepFit
import Derived.Test.YtkiamgcpcneggaaGreatPackJ
import Derived.Test.YtkiamgcpcneggaaGreatPackN
set_option linter.all false
set_option maxRecDepth 100000
set_option maxHeartbeats 12800000
namespace Go.Proofs.YtkiamgcpcneggaaGreat
section
open Go.RowKit

theorem afT (n:Int) (w:World) :
 Calls Tryz.prog 128 #[.int .i32 n] w fun e w'=>e=.returned (.int .i64 (Utf.size n:Nat))/\w=w':=by
 by_cases a:n<128
 ·rw [show Utf.size n=1 from by unfold Utf.size;rw [if_pos a]];go_enter Tryz.func128,Tryz.ntmps128;go_wp2;go_ret;exact ⟨rfl,rfl⟩
 ·by_cases b:n<2048
  ·rw [show Utf.size n=2 from by unfold Utf.size;rw [if_neg a,if_pos b]];go_enter Tryz.func128,Tryz.ntmps128;go_wp2;go_ret;exact ⟨rfl,rfl⟩
  ·by_cases c:n<65536
   ·rw [show Utf.size n=3 from by unfold Utf.size;rw [if_neg a,if_neg b,if_pos c]];go_enter Tryz.func128,Tryz.ntmps128;go_wp2;go_ret;exact ⟨rfl,rfl⟩
   ·rw [show Utf.size n=4 from by unfold Utf.size;rw [if_neg a,if_neg b,if_neg c]];go_enter Tryz.func128,Tryz.ntmps128;go_wp2;go_ret;exact ⟨rfl,rfl⟩

theorem afU (k:Int) (w:World) :
 Calls Tryz.prog 129 #[.int .i64 k] w fun e w'=>e=.returned (.int .u8 (Utf.mark k))/\w=w':=by
 by_cases a:k=1
 ·subst a;rw [show Utf.mark 1=0 from rfl];go_enter Tryz.func129,Tryz.ntmps129;go_wp2;go_ret;exact ⟨rfl,rfl⟩
 ·by_cases b:k=2
  ·subst b;rw [show Utf.mark 2=192 from rfl];go_enter Tryz.func129,Tryz.ntmps129;go_wp2;go_ret;exact ⟨rfl,rfl⟩
  ·by_cases c:k=3
   ·subst c;rw [show Utf.mark 3=224 from rfl];go_enter Tryz.func129,Tryz.ntmps129;go_wp2;go_ret;exact ⟨rfl,rfl⟩
   ·rw [show Utf.mark k=240 from by unfold Utf.mark;rw [if_neg a,if_neg b,if_neg c]];have a':(k==1)=false:=by simpa using a
    have b':(k==2)=false:=by simpa using b
    have c':(k==3)=false:=by simpa using c
    clear a b c;go_enter Tryz.func129,Tryz.ntmps129;go_wp2;go_ret;exact ⟨rfl,rfl⟩

end
section
open Go.RowKit

theorem Tryz.info5:(Tryz.prog.info? 5).map (fun i=>(i.zero,i.size,i.bytes))=some (some (.int .u8 0),1,1):=krf
theorem afV {w:World} {B:Nat} {v:Value} {t:TypeId} (hB:B=w.heap.size):∀j u,[v][j]?=some u->(w.alloc (.cells #[v] t)).drew.cell? ((⟨B,0,none⟩:Addr).add j)=some u:=by
 subst hB;intro j u hj
 match j,hj with
 | 0,hj=>simp at hj;subst hj;simp [Addr.add]

theorem afW (n:Int) (h0:0<=n) (h1:n<2147483648):IntKind.i32.wrap n=n:=by
 simp [IntKind.wrap,IntKind.bits,IntKind.signed];split<;>omega
theorem afX (x:Int) (h0:0<=x) (h1:x<2147483648):bits .and .i32 x 63=x%64:=by
 obtain ⟨n,rfl⟩:=Int.eq_ofNat_of_zero_le h0;show IntKind.i32.wrap ((BitVec.ofInt 32 (n:Int) &&& BitVec.ofInt 32 63).toNat:Int)=_;have h2:(BitVec.ofInt 32 63).toNat=63:=by decide
 rw [BitVec.toNat_and,ofInt_u32 n omg,h2,nat_mask6,afW _ omg omg];omega
theorem afY (s:Int) (k:Nat) (h0:0<=s) (h1:s<=1114111):0<=s/2^k/\s/2^k<=1114111:=by
 have hp:(0:Int)<2^k:=Int.pow_pos (by decide);exact ⟨Int.ediv_nonneg h0 omg,Int.le_trans (Int.ediv_le_self _ h0) h1⟩

theorem afZ (B g n cap:Nat) (xs:LIn) (s:Int) (w:World) (hown:w.ownsRow B 5 1 (.slice (some ⟨g,0,none⟩) n cap) n (u8s xs)) (hB:B<=w.heap.size)
 (h0:0<=s) (h1:s<=1114111) (hn:n+4<=140737488355328) :
 Calls Tryz.prog 86 #[.slice (some ⟨g,0,none⟩) n cap,.int .i32 s] w fun e w'=>∃g' cap',e=.returned (.slice (some ⟨g',0,none⟩) (n+Utf.size s) cap') /\
  w'.ownsRow B 5 1 (.slice (some ⟨g',0,none⟩) (n+Utf.size s) cap') (n+Utf.size s) (u8s (xs++Utf.enc s))/\Below B w w':=by
 have hk0:=Utf.size_pos s;have hk4:=Utf.size_le s;obtain ⟨i0,hi,hz0,hz1,hz2⟩:=info_parts Tryz.info5;go_enter Tryz.func86,Tryz.ntmps86;go_wp2_with (go_at_call 128;refine (afT _ _).mono ?_;rintro e w' ⟨rfl,rfl⟩);go_region_law (first|(go_simp;go_at_call 129;refine (afU _ _).mono ?_;rintro e w' ⟨rfl,rfl⟩)|(refine step_append_lies _ rfq (.tmp 12) (.tmp 20) 43 rfq B 5 i0 (.int .u8 0) 1 1 Tryz.underlying43 hi hz0 hz1 hz2 rfl (by decide) _ n (u8s xs) rfq (hown.alloc _).drew ⟨w.heap.size,0,none⟩ 1 1 [.int .u8 (IntKind.u8.wrap (Utf.mark (Utf.size s)+IntKind.u8.wrap (s/2^(6*((Utf.size s:Int)-1)).toNat)))] rfq rfl (afV rfl) (by simp [Value.oneCell']) (by decide) (by unfold maxLen;omega) omg (by simp;omega) _ rfl ?_;intro g1 ql w1 hown1 hgrow1 amS hlt1));have Eu:Below B w w1:=((((Below.refl B w).alloc hB _).drew).grown hgrow1 (by simp;omega) (by intro k hk;rcases hown.lt k hk with ⟨h,_⟩;exact h))
 have hv0:IntKind.u8.wrap (Utf.mark (Utf.size s)+IntKind.u8.wrap (s/2^(6*((Utf.size s:Int)-1)).toNat))=(Utf.mark (Utf.size s)+s/2^(6*(Utf.size s-1))%256)%256:=by
  rw [IntKind.wrap_u8',IntKind.wrap_u8',show (6*((Utf.size s:Int)-1)).toNat=6*(Utf.size s-1) from by omega]
 rw [hv0,Uj,<-Utf.adS s _ rfl h0 h1] at hown1;clear hv0 hgrow1 amS hlt1 hown;go_wp2;simp only [Act.put,List.setIfInBounds_toArray,List.set_cons_zero,List.getElem_cons_succ,List.getElem_cons_zero,List.getElem_toArray];generalize (s/2^(6*((Utf.size s:Int)-1)).toNat)=q1;generalize IntKind.u8.wrap (Utf.mark (Utf.size s)+IntKind.u8.wrap q1)=q3;generalize IntKind.u8.wrap q1=q2;go_loopw [0,6] (fun bv sh wr=>∃j g2 cap2:Nat,j<Utf.size s/\sh=.int .i64 (6*(j:Int))/\bv=.slice (some ⟨g2,0,none⟩) (n+(Utf.size s-j)) cap2/\wr.ownsRow B 5 1 (.slice (some ⟨g2,0,none⟩) (n+(Utf.size s-j)) cap2) (n+(Utf.size s-j)) (u8s (xs++(Utf.enc s).take (Utf.size s-j)))/\Below B w wr) (fun _ sh _=>(intOf sh).toNat)
 case atStart =>
  have e0:Utf.size s-(Utf.size s-1)=1:=omg;exact ⟨Utf.size s-1,g1,ql,by omega,congrArg (Value.int .i64) omg,by rw [e0],by rw [e0];exact hown1,Eu⟩
 case round =>
  obtain ⟨j,g2,cap2,hj,rfl,rfl,hown2,ku⟩:=hrel;by_cases hj0:j=0
  ·subst hj0;simp only [Nat.sub_zero] at hown2 ⊢;rw [Utf.adU] at hown2;go_wp2;go_ret;exact ⟨g2,cap2,rfl,hown2,ku⟩
  ·obtain ⟨i,rfl⟩:∃i,j=i+1:=⟨j-1,by omega⟩;clear hj0;obtain ⟨c,hc⟩:∃c,c=s/2^(6*i)%64:=⟨_,rfl⟩;have hc0:0<=c:=omg;have hc1:c<64:=omg
   have hb:bits .and .i32 (s/2^(6*(i+1)-6)) 63=c:=by
    have hd:=afY s (6*i) h0 h1;rw [hc,show 6*(i+1)-6=6*i from by omega];exact afX _ hd.1 omg
   have hen:=Utf.adT s i hj;rw [<-hc] at hen;have HE:=hdq hen;clear hc hen;go_wp2_with (at_builtin;refine wpList_append_lies _ rfq (.tmp 26) (.tmp 33) 43 rfq B 5 i0 (.int .u8 0) 1 1 Tryz.underlying43 hi hz0 hz1 hz2 rfl (by decide) _ _ _ rfq (hown2.alloc _) ⟨wr.heap.size,0,none⟩ 1 1 [.int .u8 (128+c)] rfq rfl (adK rfl) (by simp [Value.oneCell']) (by decide) (by unfold maxLen;omega) omg (by have:=ku.size;simp;omega) _ rfl ?_;intro g3 amT w3 hown3 hgrow3 YZ hlt3);have e1:n+(Utf.size s-(i+1))+1=n+(Utf.size s-i):=omg;have Ev:Below B w w3:=(ku.alloc (by have:=ku.size;omega) _).grown hgrow3 (by have:=ku.size;simp;omega) (by intro k hk;exact (hown2.lt k hk).1);rw [Uj,List.append_assoc,<-HE.out,e1] at hown3;clear hgrow3 YZ hlt3 hown2 ku Eu hb HE;go_roundw
   case rel=>exact ⟨i,g3,amT,by omega,congrArg (Value.int .i64) omg,by rw [e1],hown3,Ev⟩
   case measure=>simp [intOf];omega

end
section
open Go.RowKit

def aga (B:Nat) (zs:LIn) (w:World) (e:Ending) (w':World):Prop :=
 Below B w w'/\((Utf.bf zs=true/\∃g cap,e=.returned (.tuple #[.slice (some ⟨g,0,none⟩) (Utf.put zs).length cap,.int .i64 0]) /\
  w'.ownsRow B 5 1 (.slice (some ⟨g,0,none⟩) (Utf.put zs).length cap) (Utf.put zs).length (u8s (Utf.put zs))) \/
  (Utf.bf zs=false/\e=.returned (.tuple #[.slice none 0 0,.int .i64 10])))

theorem Vl (zs:LIn) (k:Nat) (hk:k<zs.length):Utf.bf (zs.take (k+1))=(Utf.bf (zs.take k)&&Utf.good (zs.getD k 0)):=by
 rw [tsa hk,Utf.adP];simp [Utf.bf,hk]
theorem Vm (zs:LIn) (k:Nat) (hk:k<zs.length):Utf.put (zs.take (k+1))=Utf.put (zs.take k)++Utf.enc (zs.getD k 0):=by
 rw [tsa hk,Utf.adO];simp [hk]
theorem Vn (zs:LIn) (k:Nat) (hk:k<zs.length) (h:Utf.good (zs.getD k 0)=false):Utf.bf zs=false:=by
 unfold Utf.bf;rw [Bool.eq_false_iff];intro ha;have:=List.all_eq_true.1 ha (zs[k]) (List.getElem_mem _);simp [hk] at h;rw [h] at this;cases this

theorem agb (a:OAd) (n cap:Nat) (zs:LIn) (w:World) (hs:Sl .i64 w a n cap zs) (hn:n<=17592186044416) :
 Calls Tryz.prog 42 #[.slice a n cap] w (aga w.heap.size zs w):=by
 obtain ⟨i0,hi,hz0,hz1,hz2⟩:=info_parts Tryz.info5;obtain ⟨hlen,hnc,hcm,hwf,hcell⟩:=hs;have HL:=hdq hlen;clear hlen;go_enter Tryz.func42,Tryz.ntmps42;go_wp2_with (at_make;refine wpList_make_own _ rfl _ _ 43 rfl w.heap.size 5 i0 (.int .u8 0) 1 Tryz.underlying43 hi hz0 hz1 _ _ _ n rfl rfl rfl (by rw [hz2];omega) (by unfold maxLen;omega) omg ?_;intro w1 hown1 hgrow1);have Eu:Below w.heap.size w w1:=(Below.refl _ _).grown hgrow1 lrf (by intro k hk;cases hk)
 go_loopw [4,12] (fun bv ix wr=>∃k g c:Nat,k<=n/\ix=.int .i64 (k:Int)/\bv=.slice (some ⟨g,0,none⟩) (Utf.put (zs.take k)).length c/\Utf.bf (zs.take k)=true /\
  wr.ownsRow w.heap.size 5 1 (.slice (some ⟨g,0,none⟩) (Utf.put (zs.take k)).length c) (Utf.put (zs.take k)).length (u8s (Utf.put (zs.take k)))/\Below w.heap.size w wr) (fun _ ix _=>n-(intOf ix).toNat)
 case atStart=>exact ⟨0,w.heap.size,n,Nat.zero_le _,rfl,rfl,rfl,hown1,Eu⟩
 case round =>
  obtain ⟨k,g,c,hk,rfl,rfl,hag,hown2,ku⟩:=hrel;have HG:=hdq hag;clear hag Eu hown1 hgrow1;by_cases hlt:k<n
  ·obtain ⟨z,hz⟩:∃z,z=zs.getD k 0:=⟨_,rfl⟩;have hzb:-9223372036854775808<=z/\z<=9223372036854775807:=by have:=range_i64 hwf k;rw [hz,gdq];exact this
   have hput:=Utf.Dk (zs.take k);have htk:(zs.take k).length<=k:=List.length_take_le _ _;obtain h0|⟨b,off,rfl,hcc⟩:=hcell
   ·omega
   have hck:=hcc k hlt;have hbb:=bQ hck;have hc:wr.cell? ⟨b,off+k,none⟩=some (.int .i64 z):=by rw [ku.cell (p:=⟨b,off+k,none⟩) hbb,hck,hz]
   have HZ:=hdq hz;have hsize:=ku.size;clear hz hck hcc hwf;obtain ⟨Ew,Ex⟩:=hzb;by_cases hg:Utf.good z=true
   ·have hg':=(Utf.lX z).1 hg;have hz0':=hg'.1;have hz1':=hg'.2.1;have JY:(Utf.put (zs.take k)).length+4<=140737488355328:=omg;clear hg'
    go_wp2_with (first
     | (go_at_call 60;refine (yA _ _ Ew Ex).mono ?_;rintro e w' ⟨rfl,rfl⟩)
     | (go_at_call 86;refine (afZ w.heap.size g _ c _ z _ hown2 hsize hz0' hz1' JY).mono ?_;rintro e w3 ⟨g3,c3,rfl,hown3,Ev⟩))
    have hk':k<zs.length:=by rw [HL.out];exact hlt
    have e1:=Vm zs k hk';rw [<-HZ.out] at e1;have e2:(Utf.put (zs.take (k+1))).length=(Utf.put (zs.take k)).length+Utf.size z:=by rw [e1,List.length_append,Utf.Aq]
    have e3:Utf.bf (zs.take (k+1))=true:=by rw [Vl _ _ hk',HG.out,<-HZ.out,hg];rfl
    rw [<-e1,<-e2] at hown3;go_roundw
    case rel=>exact ⟨k+1,g3,c3,by omega,by go_num,by rw [e2],e3,hown3,ku.trans Ev⟩
    case measure=>simp [intOf];omega
   ·have hgf:Utf.good z=false:=by simpa using hg
    clear hg;go_wp2_with (go_at_call 60;refine (yA _ _ Ew Ex).mono ?_;rintro e w' ⟨rfl,rfl⟩);go_ret2;refine ⟨ku,.inr ⟨Vn zs k (by rw [HL.out];exact hlt) ?_,rfl⟩⟩;rw [<-HZ.out];exact hgf
  ·have hkn:k=n:=omg;have hge:zs.take k=zs:=tol (by rw [HL.out];omega);rw [hge] at hown2;have PQ:Utf.bf zs=true:=by have:=HG.out;rw [hge] at this;exact this
   have HK:=hdq hge;clear hge HG hkn;go_wp2;go_ret2;refine ⟨ku,.inl ⟨PQ,g,c,?_,hown2⟩⟩;simp only [Array.getD_eq_getD_getElem?,HK.out];rfl

end
section
open Go.RowKit

theorem agc (s:Int) (w:World) (h0:0<=s) (h1:s<=1114111) :
 Calls Tryz.prog 191 #[.int .i64 s] w fun e w'=>e=.returned (.slice (some ⟨w.heap.size,0,none⟩) (Utf.size s) (Utf.size s))/\w.alloc (.cells (u8s (Utf.enc s)).toArray 5)=w':=by
 by_cases a:s<128
 ·rw [show Utf.size s=1 from by unfold Utf.size;rw [if_pos a],show Utf.enc s=[s] from by unfold Utf.enc;rw [if_pos a]];go_enter Tryz.func191,Tryz.ntmps191;go_wp2;go_ret;exact ⟨rfl,rfl⟩
 ·by_cases b:s<2048
  ·rw [show Utf.size s=2 from by unfold Utf.size;rw [if_neg a,if_pos b],show Utf.enc s=[192+s/64,128+s%64] from by unfold Utf.enc;rw [if_neg a,if_pos b]];go_enter Tryz.func191,Tryz.ntmps191;go_wp2;go_ret;exact ⟨rfl,rfl⟩
  ·by_cases c:s<65536
   ·rw [show Utf.size s=3 from by unfold Utf.size;rw [if_neg a,if_neg b,if_pos c],show Utf.enc s=[224+s/4096,128+s/64%64,128+s%64] from by unfold Utf.enc;rw [if_neg a,if_neg b,if_pos c]];go_enter Tryz.func191,Tryz.ntmps191;go_wp2;go_ret;exact ⟨rfl,rfl⟩
   ·rw [show Utf.size s=4 from by unfold Utf.size;rw [if_neg a,if_neg b,if_neg c],show Utf.enc s=[240+s/262144,128+s/4096%64,128+s/64%64,128+s%64] from by unfold Utf.enc;rw [if_neg a,if_neg b,if_neg c]];go_enter Tryz.func191,Tryz.ntmps191;go_wp2;go_ret;exact ⟨rfl,rfl⟩

def agd (B:Nat) (zs:LIn) (w:World) (e:Ending) (w':World):Prop :=
 Below B w w'/\((Utf.bf zs=true/\∃a cap,e=.returned (.tuple #[.slice a (Utf.put zs).length cap,.int .i64 0]) /\
  w'.ownsRow B 5 1 (.slice a (Utf.put zs).length cap) (Utf.put zs).length (u8s (Utf.put zs))) \/
  (Utf.bf zs=false/\e=.returned (.tuple #[.slice none 0 0,.int .i64 10])))

theorem age (xs ys:LIn):u8s xs++u8s ys=u8s (xs++ys):=by simp [u8s]
theorem agf {w:World} {B:Nat} {l:LIn} {t:TypeId} (hB:B=w.heap.size):∀j u,(u8s l)[j]?=some u->(w.alloc (.cells (u8s l).toArray t)).cell? ((⟨B,0,none⟩:Addr).add j)=some u:=by
 subst hB;intro j u hj;have h:=han w (.cells (u8s l).toArray t);exact World.news_of_block h j u (by simpa using hj)
theorem agh (l:LIn):∀u∈u8s l,u.oneCell'=true:=ints_oneCell .u8 l

theorem Vo (a:OAd) (n cap:Nat) (zs:LIn) (w:World) (hs:Sl .i64 w a n cap zs) (hn:n<=17592186044416) :
 Calls Tryz.prog 156 #[.slice a n cap] w (agd w.heap.size zs w):=by
 obtain ⟨i0,hi,hz0,hz1,hz2⟩:=info_parts Tryz.info5;obtain ⟨hlen,hnc,hcm,hwf,hcell⟩:=hs;have HL:=hdq hlen;clear hlen;go_enter Tryz.func156,Tryz.ntmps156;go_wp2
 go_loopw [4,5] (fun bv ix wr=>∃k c:Nat,∃g:OAd,k<=n/\ix=.int .i64 (k:Int)/\bv=.slice g (Utf.put (zs.take k)).length c/\Utf.bf (zs.take k)=true /\
  wr.ownsRow w.heap.size 5 1 (.slice g (Utf.put (zs.take k)).length c) (Utf.put (zs.take k)).length (u8s (Utf.put (zs.take k)))/\Below w.heap.size w wr) (fun _ ix _=>n-(intOf ix).toNat)
 case atStart=>exact ⟨0,0,none,Nat.zero_le _,rfl,rfl,rfl,World.ownsRow_nil _ _ _ _,Below.refl _ _⟩
 case round =>
  obtain ⟨k,c,g,hk,rfl,rfl,hag,hown2,ku⟩:=hrel;have HG:=hdq hag;clear hag;by_cases hlt:k<n
  ·obtain ⟨z,hz⟩:∃z,z=zs.getD k 0:=⟨_,rfl⟩;have hzb:-9223372036854775808<=z/\z<=9223372036854775807:=by have:=range_i64 hwf k;rw [hz,gdq];exact this
   have hput:=Utf.Dk (zs.take k);have htk:(zs.take k).length<=k:=List.length_take_le _ _;obtain h0|⟨b,off,rfl,hcc⟩:=hcell
   ·omega
   have hck:=hcc k hlt;have hbb:=bQ hck;have hc:wr.cell? ⟨b,off+k,none⟩=some (.int .i64 z):=by rw [ku.cell (p:=⟨b,off+k,none⟩) hbb,hck,hz]
   have HZ:=hdq hz;have hsize:=ku.size;clear hz hck hcc hwf;obtain ⟨Ew,Ex⟩:=hzb;by_cases hg:Utf.good z=true
   ·have hg':=(Utf.lX z).1 hg;have hz0':=hg'.1;have hz1':=hg'.2.1;have hp:=Utf.size_pos z;have JZ:=Utf.size_le z;have hsz:(u8s (Utf.enc z)).length=Utf.size z*1:=by simp [u8s,Utf.Aq]
    have HS:=hdq hsz;clear hg' hsz
    go_wp2_with (first
     | (go_at_call 83;refine (tq _ _ Ew Ex).mono ?_;rintro e w' ⟨rfl,rfl⟩)
     | (go_at_call 191;refine (agc _ _ hz0' hz1').mono ?_;rintro e w' ⟨rfl,rfl⟩)
     | (at_builtin;refine wpList_append_lies _ rfq (.tmp 18) (.tmp 23) 43 rfq w.heap.size 5 i0 (.int .u8 0) 1 1 Tryz.underlying43 hi hz0 hz1 hz2 rfl (by decide) _ _ _ rfq (hown2.alloc _) ⟨wr.heap.size,0,none⟩ (Utf.size z) (Utf.size z) (u8s (Utf.enc z)) rfq HS.out (agf rfl) (agh _) omg (by unfold maxLen;omega) omg (by simp;omega) _ rfl ?_;intro g3 c3 w3 hown3 hgrow3 YZ hlt3))
    have hk':k<zs.length:=by rw [HL.out];exact hlt
    have e1:=Vm zs k hk';rw [<-HZ.out] at e1;have e2:(Utf.put (zs.take (k+1))).length=(Utf.put (zs.take k)).length+Utf.size z:=by rw [e1,List.length_append,Utf.Aq]
    have e3:Utf.bf (zs.take (k+1))=true:=by rw [Vl _ _ hk',HG.out,<-HZ.out,hg];rfl
    have Ev:Below w.heap.size w w3:=(ku.alloc omg _).grown hgrow3 (by simp;omega) (by intro m hm;exact (hown2.lt m hm).1);rw [age,<-e1,<-e2] at hown3;go_roundw
    case rel=>exact ⟨k+1,c3,some ⟨g3,0,none⟩,by omega,by go_num,by rw [e2],e3,hown3,Ev⟩
    case measure=>simp [intOf];omega
   ·have hgf:Utf.good z=false:=by simpa using hg
    clear hg;go_wp2_with (go_at_call 83;refine (tq _ _ Ew Ex).mono ?_;rintro e w' ⟨rfl,rfl⟩);go_ret2;refine ⟨ku,.inr ⟨Vn zs k (by rw [HL.out];exact hlt) ?_,rfl⟩⟩;rw [<-HZ.out];exact hgf
  ·have hkn:k=n:=omg;have hge:zs.take k=zs:=tol (by rw [HL.out];omega);rw [hge] at hown2;have PQ:Utf.bf zs=true:=by have:=HG.out;rw [hge] at this;exact this
   have HK:=hdq hge;clear hge HG hkn;go_wp2;go_ret2;refine ⟨ku,.inl ⟨PQ,g,c,?_,hown2⟩⟩;simp only [Array.getD_eq_getD_getElem?,HK.out];rfl

end
section
open Go.RowKit

def arp:Option (Int × Nat)->Value
 | some (n,k)=>.tuple #[.int .i64 n,.int .i64 k,.int .i64 0]
 | none=>.tuple #[.int .i64 0,.int .i64 0,.int .i64 10]

end
section
open Go.RowKit

end
section
open Go.RowKit

end
section
open Go.RowKit

end
section
open Go.RowKit


end
section
open Go.RowKit

theorem Np {l:LIn} (h:Utf.bf l=true):∀z∈Utf.put l,(Lit.int .u8 z).wf=true:=fun z hz=>WalkArith.wf_u8 (Utf.Mo l h z hz)

theorem agi (a:OAd) (n cap:Nat) (zs:LIn) (w:World) (hs:Sl .i64 w a n cap zs) (hn:n<=17592186044416) (hg:Utf.bf zs=true) :
 Calls Tryz.prog 42 #[.slice a n cap] w fun e w'=>∃g c,e=.returned (.tuple #[.slice (some ⟨g,0,none⟩) (Utf.put zs).length c,.int .i64 0]) /\
  Sl .u8 w' (some ⟨g,0,none⟩) (Utf.put zs).length c (Utf.put zs)/\Below w.heap.size w w' :=
 (agb a n cap zs w hs hn).mono fun e w' h=>by
  obtain ⟨hb,⟨_,g,c,he,ho⟩|⟨h0,_⟩⟩:=h
  ·exact ⟨g,c,he,Sl.of_owns ho (Np hg) rfl,hb⟩
  ·rw [hg] at h0;cases h0
theorem agj (a:OAd) (n cap:Nat) (zs:LIn) (w:World) (hs:Sl .i64 w a n cap zs) (hn:n<=17592186044416) (hg:Utf.bf zs=true) :
 Calls Tryz.prog 156 #[.slice a n cap] w fun e w'=>∃g c,e=.returned (.tuple #[.slice g (Utf.put zs).length c,.int .i64 0]) /\
  Sl .u8 w' g (Utf.put zs).length c (Utf.put zs)/\Below w.heap.size w w' :=
 (Vo a n cap zs w hs hn).mono fun e w' h=>by
  obtain ⟨hb,⟨_,g,c,he,ho⟩|⟨h0,_⟩⟩:=h
  ·exact ⟨g,c,he,Sl.of_owns ho (Np hg) rfl,hb⟩
  ·rw [hg] at h0;cases h0
theorem agk (a:OAd) (n cap:Nat) (zs:LIn) (w:World) (hs:Sl .i64 w a n cap zs) (hn:n<=17592186044416) (hg:Utf.bf zs=false) :
 Calls Tryz.prog 156 #[.slice a n cap] w fun e w'=>e=.returned (.tuple #[.slice none 0 0,.int .i64 10])/\Below w.heap.size w w' :=
 (Vo a n cap zs w hs hn).mono fun e w' h=>by
  obtain ⟨hb,⟨h0,_⟩|⟨_,he⟩⟩:=h
  ·rw [hg] at h0;cases h0
  ·exact ⟨he,hb⟩
theorem agl (a:OAd) (n cap:Nat) (zs bs:LIn) (m:Nat) (w:World) (hs:Sl .i64 w a n cap zs) (hn:n<=17592186044416) (hg:Utf.bf zs=true) (hp:Utf.put zs=bs) (hm:bs.length=m) :
 Calls Tryz.prog 42 #[.slice a n cap] w fun e w'=>∃g c,e=.returned (.tuple #[.slice (some ⟨g,0,none⟩) m c,.int .i64 0])/\Sl .u8 w' (some ⟨g,0,none⟩) m c bs/\Below w.heap.size w w':=by
 subst hm;subst hp;exact agi a n cap zs w hs hn hg
end
section
open Go.RowKit

def agm (zs bs:LIn) (er:Int):Prop:=(Utf.bf zs=true/\bs=Utf.put zs/\er=0)\/(Utf.bf zs=false/\bs=[]/\er=10)
theorem Vq (a:OAd) (n cap:Nat) (zs bs:LIn) (er:Int) (w:World) (h:agm zs bs er) (hs:Sl .i64 w a n cap zs) (hn:n<=17592186044416) :
 Calls Tryz.prog 156 #[.slice a n cap] w fun e w'=>∃(a':OAd) (c:Nat),e=.returned (.tuple #[.slice a' bs.length c,.int .i64 er])/\Sl .u8 w' a' bs.length c bs/\Below w.heap.size w w':=by
 obtain ⟨h1,rfl,rfl⟩|⟨h1,rfl,rfl⟩:=h
 ·refine (agj a n cap zs w hs hn h1).mono ?_;rintro e w' ⟨g,c,rfl,h,hb⟩;exact ⟨_,c,rfl,h,hb⟩
 ·refine (agk a n cap zs w hs hn h1).mono ?_;rintro e w' ⟨rfl,hb⟩;exact ⟨none,0,rfl,⟨rfl,Nat.le_refl _,by decide,by simp,.inl rfl⟩,hb⟩

def arq (zs:LIn) (s:Int) (k:Nat) (er:Int):Prop:=(Utf.Vp zs=some (s,k)/\er=0)\/(Utf.Vp zs=none/\s=0/\k=0/\er=10)
end
section
open Go.RowKit

theorem getD_mem {zs:LIn} {i:Nat} (h:i<zs.length):zs.getD i 0∈zs:=by
 rw [gdq,geg h];exact List.getElem_mem _

end
section
open Go.RowKit

end
section
open Go.RowKit

theorem Vr {xs:List Rw} {j:Nat} {r:aj} (h:j<xs.length) (hr:(xs.getD j Rw.no).r=r):(aA xs).take (j+1)=(aA xs).take j++[r]:=by
 have hl:j<(aA xs).length:=by rw [gP];exact h
 rw [tsa hl]
 congr 2
 have:=lY xs j;rw [hr] at this;rw [<-this,gdq,geg hl,Option.getD_some]

end
end Go.Proofs.YtkiamgcpcneggaaGreat
