import Derived.Deep.DeepMust
import Derived.Deep.DeepFit
import Derived.Test.YtkiamgcpcneggaaGreatPackJ
import Derived.Test.YtkiamgcpcneggaaGreatPackN
set_option linter.all false
set_option maxRecDepth 100000
set_option maxHeartbeats 12800000
namespace Go.Proofs.YtkiamgcpcneggaaGreat
section
open Go.RowKit

theorem akq (n:Int) (w:World) :
 Calls Tryz.prog 128 #[.int .i32 n] w fun e w'=>e=.returned (.int .i64 (Utf.size n:Nat))/\w=w':=by
 by_cases a:n<128
 ·rw [show Utf.size n=1 from by unfold Utf.size;rw [if_pos a]]
  go_enter Tryz.func128,Tryz.ntmps128;go_wp2;go_ret;exact ⟨rfl,rfl⟩
 ·by_cases b:n<2048
  ·rw [show Utf.size n=2 from by unfold Utf.size;rw [if_neg a,if_pos b]]
   go_enter Tryz.func128,Tryz.ntmps128;go_wp2;go_ret;exact ⟨rfl,rfl⟩
  ·by_cases c:n<65536
   ·rw [show Utf.size n=3 from by unfold Utf.size;rw [if_neg a,if_neg b,if_pos c]]
    go_enter Tryz.func128,Tryz.ntmps128;go_wp2;go_ret;exact ⟨rfl,rfl⟩
   ·rw [show Utf.size n=4 from by unfold Utf.size;rw [if_neg a,if_neg b,if_neg c]]
    go_enter Tryz.func128,Tryz.ntmps128;go_wp2;go_ret;exact ⟨rfl,rfl⟩

theorem afh (k:Int) (w:World) :
 Calls Tryz.prog 129 #[.int .i64 k] w fun e w'=>e=.returned (.int .u8 (Utf.mark k))/\w=w':=by
 by_cases a:k=1
 ·subst a;rw [show Utf.mark 1=0 from rfl];go_enter Tryz.func129,Tryz.ntmps129;go_wp2;go_ret;exact ⟨rfl,rfl⟩
 ·by_cases b:k=2
  ·subst b;rw [show Utf.mark 2=192 from rfl];go_enter Tryz.func129,Tryz.ntmps129;go_wp2;go_ret;exact ⟨rfl,rfl⟩
  ·by_cases c:k=3
   ·subst c;rw [show Utf.mark 3=224 from rfl];go_enter Tryz.func129,Tryz.ntmps129;go_wp2;go_ret;exact ⟨rfl,rfl⟩
   ·rw [show Utf.mark k=240 from by unfold Utf.mark;rw [if_neg a,if_neg b,if_neg c]]
    have a':(k==1)=false:=by simpa using a
    have b':(k==2)=false:=by simpa using b
    have c':(k==3)=false:=by simpa using c
    clear a b c;go_enter Tryz.func129,Tryz.ntmps129;go_wp2;go_ret;exact ⟨rfl,rfl⟩

end
section
open Go.RowKit

theorem Tryz.info5:(Tryz.prog.info? 5).map (fun i=>(i.zero,i.size,i.bytes))=some (some (.int .u8 0),1,1):=by kernel_rfl
theorem awd {w:World} {B:Nat} {v:Value} {t:TypeId} (hB:B=w.heap.size):∀j u,[v][j]?=some u->(w.alloc (.cells #[v] t)).drew.cell? ((⟨B,0,none⟩:Addr).add j)=some u:=by
 subst hB;intro j u hj
 match j,hj with
 | 0,hj=>simp at hj;subst hj;simp [Addr.add]

theorem ase (n:Int) (h0:0<=n) (h1:n<2147483648):IntKind.i32.wrap n=n:=by
 simp [IntKind.wrap,IntKind.bits,IntKind.signed];split<;>omega
theorem anp (x:Int) (h0:0<=x) (h1:x<2147483648):bits .and .i32 x 63=x%64:=by
 obtain ⟨n,rfl⟩:=Int.eq_ofNat_of_zero_le h0;show IntKind.i32.wrap ((BitVec.ofInt 32 (n:Int) &&& BitVec.ofInt 32 63).toNat:Int)=_;have h2:(BitVec.ofInt 32 63).toNat=63:=by decide
 rw [BitVec.toNat_and,ofInt_u32 n (by omega),h2,nat_mask6,ase _ (by omega) (by omega)]
 omega
theorem anq (s:Int) (k:Nat) (h0:0<=s) (h1:s<=1114111):0<=s/2^k/\s/2^k<=1114111:=by
 have hp:(0:Int)<2^k:=Int.pow_pos (by decide)
 exact ⟨Int.ediv_nonneg h0 (by omega),Int.le_trans (Int.ediv_le_self _ h0) h1⟩

theorem abl (B g n cap:Nat) (xs:List Int) (s:Int) (w:World) (hown:w.ownsRow B 5 1 (.slice (some ⟨g,0,none⟩) n cap) n (u8s xs)) (hB:B<=w.heap.size)
 (h0:0<=s) (h1:s<=1114111) (hn:n+4<=140737488355328) :
 Calls Tryz.prog 86 #[.slice (some ⟨g,0,none⟩) n cap,.int .i32 s] w fun e w'=>∃g' cap',e=.returned (.slice (some ⟨g',0,none⟩) (n+Utf.size s) cap') /\
  w'.ownsRow B 5 1 (.slice (some ⟨g',0,none⟩) (n+Utf.size s) cap') (n+Utf.size s) (u8s (xs++Utf.enc s))/\Below B w w':=by
 have hk0:=Utf.aeq s;have hk4:=Utf.size_le s;obtain ⟨i0,hi,hz0,hz1,hz2⟩:=info_parts Tryz.info5;go_enter Tryz.func86,Tryz.ntmps86;go_wp2_with (go_at_call 128;refine (akq _ _).mono ?_;rintro e w' ⟨rfl,rfl⟩);go_region_law (first|(go_simp;go_at_call 129;refine (afh _ _).mono ?_;rintro e w' ⟨rfl,rfl⟩)|(refine step_append_lies _ (by rfl) (.tmp 12) (.tmp 20) 43 (by rfl) B 5 i0 (.int .u8 0) 1 1 Tryz.underlying43 hi hz0 hz1 hz2 rfl (by decide) _ n (u8s xs) (by rfl) (hown.alloc _).drew ⟨w.heap.size,0,none⟩ 1 1 [.int .u8 (IntKind.u8.wrap (Utf.mark (Utf.size s)+IntKind.u8.wrap (s/2^(6*((Utf.size s:Int)-1)).toNat)))] (by rfl) rfl (awd rfl) (by simp [Value.oneCell']) (by decide) (by unfold maxLen;omega) (by omega) (by simp;omega) _ rfl ?_;intro g1 cap1 w1 hown1 hgrow1 hat1 hlt1))
 have hbel1:Below B w w1:=((((Below.refl B w).alloc hB _).drew).grown hgrow1 (by simp;omega) (by intro k hk;rcases hown.lt k hk with ⟨h,_⟩;exact h))
 have hv0:IntKind.u8.wrap (Utf.mark (Utf.size s)+IntKind.u8.wrap (s/2^(6*((Utf.size s:Int)-1)).toNat))=(Utf.mark (Utf.size s)+s/2^(6*(Utf.size s-1))%256)%256:=by
  rw [IntKind.wrap_u8',IntKind.wrap_u8',show (6*((Utf.size s:Int)-1)).toNat=6*(Utf.size s-1) from by omega]
 rw [hv0,aep,<-Utf.amr s _ rfl h0 h1] at hown1;clear hv0 hgrow1 hat1 hlt1 hown;go_wp2;simp only [Act.put,List.setIfInBounds_toArray,List.set_cons_zero,List.getElem_cons_succ,List.getElem_cons_zero,List.getElem_toArray];generalize (s/2^(6*((Utf.size s:Int)-1)).toNat)=q1;generalize IntKind.u8.wrap (Utf.mark (Utf.size s)+IntKind.u8.wrap q1)=q3;generalize IntKind.u8.wrap q1=q2;go_loopw [0,6] (fun bv sh wr=>∃j g2 cap2:Nat,j<Utf.size s/\sh=.int .i64 (6*(j:Int))/\bv=.slice (some ⟨g2,0,none⟩) (n+(Utf.size s-j)) cap2/\wr.ownsRow B 5 1 (.slice (some ⟨g2,0,none⟩) (n+(Utf.size s-j)) cap2) (n+(Utf.size s-j)) (u8s (xs++(Utf.enc s).take (Utf.size s-j)))/\Below B w wr) (fun _ sh _=>(intOf sh).toNat)
 case atStart =>
  have e0:Utf.size s-(Utf.size s-1)=1:=by omega
  exact ⟨Utf.size s-1,g1,cap1,by omega,congrArg (Value.int .i64) (by omega),by rw [e0],by rw [e0];exact hown1,hbel1⟩
 case round =>
  obtain ⟨j,g2,cap2,hj,rfl,rfl,hown2,hbel2⟩:=hrel;by_cases hj0:j=0
  ·subst hj0;simp only [Nat.sub_zero] at hown2 ⊢;rw [Utf.avl] at hown2;go_wp2;go_ret;exact ⟨g2,cap2,rfl,hown2,hbel2⟩
  ·obtain ⟨i,rfl⟩:∃i,j=i+1:=⟨j-1,by omega⟩
   clear hj0;obtain ⟨c,hc⟩:∃c,c=s/2^(6*i)%64:=⟨_,rfl⟩;have hc0:0<=c:=by omega
   have hc1:c<64:=by omega
   have hb:bits .and .i32 (s/2^(6*(i+1)-6)) 63=c:=by
    have hd:=anq s (6*i) h0 h1;rw [hc,show 6*(i+1)-6=6*i from by omega];exact anp _ hd.1 (by omega)
   have hen:=Utf.enc_next s i hj;rw [<-hc] at hen;have HE:=hdq hen;clear hc hen;go_wp2_with (at_builtin;refine wpList_append_lies _ (by rfl) (.tmp 26) (.tmp 33) 43 (by rfl) B 5 i0 (.int .u8 0) 1 1 Tryz.underlying43 hi hz0 hz1 hz2 rfl (by decide) _ _ _ (by rfl) (hown2.alloc _) ⟨wr.heap.size,0,none⟩ 1 1 [.int .u8 (128+c)] (by rfl) rfl (ard rfl) (by simp [Value.oneCell']) (by decide) (by unfold maxLen;omega) (by omega) (by have:=hbel2.size;simp;omega) _ rfl ?_;intro g3 cap3 w3 hown3 hgrow3 hat3 hlt3)
   have e1:n+(Utf.size s-(i+1))+1=n+(Utf.size s-i):=by omega
   have hbel3:Below B w w3:=(hbel2.alloc (by have:=hbel2.size;omega) _).grown hgrow3 (by have:=hbel2.size;simp;omega) (by intro k hk;exact (hown2.lt k hk).1)
   rw [aep,List.append_assoc,<-HE.out,e1] at hown3;clear hgrow3 hat3 hlt3 hown2 hbel2 hbel1 hb HE;go_roundw
   case rel=>exact ⟨i,g3,cap3,by omega,congrArg (Value.int .i64) (by omega),by rw [e1],hown3,hbel3⟩
   case measure=>simp [intOf];omega

end
section
open Go.RowKit

def PutPost (B:Nat) (zs:List Int) (w:World) (e:Ending) (w':World):Prop :=
 Below B w w'/\((Utf.allGood zs=true/\∃g cap,e=.returned (.tuple #[.slice (some ⟨g,0,none⟩) (Utf.put zs).length cap,.int .i64 0]) /\
  w'.ownsRow B 5 1 (.slice (some ⟨g,0,none⟩) (Utf.put zs).length cap) (Utf.put zs).length (u8s (Utf.put zs))) \/
  (Utf.allGood zs=false/\e=.returned (.tuple #[.slice none 0 0,.int .i64 10])))

theorem vm (zs:List Int) (k:Nat) (hk:k<zs.length):Utf.allGood (zs.take (k+1))=(Utf.allGood (zs.take k)&&Utf.good (zs.getD k 0)):=by
 rw [tsa hk,Utf.abd];simp [Utf.allGood,hk]
theorem aea (zs:List Int) (k:Nat) (hk:k<zs.length):Utf.put (zs.take (k+1))=Utf.put (zs.take k)++Utf.enc (zs.getD k 0):=by
 rw [tsa hk,Utf.arf];simp [hk]
theorem aib (zs:List Int) (k:Nat) (hk:k<zs.length) (h:Utf.good (zs.getD k 0)=false):Utf.allGood zs=false:=by
 unfold Utf.allGood;rw [Bool.eq_false_iff];intro ha;have:=List.all_eq_true.1 ha (zs[k]) (List.getElem_mem _);simp [hk] at h;rw [h] at this;cases this

theorem awe (a:Option Addr) (n cap:Nat) (zs:List Int) (w:World) (hs:Sl .i64 w a n cap zs) (hn:n<=17592186044416) :
 Calls Tryz.prog 42 #[.slice a n cap] w (PutPost w.heap.size zs w):=by
 obtain ⟨i0,hi,hz0,hz1,hz2⟩:=info_parts Tryz.info5;obtain ⟨hlen,hnc,hcm,hwf,hcell⟩:=hs;have HL:=hdq hlen;clear hlen;go_enter Tryz.func42,Tryz.ntmps42;go_wp2_with (at_make;refine wpList_make_own _ rfl _ _ 43 rfl w.heap.size 5 i0 (.int .u8 0) 1 Tryz.underlying43 hi hz0 hz1 _ _ _ n rfl rfl rfl (by rw [hz2];omega) (by unfold maxLen;omega) (by omega) ?_;intro w1 hown1 hgrow1)
 have hbel1:Below w.heap.size w w1:=(Below.refl _ _).grown hgrow1 lrf (by intro k hk;cases hk)
 go_loopw [4,12] (fun bv ix wr=>∃k g c:Nat,k<=n/\ix=.int .i64 (k:Int)/\bv=.slice (some ⟨g,0,none⟩) (Utf.put (zs.take k)).length c/\Utf.allGood (zs.take k)=true /\
  wr.ownsRow w.heap.size 5 1 (.slice (some ⟨g,0,none⟩) (Utf.put (zs.take k)).length c) (Utf.put (zs.take k)).length (u8s (Utf.put (zs.take k)))/\Below w.heap.size w wr) (fun _ ix _=>n-(intOf ix).toNat)
 case atStart=>exact ⟨0,w.heap.size,n,Nat.zero_le _,rfl,rfl,rfl,hown1,hbel1⟩
 case round =>
  obtain ⟨k,g,c,hk,rfl,rfl,hag,hown2,hbel2⟩:=hrel;have HG:=hdq hag;clear hag hbel1 hown1 hgrow1;by_cases hlt:k<n
  ·obtain ⟨z,hz⟩:∃z,z=zs.getD k 0:=⟨_,rfl⟩;have hzb:-9223372036854775808<=z/\z<=9223372036854775807:=by have:=range_i64 hwf k;rw [hz,gdq];exact this
   have hput:=Utf.je (zs.take k);have htk:(zs.take k).length<=k:=List.length_take_le _ _;obtain h0|⟨b,off,rfl,hcc⟩:=hcell
   ·omega
   have hck:=hcc k hlt;have hbb:=ay hck;have hc:wr.cell? ⟨b,off+k,none⟩=some (.int .i64 z):=by rw [hbel2.cell (p:=⟨b,off+k,none⟩) hbb,hck,hz]
   have HZ:=hdq hz;have hsize:=hbel2.size;clear hz hck hcc hwf;obtain ⟨hzb0,hzb1⟩:=hzb;by_cases hg:Utf.good z=true
   ·have hg':=(Utf.dw z).1 hg;have hz0':=hg'.1;have hz1':=hg'.2.1;have hn4:(Utf.put (zs.take k)).length+4<=140737488355328:=by omega
    clear hg'
    go_wp2_with (first
     | (go_at_call 60;refine (jj _ _ hzb0 hzb1).mono ?_;rintro e w' ⟨rfl,rfl⟩)
     | (go_at_call 86;refine (abl w.heap.size g _ c _ z _ hown2 hsize hz0' hz1' hn4).mono ?_;rintro e w3 ⟨g3,c3,rfl,hown3,hbel3⟩))
    have hk':k<zs.length:=by rw [HL.out];exact hlt
    have e1:=aea zs k hk';rw [<-HZ.out] at e1;have e2:(Utf.put (zs.take (k+1))).length=(Utf.put (zs.take k)).length+Utf.size z:=by rw [e1,List.length_append,Utf.mf]
    have e3:Utf.allGood (zs.take (k+1))=true:=by rw [vm _ _ hk',HG.out,<-HZ.out,hg];rfl
    rw [<-e1,<-e2] at hown3;go_roundw
    case rel=>exact ⟨k+1,g3,c3,by omega,by go_num,by rw [e2],e3,hown3,hbel2.trans hbel3⟩
    case measure=>simp [intOf];omega
   ·have hgf:Utf.good z=false:=by simpa using hg
    clear hg;go_wp2_with (go_at_call 60;refine (jj _ _ hzb0 hzb1).mono ?_;rintro e w' ⟨rfl,rfl⟩);go_ret2;refine ⟨hbel2,.inr ⟨aib zs k (by rw [HL.out];exact hlt) ?_,rfl⟩⟩
    rw [<-HZ.out];exact hgf
  ·have hkn:k=n:=by omega
   have hge:zs.take k=zs:=tol (by rw [HL.out];omega)
   rw [hge] at hown2;have HG':Utf.allGood zs=true:=by have:=HG.out;rw [hge] at this;exact this
   have HK:=hdq hge;clear hge HG hkn;go_wp2;go_ret2;refine ⟨hbel2,.inl ⟨HG',g,c,?_,hown2⟩⟩;simp only [Array.getD_eq_getD_getElem?,HK.out];rfl

end
section
open Go.RowKit

end
section
open Go.RowKit

def takeV:Option (Int × Nat)->Value
 | some (n,k)=>.tuple #[.int .i64 n,.int .i64 k,.int .i64 0]
 | none=>.tuple #[.int .i64 0,.int .i64 0,.int .i64 10]

end
section
open Go.RowKit

end
section
open Go.RowKit

theorem Sl.new {w:World} {t:TypeId} (zs:List Int) (hw:∀z∈zs,0<=z/\z<=255) (hl:zs.length<=maxLen):Sl .u8 (w.alloc (.cells (u8s zs).toArray t)) (some ⟨w.heap.size,0,none⟩) zs.length zs.length zs:=by
 refine ⟨rfl,Nat.le_refl _,hl,fun z hz=>WalkArith.wf_u8 (hw z hz),.inr ⟨w.heap.size,0,rfl,fun i hi=>?_⟩⟩;rw [cell_of_row _ w.heap.size _ _ t (0,0) (han w _)];simp [u8s,hi]
theorem toList_inj {a b:ByteArray} (h:a.toList=b.toList):a=b:=by
 rw [Lib.toList_data,Lib.toList_data] at h;rw [<-Lib.mk_data a,<-Lib.mk_data b,h]
end
section
open Go.RowKit

end
section
open Go.RowKit


end
section
open Go.RowKit

theorem anr {l:List Int} (h:Utf.allGood l=true):∀z∈Utf.put l,(Lit.int .u8 z).wf=true:=fun z hz=>WalkArith.wf_u8 (Utf.nj l h z hz)

theorem axu (a:Option Addr) (n cap:Nat) (zs:List Int) (w:World) (hs:Sl .i64 w a n cap zs) (hn:n<=17592186044416) (hg:Utf.allGood zs=true) :
 Calls Tryz.prog 42 #[.slice a n cap] w fun e w'=>∃g c,e=.returned (.tuple #[.slice (some ⟨g,0,none⟩) (Utf.put zs).length c,.int .i64 0]) /\
  Sl .u8 w' (some ⟨g,0,none⟩) (Utf.put zs).length c (Utf.put zs)/\Below w.heap.size w w' :=
 (awe a n cap zs w hs hn).mono fun e w' h=>by
  obtain ⟨hb,⟨_,g,c,he,ho⟩|⟨h0,_⟩⟩:=h
  ·exact ⟨g,c,he,Sl.of_owns ho (anr hg) rfl,hb⟩
  ·rw [hg] at h0;cases h0
theorem axv (a:Option Addr) (n cap:Nat) (zs bs:List Int) (m:Nat) (w:World) (hs:Sl .i64 w a n cap zs) (hn:n<=17592186044416) (hg:Utf.allGood zs=true) (hp:Utf.put zs=bs) (hm:bs.length=m) :
 Calls Tryz.prog 42 #[.slice a n cap] w fun e w'=>∃g c,e=.returned (.tuple #[.slice (some ⟨g,0,none⟩) m c,.int .i64 0])/\Sl .u8 w' (some ⟨g,0,none⟩) m c bs/\Below w.heap.size w w':=by
 subst hm;subst hp;exact axu a n cap zs w hs hn hg
end
section
open Go.RowKit

def PutIs (zs bs:List Int) (er:Int):Prop:=(Utf.allGood zs=true/\bs=Utf.put zs/\er=0)\/(Utf.allGood zs=false/\bs=[]/\er=10)
theorem PutIs.wf {zs bs:List Int} {er:Int} (h:PutIs zs bs er):∀z∈bs,0<=z/\z<=255:=by
 obtain ⟨h1,rfl,_⟩|⟨_,rfl,_⟩:=h
 ·exact Utf.nj zs h1
 ·simp
theorem PutIs.le {zs bs:List Int} {er:Int} (h:PutIs zs bs er):bs.length<=4*zs.length:=by
 obtain ⟨_,rfl,_⟩|⟨_,rfl,_⟩:=h
 ·exact Utf.je zs
 ·simp
def TakeIs (zs:List Int) (s:Int) (k:Nat) (er:Int):Prop:=(Utf.takeL zs=some (s,k)/\er=0)\/(Utf.takeL zs=none/\s=0/\k=0/\er=10)
theorem TakeIs.v {zs:List Int} {s:Int} {k:Nat} {er:Int} (h:TakeIs zs s k er):takeV (Utf.takeL zs)=.tuple #[.int .i64 s,.int .i64 k,.int .i64 er]:=by
 obtain ⟨h1,rfl⟩|⟨h1,rfl,rfl,rfl⟩:=h
 ·rw [h1];rfl
 ·rw [h1];rfl
end
section
open Go.RowKit

theorem val_take {zs:List Int} {i:Nat} (h:i<zs.length):Num.val (zs.take (i+1))=Num.val (zs.take i)*10+(zs.getD i 0-48).toNat:=by
 rw [tsa h,Num.val_snoc];simp [h]
theorem getD_mem {zs:List Int} {i:Nat} (h:i<zs.length):zs.getD i 0∈zs:=by
 rw [gdq,geg h];exact List.getElem_mem _

end
section
open Go.RowKit

end
section
open Go.RowKit

theorem asf {xs:List Rw} {j:Nat} {r:Rul} (h:j<xs.length) (hr:(xs.getD j Rw.no).r=r):(ruls xs).take (j+1)=(ruls xs).take j++[r]:=by
 have hl:j<(ruls xs).length:=by rw [av];exact h
 rw [tsa hl]
 congr 2
 have:=fh xs j;rw [hr] at this;rw [<-this,gdq,geg hl,Option.getD_some]

end
end Go.Proofs.YtkiamgcpcneggaaGreat
