import Derived.Lib.LazyBuf
import Derived.Lib.AppendZerosOnto
import Derived.Lib.Walk
import Derived.Test.YtkiamgcpcneggaaGreatPackAM
set_option linter.all false
set_option maxRecDepth 100000
set_option maxHeartbeats 12800000
namespace Go.Proofs.YtkiamgcpcneggaaGreat
section
open Go.RowKit

theorem Sl.bytes {w:World} {a:Option Addr} {n cap:Nat} {b:List Int} (h:Sl .u8 w a n cap b):Crc.Bytes b:=fun z hz=>by
 have:=bounds_u8 (h.2.2.2.1 z hz);omega

theorem Sl.byteAt {w:World} {a:Option Addr} {n cap:Nat} {b:List Int} (h:Sl .u8 w a n cap b) {j:Nat} (hj:j<n):∃x:Nat,(x:Int)=b.getD j 0/\x<256:=by
 have hl:=h.1;have e:b.getD j 0=b[j]:=by simp [show j<b.length by omega]
 have:=h.bytes (b.getD j 0) (by rw [e];exact List.getElem_mem (by omega))
 exact ⟨(b.getD j 0).toNat,by omega,by omega⟩

theorem aua (s:Nat) (hs:s<4294967296):bits .xor .u32 ((s:Int)/2) ((s:Int)%2*3988292384)=((Crc.step s:Nat):Int):=by
 have h1:(s:Int)/2=((s/2:Nat):Int):=by omega
 have h2:(s:Int)%2*3988292384=((s%2*3988292384:Nat):Int):=by omega
 rw [h1,h2,u32_xor_nat _ _ (by omega) (by omega)]
 unfold Crc.step Crc.pol;by_cases h:s%2=1
 ·rw [if_pos h,h,Nat.one_mul]
 ·rw [if_neg h,show s%2=0 by omega,Nat.zero_mul]

theorem aub (s:Nat) (hs:s<4294967296) (w:World) :
 Calls Tryz.prog 137 #[.int .u32 (s:Int)] w fun e w'=>e=.returned (.int .u32 ((Crc.step s:Nat):Int))/\w=w':=by
 go_enter Tryz.func137,Tryz.ntmps137;go_wp2;go_ret;refine ⟨?_,rfl⟩;rw [<-aua s hs];rfl

theorem amh (k s:Nat):Crc.steps (k+1) s=Crc.step (Crc.steps k s):=by rw [Crc.anh];rfl
theorem auc {b:List Int} {j:Nat} (h:j<b.length) {x:Nat} (hx:(x:Int)=b.getD j 0) (s:Nat):Crc.raw s (b.take (j+1))=Crc.steps 8 (Crc.raw s (b.take j) ^^^ x):=by
 have e:b[j]=(x:Int):=by simpa [h] using hx.symm
 rw [tsa h,Crc.ary,e,Int.toNat_natCast]

theorem ajr (a:Option Addr) (n cap:Nat) (b:List Int) (w:World) (hs:Sl .u8 w a n cap b) :
 Calls Tryz.prog 93 #[.slice a n cap] w fun e w'=>e=.returned (.int .u32 ((Crc.sum b:Nat):Int))/\w=w':=by
 have hnc:=hs.2.1;have hcm:=hs.2.2.1;unfold maxLen at hcm;have HS:=hdq hs;have HL:=hdq hs.1;have HBY:=hdq hs.bytes;clear hs;go_enter Tryz.func93,Tryz.ntmps93;go_wp2;go_loop [3,8] (fun sv ix=>∃(v j:Nat),sv=.int .u32 (v:Int)/\ix=.int .i64 (j:Int)/\j<=n/\v<4294967296/\Hid (v=Crc.raw Crc.ones (b.take j))) (fun _ ix=>n-(intOf ix).toNat)
 case atStart=>exact ⟨4294967295,0,rfl,rfl,Nat.zero_le _,by omega,rfl⟩
 case round =>
  obtain ⟨v,j,rfl,rfl,hj,hv,HV⟩:=hrel;by_cases hlt:j<n
  ·obtain ⟨b1,o1,rfl,_,hc1⟩:=HS.out.at (by omega)
   have hx1:=hc1 j hlt;obtain ⟨x,hx,hx256⟩:=HS.out.byteAt hlt;have HN:=hdq (auc (by rw [HL.out];exact hlt) hx Crc.ones)
   rw [<-hx] at hx1;have hxor:bits .xor .u32 (v:Int) (x:Int)=((v ^^^ x:Nat):Int):=u32_xor_nat _ _ hv (by omega)
   have hy9:v ^^^ x<4294967296:=Nat.xor_lt_two_pow (n:=32) hv (by omega)
   obtain ⟨y,hy⟩:∃y,y=v ^^^ x:=⟨_,rfl⟩;rw [<-hy] at hxor hy9;have HY:=hdq hy;have hlti:(j:Int)<(n:Int):=by omega
   have hx255:(x:Int)<=255:=by omega
   clear hc1 hx hy;go_wp2;go_loop [3,16] (fun sv kv=>∃(u k:Nat),sv=.int .u32 (u:Int)/\kv=.int .i64 (k:Int)/\k<=8/\u<4294967296/\Hid (u=Crc.steps k y)) (fun _ kv=>8-(intOf kv).toNat)
   case atStart=>exact ⟨y,0,by first|rfl|simp,rfl,Nat.zero_le _,hy9,rfl⟩
   case round =>
    obtain ⟨u,k,rfl,rfl,hk,hu,HU⟩:=hrel;by_cases hk8:k<8
    ·have hk8i:(k:Int)<8:=by omega
     have hsl:=Crc.step_lt hu;obtain ⟨u',hu'⟩:∃u',u'=Crc.step u:=⟨_,rfl⟩;rw [<-hu'] at hsl;have HC:=hdq (aub u hu);rw [<-hu'] at HC;have HU':Hid (u'=Crc.steps (k+1) y):=by show _=_;rw [hu',amh,<-HU.out]
     clear hu';go_wp2_with fail;refine (HC.out _).mono ?_;rintro e w1 ⟨rfl,hw1⟩;obtain rfl:=hw1.symm;go_wp2;go_round
     case rel=>exact ⟨u',k+1,rfl,by go_num,by omega,hsl,HU'.out⟩
     case measure=>simp [intOf];omega
    ·obtain rfl:k=8:=by omega
     go_wp2;go_round
     case rel=>exact ⟨u,j+1,rfl,by go_num,by omega,hu,by show u=_;rw [HN.out,<-HV.out,<-HY.out];exact HU.out⟩
     case measure=>simp [intOf];omega
  ·obtain rfl:j=n:=by omega
   have hfin:bits .xor .u32 (v:Int) 4294967295=((Crc.sum b:Nat):Int):=by
    have h:=u32_xor_nat v 4294967295 hv (by omega)
    have hv2:=HV.out;rw [tol (by rw [HL.out];exact Nat.le_refl _)] at hv2
    rw [hv2] at h ⊢;exact h
   go_wp2;go_ret;exact ⟨by first|rfl|simp [hfin],rfl⟩

end
section
open Go.RowKit

theorem adn:(Tryz.prog.info? 122).map (·.size)=some 4:=by kernel_rfl

theorem ayj (w:World) (a b c d a' b' c' d':Int) :
 (Op.equalIn 10000 122 (.agg #[.int .u8 a,.int .u8 b,.int .u8 c,.int .u8 d]) (.agg #[.int .u8 a',.int .u8 b',.int .u8 c',.int .u8 d'])).run Tryz.prog w=.ok (a==a'&&(b==b'&&(c==c'&&d==d'))) w:=by
 obtain ⟨i0,hi,hz0,hz1,hz2⟩:=info_parts vf;have e:=fun (w:World) (x y:Int)=>run_equalIn_int w 9998 5 .u8 .u8 x y Tryz.underlying5
 have hp:∀(w:World) (xs:Array Value) (o:Nat) (v:Value),xs[o]?=some v->(part 5 xs o).run Tryz.prog w=.ok v w:=fun w xs o v hx=>by
  simp [part,isAgg,run_underlying Tryz.underlying5,hx]
 have e2:∀(w:World) (x y:Int),(Op.equalIn 9999 5 (.int .u8 x) (.int .u8 y)).run Tryz.prog w=.ok (x==y) w:=e;clear e;show (Op.equalIn (9999+1) _ _ _).run _ _=_;unfold Op.equalIn;simp only [Sem.run_bind,run_underlying Tryz.underlying122,Result.andThen_ok];simp [Sem.run_bind,sizeOf,typeInfo,hi,hz1,List.range',hp,e2];cases ha:a==a'<;>cases hb:b==b'<;>cases hc:c==c'<;>cases hd:d==d'<;>simp_all
end
section
open Go.RowKit

theorem ahi (a1 a2:Option Addr) (n1 c1 n2 c2:Nat) (xs ys:List Int) (r:Bool) (w:World) (h1:Sl .u8 w a1 n1 c1 xs) (h2:Sl .u8 w a2 n2 c2 ys) (hr:decide (xs=ys)=r) :
 Calls Tryz.prog 54 #[.slice a1 n1 c1,.slice a2 n2 c2] w fun e w'=>e=.returned (.bool r)/\w=w':=by
 have hse:=axt h1.2.2.2.1 h2.2.2.2.1;obtain ⟨S1,hS1⟩:∃S1,S1=strOfNums xs:=⟨_,rfl⟩;obtain ⟨S2,hS2⟩:∃S2,S2=strOfNums ys:=⟨_,rfl⟩;have hk1:(convert 43 9 (.slice a1 n1 c1)).run Tryz.prog w=.ok (.string S1) w:=by rw [hS1];exact h1.str
 have hk2:(convert 43 9 (.slice a2 n2 c2)).run Tryz.prog w=.ok (.string S2) w:=by rw [hS2];exact h2.str
 rw [<-hS1,<-hS2,hr] at hse;clear hS1 hS2 h1 h2 hr;go_enter Tryz.func54,Tryz.ntmps54;go_wp2;go_ret;exact ⟨by simp [hse],rfl⟩

theorem nh (a1 a2:Option Addr) (n1 c1 n2 c2:Nat) (xs ys:List Int) (r:Bool) (w:World) (h1:Sl .u8 w a1 n1 c1 xs) (h2:Sl .u8 w a2 n2 c2 ys) (h0:0<n2) (hr:decide (xs.take n2=ys)=r) :
 Calls Tryz.prog 170 #[.slice a1 n1 c1,.slice a2 n2 c2] w fun e w'=>e=.returned (.bool r)/\w=w':=by
 have hc1:=h1.2.2.1;have hc2:=h2.2.2.1;unfold maxLen at hc1 hc2;have hnc1:=h1.2.1;have hnc2:=h2.2.1;by_cases hlt:n1<n2
 ·obtain rfl:r=false:=by
   rw [<-hr,decide_eq_false_iff_not];intro h;have:=congrArg List.length h;rw [List.length_take,h1.1,h2.1] at this;omega
  have hb:¬(n2:Int)<=(n1:Int):=by omega
  clear h1 h2 hr;go_enter Tryz.func170,Tryz.ntmps170;go_wp2;go_ret;exact ⟨rfl,rfl⟩
 ·obtain ⟨b1,o1,rfl,_,_⟩:=h1.at (by omega)
  have hb:(n2:Int)<=(n1:Int):=by omega
  have hb2:(n2:Int)<=(c1:Int):=by omega
  have H1:=hdq (h1.first n2 (by omega))
  have H2:=hdq h2;have HR:=hdq hr;clear h1 h2 hr;go_enter Tryz.func170,Tryz.ntmps170;go_wp2_with (go_at_call 54;refine (ahi _ _ _ _ _ _ _ _ r _ H1.out H2.out HR.out).mono ?_;rintro e w1 ⟨rfl,hw1⟩;obtain rfl:=hw1.symm);go_ret;exact ⟨by simp,rfl⟩

theorem vb (a:Option Addr) (n cap:Nat) (zs:List Int) (w:World) (hs:Sl .u8 w a n cap zs) (hn:n<=1000000000000) :
 Calls Tryz.prog 99 #[.slice a n cap] w fun e w'=>∃a' c',e=.returned (.slice a' n c')/\w'.ownsRow w.heap.size 5 1 (.slice a' n c') n (u8s zs)/\Below w.heap.size w w':=by
 cases a with
 | none =>
   obtain rfl:n=0:=by
    rcases hs.2.2.2.2 with h|⟨_,_,h,_⟩
    ·exact h
    ·cases h
   obtain rfl:zs=[]:=List.eq_nil_of_length_eq_zero hs.1;clear hs;have qT:∀(w:World) (a:Option Addr) (n c:Nat),(binOp .eql 43 (.slice a n c) (.slice none 0 0)).run Tryz.prog w=.ok (.bool a.isNone) w:=fun w a n c=>run_eql_slice_nil w _ _ a n c Tryz.underlying43;go_enter Tryz.func99,Tryz.ntmps99;go_wp2;go_ret;exact ⟨none,0,rfl,World.ownsRow_nil w _ _ _,Below.refl _ _⟩
 | some y =>
   have HS:=hdq hs;have HB0:∀o,Hid (Below w.heap.size w (w.alloc o)):=fun o=>hdq ((Below.refl _ w).alloc lrf o);have HMD:Hid ((w.alloc (.cells #[] 5)).ownsRow w.heap.size 5 1 (.slice (some ⟨w.heap.size,0,none⟩) 0 0) 0 (u8s [])):=World.ownsRow_made w #[] 0 lrf (Nat.zero_le _) rfl;clear hs;have qT:∀(w:World) (a:Option Addr) (n c:Nat),(binOp .eql 43 (.slice a n c) (.slice none 0 0)).run Tryz.prog w=.ok (.bool a.isNone) w:=fun w a n c=>run_eql_slice_nil w _ _ a n c Tryz.underlying43;go_enter Tryz.func99,Tryz.ntmps99;go_wp2_with (at_builtin;refine ie (by rfl) (.tmp 5) (.tmp 6) (by rfl) w.heap.size _ 0 [] (by rfl) HMD.out (some y) n cap zs (by rfl) (HS.out.alloc _) n (by omega) (by omega) (by simp) ?_;intro a' c' w' hown hb hnil;have HO:=hdq hown;have HB:Hid (Below w.heap.size w w'):=hdq ((HB0 _).out.trans hb);clear hown hb hnil)
   go_ret;exact ⟨a',c',rfl,by simpa using HO.out,HB.out⟩

theorem axd (n:Nat) (h0:0<n) (hn:n<=1000000000000) (w:World) :
 Calls Tryz.prog 138 #[.slice none 0 0,.int .i64 (n:Int)] w fun e w'=>∃c',e=.returned (.slice (some ⟨w.heap.size,0,none⟩) 0 c')/\w'.ownsRow w.heap.size 5 1 (.slice (some ⟨w.heap.size,0,none⟩) 0 c') 0 (u8s [])/\Below w.heap.size w w':=by
 obtain ⟨i0,hi0,hz0,hzs,hzb⟩:=info_parts vf;have h1:¬((n:Int)<0):=by omega
 have h4:(0:Int)<(n:Int):=by omega
 have hrz:∀ty,(Builtin.append_ #[43,3] ty #[.slice none 0 0,.int .i64 (n:Int)]).run Tryz.prog w =
  .ok (.slice (some ⟨w.heap.size,0,none⟩) n (grownCap w n 0 5)) (w.drew.alloc (.cells (([]:List Value).toArray++Builtin.zeroCells (Value.int .u8 0).cells n++Builtin.zeroCells (Value.int .u8 0).cells (grownCap w n 0 5-n)) 5)):=fun ty=>by
  have h:=Lib.run_append_grow_zeros w 43 3 ty 5 i0 (.int .u8 0) .i64 .i64 Tryz.underlying43 Tryz.underlying3 hi0 hz0 none 0 0 [] (by rw [hzs];exact run_firstCells_none w.drew 1 0 0 0) n h0 (by omega) (by omega) (by omega) (by rw [hzb];omega) (by rw [hzb,Nat.zero_add];exact growslice_fits (by omega) (by omega))
  rw [Nat.zero_add] at h;exact h
 have hGn:n<=grownCap w n 0 5:=grownCap_ge w _ _ _;have hGm:=grownCap_le_maxLen w n 0 5 (by unfold maxLen;omega)
 obtain ⟨G,hG⟩:∃G,G=grownCap w n 0 5:=⟨_,rfl⟩;rw [<-hG] at hrz hGn hGm;obtain ⟨ROW,hROW⟩:∃ROW:Array Value,ROW=([]:List Value).toArray++Builtin.zeroCells (Value.int .u8 0).cells n++Builtin.zeroCells (Value.int .u8 0).cells (G-n):=⟨_,rfl⟩;rw [<-hROW] at hrz
 have hRs:ROW.size=G:=by
  rw [hROW];simp [Builtin.zeroCells,Value.cells];omega
 have HGM:=hdq hGm;have HRS:=hdq hRs;have hG63:G<=9223372036854775807:=by unfold maxLen at hGm;omega
 clear hROW hG hRs hGm;go_enter Tryz.func138,Tryz.ntmps138;go_wp2_with (at_builtin;refine Lib.wpList_append_run _ rfl _ _ _ _ rfl _ _ rfl rfl _ _ (hrz _) ?_);go_ret;refine ⟨G,rfl,World.ownsRow_made w.drew ROW G lrf HGM.out (by rw [HRS.out,Nat.mul_one]),?_⟩
 have h:=(Below.refl w.heap.size w.drew).alloc (o:=.cells ROW 5) lrf;exact ⟨h.os,h.tape,h.output,h.size,h.block⟩

end
section
open Go.RowKit

theorem ado (g c:Nat) (a1 a2:Option Addr) (n1 c1 n2 c2:Nat) (xs ys:List Int) (w:World) (hx:w.cell? ⟨g,0,none⟩=some (.slice a1 n1 c1)) (hy:w.cell? ⟨g,1,none⟩=some (.slice a2 n2 c2))
 (h1:Sl .u8 w a1 n1 c1 xs) (h2:Sl .u8 w a2 n2 c2 ys) (h0:0<n2) (hb1:n1<=200000000000) (hb2:n2<=200000000000) :
 Calls Tryz.prog 94 #[.slice (some ⟨g,0,none⟩) 2 c] w fun e w'=>∃a' c',e=.returned (.slice a' (n1+n2:Nat) c')/\w'.ownsRow w.heap.size 5 1 (.slice a' (n1+n2) c') (n1+n2) (u8s (xs++ys))/\(a'=none->c'=0)/\Below w.heap.size w w':=by
 have hc1:=h1.2.2.1;have hc2:=h2.2.2.1;unfold maxLen at hc1 hc2;have hnc1:=h1.2.1;have hnc2:=h2.2.1;have H1:=hdq h1;have H2:=hdq h2;have hg:=ay hx;have HG:=hdq hg;have HX:=hdq hx;have HY:=hdq hy;clear h1 h2 hg;go_enter Tryz.func94,Tryz.ntmps94;go_wp2;go_loop [3,11] (fun sv ix=>∃(s j:Nat),sv=.int .i64 (s:Int)/\ix=.int .i64 (j:Int)/\((j=0/\s=0)\/(j=1/\s=n1)\/(j=2/\s=n1+n2))) (fun _ ix=>2-(intOf ix).toNat)
 case atStart=>exact ⟨0,0,rfl,rfl,.inl ⟨rfl,rfl⟩⟩
 case round =>
  obtain ⟨s,j,rfl,rfl,(⟨rfl,rfl⟩|⟨rfl,rfl⟩|⟨rfl,rfl⟩)⟩:=hrel
  ·have q1:¬((n1:Int)<0):=by omega
   go_wp2;go_round
   case rel=>exact ⟨n1,1,by first|rfl|simp,rfl,.inr (.inl ⟨rfl,rfl⟩)⟩
   case measure=>simp [intOf]
  ·have q1:¬((s:Int)+(n2:Int)<0):=by omega
   go_wp2;go_round
   case rel=>exact ⟨s+n2,2,by go_num,rfl,.inr (.inr ⟨rfl,rfl⟩)⟩
   case measure=>simp [intOf]
  ·obtain ⟨N,hN⟩:∃N,N=n1+n2:=⟨_,rfl⟩;rw [<-hN];have HN:=hdq hN;have hN0:0<N:=by omega
   have hNb:N<=400000000000:=by omega
   clear hN hx hy;go_wp2_with (go_at_call 138;refine (axd N hN0 (by omega) _).mono ?_;rintro e w1 ⟨cG,rfl,hown,hb⟩;have HO:=hdq hown;have HB:=hdq hb;clear hown hb)
   go_loopw [6,27] (fun sv ix wr=>∃(j k:Nat) (a':Option Addr) (c':Nat) (zs:List Int),sv=.slice a' k c'/\ix=.int .i64 (j:Int)/\k<=400000000000/\Hid ((j=0/\k=0/\zs=[])\/(j=1/\k=n1/\zs=xs)\/(j=2/\k=N/\zs=xs++ys))/\Hid (a'=none->c'=0)/\Hid (wr.ownsRow w.heap.size 5 1 (.slice a' k c') k (u8s zs))/\Hid (Below w.heap.size w wr)) (fun _ ix _=>2-(intOf ix).toNat)
   case atStart=>exact ⟨0,0,_,_,[],rfl,rfl,by omega,.inl ⟨rfl,rfl,rfl⟩,(fun h=>by cases h),HO.out,HB.out⟩
   case round =>
    obtain ⟨j,k,a',c',zs,rfl,rfl,hk,HJ,HNIL,HOW,HBW⟩:=hrel;have hx1:wr.cell? ⟨g,0,none⟩=some (.slice a1 n1 c1):=by rw [HBW.out.cell (p:=⟨g,0,none⟩) HG.out];exact HX.out
    have hy1:wr.cell? ⟨g,1,none⟩=some (.slice a2 n2 c2):=by rw [HBW.out.cell (p:=⟨g,1,none⟩) HG.out];exact HY.out
    have HS1:=hdq (H1.out.below HBW.out lrf);have HS2:=hdq (H2.out.below HBW.out lrf);have hsz:=HBW.out.size;obtain (⟨rfl,rfl,rfl⟩|⟨rfl,rfl,rfl⟩|⟨rfl,rfl,rfl⟩):=HJ.out
    ·clear HJ HO HB;go_wp2_with (at_builtin;refine ie (by rfl) (.tmp 31) (.tmp 32) (by rfl) w.heap.size _ 0 [] (by rfl) HOW.out a1 n1 c1 xs (by rfl) HS1.out n1 (by omega) (by omega) hsz ?_;intro a3 c3 w3 hown3 hb3 hn3;have HO3:=hdq hown3;have HB3:=hdq (HBW.out.trans hb3);have HN3:=hdq hn3;clear hown3 hb3 hn3)
     go_roundw
     case rel=>exact ⟨1,n1,a3,c3,xs,rfl,rfl,by omega,.inr (.inl ⟨rfl,rfl,rfl⟩),HN3.out,(by show World.ownsRow _ _ _ _ _ _ _;simpa using HO3.out),HB3.out⟩
     case measure=>simp [intOf]
    ·clear HJ HO HB;have HNE:=hdq HN.out.symm;go_wp2_with (at_builtin;refine ie (by rfl) (.tmp 31) (.tmp 32) (by rfl) w.heap.size _ k zs (by rfl) HOW.out a2 n2 c2 ys (by rfl) HS2.out N HNE.out (by omega) hsz ?_;intro a3 c3 w3 hown3 hb3 hn3;have HO3:=hdq hown3;have HB3:=hdq (HBW.out.trans hb3);have HN3:=hdq hn3;clear hown3 hb3 hn3)
     go_roundw
     case rel=>exact ⟨2,N,a3,c3,zs++ys,rfl,rfl,by omega,.inr (.inr ⟨rfl,rfl,rfl⟩),HN3.out,HO3.out,HB3.out⟩
     case measure=>simp [intOf]
    ·go_wp2;go_ret;obtain rfl:=HN.out;exact ⟨_,_,rfl,HOW.out,HNIL.out,HBW.out⟩

end
section
theorem z41 {P:Prop} (h:P:=by
 show (World.setCell _ _ _).heap[_]?=_
 rw [heap_setCell_other _ _ _ _ (by show w.heap.size≠w.heap.size+1;omega)];exact H0.out):P:=h
theorem z42 {P:Prop} (h:P:=by
 show (World.setCell _ _ _).heap[_]?=_
 rw [heap_setCell_same _ _ _ _ _ _ H1.out,rr];rfl):P:=h
theorem z43 {P:Prop} (h:P:=by
 exact HBW.out.setCell (by show w.heap.size<=w.heap.size+1;omega) _):P:=h
open Go.RowKit

theorem ayk (s:Nat):∀z∈Crc.le4 s,(Lit.int .u8 z).wf=true:=by
 intro z hz;have:=Crc.acp s z hz;simp [Lit.wf,IntKind.min,IntKind.max,IntKind.signed,IntKind.bits];omega
theorem aud {l:List Int} (h:Crc.Bytes l):∀z∈l,(Lit.int .u8 z).wf=true:=by
 intro z hz;have:=h z hz;simp [Lit.wf,IntKind.min,IntKind.max,IntKind.signed,IntKind.bits];omega

theorem ru (x:Nat):IntKind.u8.wrap (x:Int)=((x%256:Nat):Int):=by rw [IntKind.wrap_u8'];omega

theorem xh (s:Nat) (hs:s<4294967296) (w:World) :
 Calls Tryz.prog 92 #[.int .u32 (s:Int)] w fun e w'=>e=.returned (.agg (am (Crc.le4 s)))/\Below w.heap.size w w':=by
 obtain ⟨a,ha⟩:∃a:Int,a=((s%256:Nat):Int):=⟨_,rfl⟩;obtain ⟨b,hb⟩:∃b:Int,b=((s/256%256:Nat):Int):=⟨_,rfl⟩;obtain ⟨c,hc⟩:∃c:Int,c=((s/65536%256:Nat):Int):=⟨_,rfl⟩;obtain ⟨d,hd⟩:∃d:Int,d=((s/16777216%256:Nat):Int):=⟨_,rfl⟩;have hle:Crc.le4 s=[a,b,c,d]:=by rw [ha,hb,hc,hd];rfl
 rw [hle];have wa:IntKind.u8.wrap (s:Int)=a:=by rw [ru,ha]
 have wb:IntKind.u8.wrap ((s:Int)/256)=b:=by rw [show (s:Int)/256=((s/256:Nat):Int) from by omega,ru,hb]
 have wc:IntKind.u8.wrap ((s:Int)/65536)=c:=by rw [show (s:Int)/65536=((s/65536:Nat):Int) from by omega,ru,hc]
 have wd:IntKind.u8.wrap ((s:Int)/16777216)=d:=by rw [show (s:Int)/16777216=((s/16777216:Nat):Int) from by omega,ru,hd]
 have HI:Hid ((Tryz.prog.info? 122).map (·.size)=some (am [a,b,c,d]).size):=by show _=_;rw [adn];rfl
 have HI3:Hid ((am [0,0,0,0]).size=(am [a,b,c,d]).size):=rfl;have HB:∀o,Hid (Below w.heap.size w (w.alloc o)):=fun o=>(Below.refl _ w).alloc lrf o;clear ha hb hc hd hle;go_enter Tryz.func92,Tryz.ntmps92;go_wp2;go_loopw [5] (fun ix wr=>∃(j:Nat) (l:List Int),ix=.int .i64 (j:Int)/\((j=0/\l=[0,0,0,0])\/(j=1/\l=[a,0,0,0])\/(j=2/\l=[a,b,0,0])\/(j=3/\l=[a,b,c,0])\/(j=4/\l=[a,b,c,d]))/\Hid (wr.heap[w.heap.size]?=some (.cells (am [0,0,0,0]) 122 (0,0)))/\Hid (wr.heap[w.heap.size+1]?=some (.cells (am l) 122 (0,0)))/\Hid (Below w.heap.size w wr)) (fun ix _=>4-(intOf ix).toNat)
 case atStart =>
  refine ⟨0,_,rfl,.inl ⟨rfl,rfl⟩,?_,?_,?_⟩
  ·exact heap_alloc2_old w _ _
  ·exact heap_alloc2_new w _ _
  ·exact (HB _).out.alloc (by simp) _
 case round =>
  obtain ⟨j,l,rfl,hj,H0,H1,HBW⟩:=hrel;obtain ⟨rfl,rfl⟩|⟨rfl,rfl⟩|⟨rfl,rfl⟩|⟨rfl,rfl⟩|⟨rfl,rfl⟩:=hj
  ·have hcell:wr.cell? ⟨w.heap.size+1,0,none⟩=some (.int .u8 0):=by rw [cell_of_row wr (w.heap.size+1) 0 _ _ _ H1.out];rfl
   have hfr:wr.frozen? ⟨w.heap.size+1,0,none⟩=false:=by
    have h:=H1.out;simp [World.frozen?,h]
   go_wp2;go_roundw
   case rel =>
    refine ⟨1,[a,0,0,0],rfl,.inr (.inl ⟨rfl,rfl⟩),?_,?_,?_⟩
    ·exact z41
    ·exact z42
    ·exact z43
   case measure=>simp [intOf]
  ·have hcell:wr.cell? ⟨w.heap.size+1,1,none⟩=some (.int .u8 0):=by rw [cell_of_row wr (w.heap.size+1) 1 _ _ _ H1.out];rfl
   have hfr:wr.frozen? ⟨w.heap.size+1,1,none⟩=false:=by
    have h:=H1.out;simp [World.frozen?,h]
   go_wp2;go_roundw
   case rel =>
    refine ⟨2,[a,b,0,0],rfl,.inr (.inr (.inl ⟨rfl,rfl⟩)),?_,?_,?_⟩
    ·exact z41
    ·exact z42
    ·exact z43
   case measure=>simp [intOf]
  ·have hcell:wr.cell? ⟨w.heap.size+1,2,none⟩=some (.int .u8 0):=by rw [cell_of_row wr (w.heap.size+1) 2 _ _ _ H1.out];rfl
   have hfr:wr.frozen? ⟨w.heap.size+1,2,none⟩=false:=by
    have h:=H1.out;simp [World.frozen?,h]
   go_wp2;go_roundw
   case rel =>
    refine ⟨3,[a,b,c,0],rfl,.inr (.inr (.inr (.inl ⟨rfl,rfl⟩))),?_,?_,?_⟩
    ·exact z41
    ·exact z42
    ·exact z43
   case measure=>simp [intOf]
  ·have hcell:wr.cell? ⟨w.heap.size+1,3,none⟩=some (.int .u8 0):=by rw [cell_of_row wr (w.heap.size+1) 3 _ _ _ H1.out];rfl
   have hfr:wr.frozen? ⟨w.heap.size+1,3,none⟩=false:=by
    have h:=H1.out;simp [World.frozen?,h]
   go_wp2;go_roundw
   case rel =>
    refine ⟨4,[a,b,c,d],rfl,.inr (.inr (.inr (.inr (⟨rfl,rfl⟩)))),?_,?_,?_⟩
    ·exact z41
    ·exact z42
    ·exact z43
   case measure=>simp [intOf]
  ·go_wp2_with (first
    | (refine wpList_load_row (by rfl) 122 (.tmp 3) (by rfl) (w.heap.size+1) (by rfl) 122 (am [a,b,c,d]) (0,0) _ H1.out Tryz.underlying122 (by rfl) HI.out ?_)
    | (refine wpList_store_row (by rfl) 122 (.tmp 2) (.tmp 16) (by rfl) w.heap.size (am [a,b,c,d]) (by rfl) (by rfl) 122 (am [0,0,0,0]) H0.out HI.out HI3.out (fo _) ?_))
   try rw [Exit.noGoto_ret]
   refine bodyPost_ret (results_cell_row (by rfl) _ _ w.heap.size 122 (am [a,b,c,d]) (0,0) _ (by rfl) (setRow_heap _ _ _ _ _ _ H0.out) Tryz.underlying122 (by rfl) HI.out) rfl ?_
   exact ⟨rfl,below_setRow HBW.out lrf _⟩

theorem aue (a:Option Addr) (n1 cap:Nat) (b:List Int) (w:World) (hs:Sl .u8 w a n1 cap b) (hb1:n1<=200000000000) :
 Calls Tryz.prog 47 #[.slice a n1 cap] w fun e w'=>MadeB w w' e (Crc.lock b):=by
 have hsum:=Crc.ani hs.bytes;obtain ⟨s,hsd⟩:∃s,s=Crc.sum b:=⟨_,rfl⟩;rw [<-hsd] at hsum;have HSD:=hdq hsd;have HL:=hdq hs.1;have HS:=hdq hs
 have HCS:Hid (Calls Tryz.prog 93 #[.slice a n1 cap] w fun e w'=>e=.returned (.int .u32 ((s:Nat):Int))/\w=w'):=by
  have h:=ajr a n1 cap b w hs;rw [<-hsd] at h;exact h
 have HC:=hdq (fun w=>xh s hsum w);have HW:=hdq (ayk s);have h4:(Crc.le4 s).length=4:=rfl;have HI:Hid ((Tryz.prog.info? 122).map (·.size)=some (am (Crc.le4 s)).size):=by show _=_;rw [adn,ga];rfl
 have HI3:Hid ((am [0,0,0,0]).size=(am (Crc.le4 s)).size):=rfl;clear hs hsd hsum;go_enter Tryz.func47,Tryz.ntmps47
 go_wp2_with (first
  | (go_at_call 93;refine HCS.out.mono ?_;rintro e wz ⟨rfl,hwz⟩;subst hwz)
  | (go_at_call 92;refine (HC.out _).mono ?_;rintro e w1 ⟨rfl,hb⟩;have HB:=hdq hb;clear hb)
  | (refine ai (by rfl) 122 (.tmp 3) (.tmp 6) (by rfl) _ (am (Crc.le4 s)) (by rfl) (by rfl) 122 (am [0,0,0,0]) (han _ _) HI.out HI3.out (fo _) ?_;intro w2 hh2 hg2 hs2;have HB2:=hdq (bj HB.out hg2);have HX2:=hdq (Sl.of_heap (k:=.u8) hh2 HW.out h4 (by unfold maxLen;omega));clear hh2 hg2 hs2)
  | fail)
 obtain ⟨W3,hW3⟩:∃W3,W3=w2.alloc (.cells #[.slice a n1 cap,.slice (some ⟨w1.heap.size,0,none⟩) 4 4] 43):=⟨_,rfl⟩;rw [<-hW3];have hB3:Below w.heap.size w W3:=by rw [hW3];exact HB2.out.alloc HB2.out.size _
 have hx:W3.cell? ⟨w2.heap.size,0,none⟩=some (.slice a n1 cap):=by rw [hW3,World.cell?_alloc_at (w:=w2) _ _ _ 0 rfl];rfl
 have hy:W3.cell? ⟨w2.heap.size,1,none⟩=some (.slice (some ⟨w1.heap.size,0,none⟩) 4 4):=by rw [hW3,World.cell?_alloc_at (w:=w2) _ _ _ 1 rfl];rfl
 have HX3:Hid (Sl .u8 W3 (some ⟨w1.heap.size,0,none⟩) 4 4 (Crc.le4 s)):=by show Sl _ _ _ _ _ _;rw [hW3];exact HX2.out.alloc _
 have HB3:=hdq hB3;clear hW3 hB3;refine (ado w2.heap.size 2 a _ n1 cap 4 4 b (Crc.le4 s) W3 hx hy (HS.out.below HB3.out lrf) HX3.out (by omega) hb1 (by omega)).mono ?_
 rintro e w4 ⟨a4,c4,rfl,hown,hnil,hb⟩;have HO:=hdq (adm hown HB3.out.size);have HNL:=hdq hnil;have HB4:=hdq (HB3.out.trans (hb.mono HB3.out.size));clear hown hnil hb;go_wp2;go_ret;refine ⟨a4,n1+4,c4,rfl,by rw [Crc.kz,HL.out],?_,HNL.out,HB4.out⟩
 rw [Crc.lock,<-HSD.out];exact HO.out

end
section
theorem z44 {P:Prop} (h:P:=by
 obtain ⟨k0,k1,k2,k3⟩:=HK0.out
 exact ⟨by rw [hb2.cell (p:=⟨b1,o1+m,none⟩) HLT.out];exact k0,by rw [hb2.cell (p:=⟨b1,o1+m+1,none⟩) HLT.out];exact k1,by rw [hb2.cell (p:=⟨b1,o1+m+2,none⟩) HLT.out];exact k2,by rw [hb2.cell (p:=⟨b1,o1+m+3,none⟩) HLT.out];exact k3⟩):P:=h
open Go.RowKit

def OpenIs (w':World) (e:Ending) (r:Option (List Int)):Prop :=
 (∃y a' n' c',r=some y/\e=.returned (.tuple #[.slice a' n' c',.int .i64 0])/\Sl .u8 w' a' n' c' y)\/(r=none/\e=.returned (.tuple #[.slice none 0 0,.int .i64 140]))
theorem OpenIs.some {w':World} {e:Ending} {r:Option (List Int)} {y:List Int} (h:OpenIs w' e r) (hr:r=some y):∃a' n' c',e=.returned (.tuple #[.slice a' n' c',.int .i64 0])/\Sl .u8 w' a' n' c' y:=by
 rcases h with ⟨y',a',n',c',h1,h2,h3⟩|⟨h1,_⟩
 ·rw [hr] at h1;cases h1;exact ⟨a',n',c',h2,h3⟩
 ·rw [hr] at h1;cases h1
theorem OpenIs.none {w':World} {e:Ending} {r:Option (List Int)} (h:OpenIs w' e r) (hr:r=none):e=.returned (.tuple #[.slice none 0 0,.int .i64 140]):=by
 rcases h with ⟨_,_,_,_,h1,_⟩|⟨_,h2⟩
 ·rw [hr] at h1;cases h1
 ·exact h2

theorem neq4 (w:World) (q l:List Int) (hq:q.length=4) (hl:l.length=4) (r:Bool) (hr:decide (q≠l)=r) :
 (binOp .neq 122 (.agg #[.int .u8 (q.getD 0 0),.int .u8 (q.getD 1 0),.int .u8 (q.getD 2 0),.int .u8 (q.getD 3 0)]) (.agg (am l))).run Tryz.prog w=.ok (.bool r) w:=by
 match q,l,hq,hl with
 | [a,b,c,d],[a',b',c',d'],_,_ =>
   rw [run_neq_struct];show Result.andThen ((Op.equalIn 10000 122 (.agg #[.int .u8 a,.int .u8 b,.int .u8 c,.int .u8 d]) (.agg #[.int .u8 a',.int .u8 b',.int .u8 c',.int .u8 d'])).run Tryz.prog w) _=_;rw [ayj,<-hr];simp only [Result.andThen_ok]
   congr 2
   by_cases h1:a=a'<;>by_cases h2:b=b'<;>by_cases h3:c=c'<;>by_cases h4:d=d'<;>simp_all

theorem aqn {b:List Int} (h:b.length<4):Crc.opn b=none:=by rw [Crc.opn,if_neg (by omega)]
theorem ayl {b q:List Int} {m:Nat} (hm:b.length=m+4) (hq:q=b.drop m) (h:decide (q≠Crc.le4 (Crc.sum (b.take m)))=true):Crc.opn b=none:=by
 rw [Crc.opn,hm,Nat.add_sub_cancel,if_neg];rintro ⟨_,h2⟩;rw [decide_eq_true_iff] at h;apply h;have e:b.take m++b.drop m=b:=List.take_append_drop m b;rw [Crc.lock] at h2;rw [hq];have h3:Crc.le4 (Crc.sum (b.take m))=b.drop m:=List.append_cancel_left (h2.trans e.symm);exact h3.symm
theorem axe {b q:List Int} {m:Nat} (hm:b.length=m+4) (hq:q=b.drop m) (h:decide (q≠Crc.le4 (Crc.sum (b.take m)))=false):Crc.opn b=some (b.take m):=by
 have h':q=Crc.le4 (Crc.sum (b.take m)):=by simpa using h
 have hl:Crc.lock (b.take m)=b:=by rw [Crc.lock,<-h',hq,List.take_append_drop]
 rw [Crc.opn,hm,Nat.add_sub_cancel,if_pos ⟨by omega,hl⟩]

theorem auf (a:Option Addr) (n cap:Nat) (b:List Int) (w:World) (hs:Sl .u8 w a n cap b) (hb1:n<=200000000000) :
 Calls Tryz.prog 50 #[.slice a n cap] w fun e w'=>OpenIs w' e (Crc.opn b)/\Below w.heap.size w w':=by
 have hmx:Tryz.prog.follows .mixedOrders=true:=by kernel_rfl
 have hnc:=hs.2.1;have hcm:=hs.2.2.1;unfold maxLen at hcm;have HS:=hdq hs;have HL:=hdq hs.1;clear hs;by_cases h4:n<4
 ·have HR:=hdq (aqn (b:=b) (by rw [HL.out];exact h4))
  obtain ⟨k,hk⟩:∃k:Int,(n:Int)-4=k:=⟨_,rfl⟩;have hk0:k<0:=by omega
  go_enter Tryz.func50,Tryz.ntmps50;go_wp2
  first|(go_quiet (fail))|fail
  go_wp2;go_ret2;exact ⟨.inr ⟨HR.out,rfl⟩,al (Below.refl _ _) ⟨_,rfl⟩⟩
 ·obtain ⟨m,hm⟩:∃m,n=m+4:=⟨n-4,by omega⟩
  obtain ⟨b1,o1,rfl,_,hc1⟩:=HS.out.at (by omega)
  have hsub:(n:Int)-4=(m:Int):=by omega
  have hm0:¬(m:Int)<0:=by omega
  have hm0':(0:Int)<=(m:Int):=by omega
  have hmn:(m:Int)<=(n:Int):=by omega
  have hmc:(m:Int)<=(cap:Int):=by omega
  have hmc2:¬(m:Int)=(cap:Int):=by omega
  have hmc3:¬(cap:Int)=(m:Int):=by omega
  have hmc4:¬m=cap:=by omega
  have hmc5:¬cap=m:=by omega
  have hlen:n-m=4:=by omega
  have HLM:Hid (b.length=m+4):=by show _=_;rw [HL.out,hm]
  obtain ⟨q,hq⟩:∃q,q=b.drop m:=⟨_,rfl⟩;have HQ:=hdq hq;have hq4:q.length=4:=by rw [hq,List.length_drop,HLM.out];omega
  have hqc:∀i,i<4->w.cell? ⟨b1,o1+m+i,none⟩=some (.int .u8 (q.getD i 0)):=by
   intro i hi;rw [show o1+m+i=o1+(m+i) from by omega,hc1 (m+i) (by omega),hq]
   simp
  have HP:=hdq (HS.out.first m (by omega))
  have hsum:=Crc.ani HP.out.bytes;obtain ⟨s,hsd⟩:∃s,s=Crc.sum (b.take m):=⟨_,rfl⟩;rw [<-hsd] at hsum;have HSD:=hdq hsd;have HC:=hdq (fun w=>xh s hsum w)
  have HCS:Hid (∀w',Sl .u8 w' (some ⟨b1,o1,none⟩) m cap (b.take m)->Calls Tryz.prog 93 #[.slice (some ⟨b1,o1,none⟩) m cap] w' fun e w2=>e=.returned (.int .u32 ((s:Nat):Int))/\w'=w2):=by
   intro w' h;have h2:=ajr _ _ _ _ w' h;rw [<-hsd] at h2;exact h2
  have hat:∀(w:World) (c:Nat),(Instr.arrayAt 122 (.slice (some ⟨b1,o1+m,none⟩) 4 c)).run Tryz.prog w=.ok (.pointer (some ⟨b1,o1+m,none⟩)) w:=fun w c=>run_arrayAt w 122 _ 4 _ 4 c Tryz.underlying122 (Nat.le_refl 4);obtain ⟨x0,hx0⟩:∃x,x=q.getD 0 0:=⟨_,rfl⟩;obtain ⟨x1,hx1⟩:∃x,x=q.getD 1 0:=⟨_,rfl⟩;obtain ⟨x2,hx2⟩:∃x,x=q.getD 2 0:=⟨_,rfl⟩;obtain ⟨x3,hx3⟩:∃x,x=q.getD 3 0:=⟨_,rfl⟩;obtain ⟨r,hr⟩:∃r,decide (q≠Crc.le4 s)=r:=⟨_,rfl⟩;have HR:=hdq hr;have hneq:=fun w=>neq4 w q (Crc.le4 s) hq4 rfl r hr;have k0:=hqc 0 (by omega)
  have k1:=hqc 1 (by omega)
  have k2:=hqc 2 (by omega)
  have k3:=hqc 3 (by omega)
  rw [<-hx0,<-hx1,<-hx2,<-hx3] at hneq;rw [<-hx0] at k0;rw [<-hx1] at k1;rw [<-hx2] at k2;rw [<-hx3] at k3;have hgd:Tryz.prog.eqGuardType Tryz.prog.depth 122=false:=by kernel_rfl
  have HLT:=hdq (ay k0);have HK0:Hid (w.drew.cell? ⟨b1,o1+m,none⟩=some (.int .u8 x0)/\w.drew.cell? ⟨b1,o1+m+1,none⟩=some (.int .u8 x1)/\w.drew.cell? ⟨b1,o1+m+2,none⟩=some (.int .u8 x2)/\w.drew.cell? ⟨b1,o1+m+3,none⟩=some (.int .u8 x3)):=⟨k0,k1,k2,k3⟩;clear hc1 hq hqc hsd hx0 hx1 hx2 hx3 k0 k1 k2 k3 hr hq4 hsum hm
  cases r with
  | true =>
    have HT:=hdq (ayl HLM.out HQ.out (by rw [<-HSD.out];exact HR.out))
    go_enter Tryz.func50,Tryz.ntmps50;go_wp2;refine wp_region_held_drew (S:=(fun W=>W.cell? ⟨b1,o1+m,none⟩=some (.int .u8 x0)/\W.cell? ⟨b1,o1+m+1,none⟩=some (.int .u8 x1)/\W.cell? ⟨b1,o1+m+2,none⟩=some (.int .u8 x2)/\W.cell? ⟨b1,o1+m+3,none⟩=some (.int .u8 x3))) (by kernel_rfl) (by first|(first|exact HK2.out|exact HK0.out)|((try dsimp only);first|exact HK2.out|exact HK0.out)) (fun hHeld=>?_)
    refine t_h 0 ?_;refine t_h 1 ?_;refine t_h 2 ?_;refine t_h 3 ?_;refine t_h 4 ?_;refine t_h 5 ?_;refine t_h 6 ?_;refine t_h 7 ?_;refine t_h 8 ?_;refine t_h 9 ?_;refine t_h 10 ?_;refine r_h 11 (fun K hK=>?_);go_simp;refine (HCS.out _ HP.out.drew).mono ?_;rintro e wz ⟨rfl,hwz⟩;subst hwz;refine k_h hK (by first|(first|exact HK2.out|exact HK0.out)|(dsimp only;first|exact HK2.out|exact HK0.out)) (fun hHeld=>?_)
    clear hK K;refine r_h 12 (fun K hK=>?_);go_simp;refine (HC.out _).mono ?_;rintro e w2 ⟨rfl,hb2⟩;have HB2:Hid (Below w.heap.size w w2):=⟨hb2.os,hb2.tape,hb2.output,hb2.size,hb2.block⟩
    have HK2:Hid (w2.cell? ⟨b1,o1+m,none⟩=some (.int .u8 x0)/\w2.cell? ⟨b1,o1+m+1,none⟩=some (.int .u8 x1)/\w2.cell? ⟨b1,o1+m+2,none⟩=some (.int .u8 x2)/\w2.cell? ⟨b1,o1+m+3,none⟩=some (.int .u8 x3)):=by
     exact z44
    clear hb2;refine k_h hK (by first|(first|exact HK2.out|exact HK0.out)|(dsimp only;first|exact HK2.out|exact HK0.out)) (fun hHeld=>?_)
    clear hK K;refine t_h 13 ?_;refine t_h 14 ?_;refine wpAnyH_done (by kernel_rfl) ?_ _
    go_wp2;go_ret2;exact ⟨.inr ⟨HT.out,rfl⟩,HB2.out⟩
  | false =>
    have HT:=hdq (axe HLM.out HQ.out (by rw [<-HSD.out];exact HR.out))
    go_enter Tryz.func50,Tryz.ntmps50;go_wp2;refine wp_region_held_drew (S:=(fun W=>W.cell? ⟨b1,o1+m,none⟩=some (.int .u8 x0)/\W.cell? ⟨b1,o1+m+1,none⟩=some (.int .u8 x1)/\W.cell? ⟨b1,o1+m+2,none⟩=some (.int .u8 x2)/\W.cell? ⟨b1,o1+m+3,none⟩=some (.int .u8 x3))) (by kernel_rfl) (by first|(first|exact HK2.out|exact HK0.out)|((try dsimp only);first|exact HK2.out|exact HK0.out)) (fun hHeld=>?_)
    refine t_h 0 ?_;refine t_h 1 ?_;refine t_h 2 ?_;refine t_h 3 ?_;refine t_h 4 ?_;refine t_h 5 ?_;refine t_h 6 ?_;refine t_h 7 ?_;refine t_h 8 ?_;refine t_h 9 ?_;refine t_h 10 ?_;refine r_h 11 (fun K hK=>?_);go_simp;refine (HCS.out _ HP.out.drew).mono ?_;rintro e wz ⟨rfl,hwz⟩;subst hwz;refine k_h hK (by first|(first|exact HK2.out|exact HK0.out)|(dsimp only;first|exact HK2.out|exact HK0.out)) (fun hHeld=>?_)
    clear hK K;refine r_h 12 (fun K hK=>?_);go_simp;refine (HC.out _).mono ?_;rintro e w2 ⟨rfl,hb2⟩;have HB2:Hid (Below w.heap.size w w2):=⟨hb2.os,hb2.tape,hb2.output,hb2.size,hb2.block⟩
    have HK2:Hid (w2.cell? ⟨b1,o1+m,none⟩=some (.int .u8 x0)/\w2.cell? ⟨b1,o1+m+1,none⟩=some (.int .u8 x1)/\w2.cell? ⟨b1,o1+m+2,none⟩=some (.int .u8 x2)/\w2.cell? ⟨b1,o1+m+3,none⟩=some (.int .u8 x3)):=by
     exact z44
    clear hb2;refine k_h hK (by first|(first|exact HK2.out|exact HK0.out)|(dsimp only;first|exact HK2.out|exact HK0.out)) (fun hHeld=>?_)
    clear hK K;refine t_h 13 ?_;refine t_h 14 ?_;refine wpAnyH_done (by kernel_rfl) ?_ _
    go_wp2_with (go_at_call 99;refine (vb _ _ _ (b.take m) _ (HP.out.below HB2.out lrf) (by omega)).mono ?_;rintro e w4 ⟨a4,c4,rfl,hown,hb⟩;have HO:=hdq hown;have HB4:=hdq (HB2.out.trans (hb.mono HB2.out.size));clear hown hb)
    go_ret2;exact ⟨.inl ⟨b.take m,a4,_,c4,HT.out,rfl,Sl.of_owns (k:=.u8) HO.out HP.out.2.2.2.1 HP.out.1⟩,HB4.out⟩

end
end Go.Proofs.YtkiamgcpcneggaaGreat
