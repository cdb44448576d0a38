import Derived.Test.YtkiamgcpcneggaaGreatPackAN
import Derived.Test.YtkiamgcpcneggaaGreatPackR
import Derived.Test.YtkiamgcpcneggaaGreatPackT
set_option linter.all false
set_option maxRecDepth 100000
set_option maxHeartbeats 12800000
namespace Go.Proofs.YtkiamgcpcneggaaGreat
section
open Go.RowKit

def room (l:List Int) (j:Nat):List Int:=l.take j++List.replicate (10-j) 0
theorem gd (l:List Int) (j:Nat) (hj:j<=l.length) (h:j<=10):(room l j).length=10:=by unfold room;simp;omega
theorem ahj {l:List Int} {j:Nat} (hj:j<l.length) (h:j<10) (x:Int) (hx:l.getD j 0=x):(room l j).set j x=room l (j+1):=by
 have e1:10-j=(10-(j+1))+1:=by omega
 have e2:(l.take j).length=j:=by simp;omega
 have e3:l.take (j+1)=l.take j++[x]:=by rw [tsa hj,<-hx];simp [hj]
 unfold room;rw [e1,List.replicate_succ,List.set_append_right _ _ (by omega),e2,Nat.sub_self,e3]
 simp
theorem axf {l:List Int} (h:∀z∈l,(Lit.int .u8 z).wf=true) (j:Nat):∀z∈room l j,(Lit.int .u8 z).wf=true:=by
 intro z hz;unfold room at hz;rcases map1 hz with hz|hz
 ·exact h z (List.mem_of_mem_take hz)
 ·rw [(List.mem_replicate.1 hz).2];decide
theorem aqo {l:List Int} (j:Nat) (hj:j=l.length):(room l j).take j=l:=by
 subst hj;unfold room;simp

theorem ahk {c v j:Nat} (h:Var.enc c=(Var.enc c).take j++Var.enc v) (hj:j<=(Var.enc c).length):j+(Var.enc v).length=(Var.enc c).length:=by
 have:=congrArg List.length h;simp only [List.length_append,List.length_take] at this;omega
theorem ahl {c v j:Nat} (h:Var.enc c=(Var.enc c).take j++Var.enc v) (hj:j<(Var.enc c).length):(Var.enc c).getD j 0=(Var.enc v).getD 0 0:=by
 have e2:((Var.enc c).take j).length=j:=by simp;omega
 have:∀l:List Int,l=(Var.enc c).take j++Var.enc v->l.getD j 0=(Var.enc v).getD 0 0:=by
  intro l hl;rw [hl,gdq,List.getElem?_append_right (by omega),e2,Nat.sub_self,<-gdq]
 exact this _ h
theorem enc_next {c v j:Nat} (h:Var.enc c=(Var.enc c).take j++Var.enc v) (hj:j<(Var.enc c).length) (hv:128<=v):Var.enc c=(Var.enc c).take (j+1)++Var.enc (v/128):=by
 have h2:=ahl h hj;rw [Var.js hv] at h2;rw [tsa hj,List.append_assoc]
 conv=>lhs;rw [h,Var.js hv]
 congr 1
 simp [hj] at h2;simp [h2]

theorem rv:(Tryz.prog.info? 219).map (·.size)=some 10:=by kernel_rfl

theorem rx (c n:Nat) (hc:c<18446744073709551616) (hn:(Var.enc c).length=n) (w:World) :
 Calls Tryz.prog 168 #[.int .u64 (c:Int)] w fun e w'=>e=.returned (.tuple #[.agg (am (room (Var.enc c) n)),.int .i64 (n:Int)])/\Below w.heap.size w w':=by
 have h10:=Var.ic hc;have HP:=hdq (Var.kr c);rw [hn] at h10;have HL:=hdq hn;have HI:Hid ((Tryz.prog.info? 219).map (·.size)=some (am (room (Var.enc c) n)).size):=by show _=_;rw [rv,ga,gd _ _ (by omega) h10]
 have HI3:Hid ((am (List.replicate 10 0)).size=(am (room (Var.enc c) n)).size):=by show _=_;rw [ga,ga,gd _ _ (by omega) h10];rfl
 have HB:∀o,Hid (Below w.heap.size w (w.alloc o)):=fun o=>(Below.refl _ w).alloc lrf o;clear hn;go_enter Tryz.func168,Tryz.ntmps168;go_wp2;go_step3;go_wp2;go_step3;go_wp2;go_loopw [0,7] (fun cv ix wr=>∃(v j:Nat),cv=.int .u64 (v:Int)/\ix=.int .i64 (j:Int)/\v<18446744073709551616/\j<=n/\Hid (j<n/\Var.enc c=(Var.enc c).take j++Var.enc v)/\Hid (wr.heap[w.heap.size]?=some (.cells (am (List.replicate 10 0)) 219 (0,0)))/\Hid (wr.heap[w.heap.size+1]?=some (.cells (am (room (Var.enc c) j)) 219 (0,0)))/\Hid (Below w.heap.size w wr)) (fun _ ix _=>10-(intOf ix).toNat)
 case atStart =>
  refine ⟨c,0,rfl,rfl,hc,Nat.zero_le _,⟨by have:=HP.out;rw [HL.out] at this;omega,rfl⟩,?_,?_,?_⟩
  ·exact heap_alloc2_old w _ _
  ·exact heap_alloc2_new w _ _
  ·exact (HB _).out.alloc (by simp) _
 case round =>
  obtain ⟨v,j,rfl,rfl,hv,hj,HR,H0,H1,HBW⟩:=hrel;have hjn:=HR.out.1;have hj10:(j:Int)<10:=by omega
  have HD:=hdq (ahl HR.out.2 (by rw [HL.out];exact hjn))
  have hcell:wr.cell? ⟨w.heap.size+1,j,none⟩=some (.int .u8 ((room (Var.enc c) j).getD j 0)):=by
   rw [cell_of_row wr (w.heap.size+1) j _ _ _ H1.out];have hl:=gd (Var.enc c) j (by rw [HL.out];omega) (by omega)
   simp [am,u8s,show j<(room (Var.enc c) j).length by omega]
  have hfr:wr.frozen? ⟨w.heap.size+1,j,none⟩=false:=by
   have h:=H1.out;simp [World.frozen?,h]
  by_cases h128:v<128
  ·have hb:(v:Int)<128:=by omega
   have hn1:j+1=n:=by
    have:=ahk HR.out.2 (by rw [HL.out];omega)
    rw [Var.gj h128,HL.out] at this;simpa using this
   have hw8:IntKind.u8.wrap (v:Int)=(v:Int):=by
    simp [IntKind.wrap,IntKind.signed,IntKind.bits];omega
   have H1n:Hid ((wr.setCell ⟨w.heap.size+1,j,none⟩ (.int .u8 (v:Int))).heap[w.heap.size+1]?=some (.cells (am (room (Var.enc c) n)) 219 (0,0))):=by
    show _=_;rw [heap_setCell_same _ _ _ _ _ _ H1.out,rr,ahj (by rw [HL.out];exact hjn) (by omega) (v:Int) (by rw [HD.out,Var.gj h128];rfl),hn1]
   have H0n:Hid ((wr.setCell ⟨w.heap.size+1,j,none⟩ (.int .u8 (v:Int))).heap[w.heap.size]?=some (.cells (am (List.replicate 10 0)) 219 (0,0))):=by
    show _=_;rw [heap_setCell_other _ _ _ _ (by show w.heap.size≠w.heap.size+1;omega)];exact H0.out
   have HBn:Hid (Below w.heap.size w (wr.setCell ⟨w.heap.size+1,j,none⟩ (.int .u8 (v:Int)))):=HBW.out.setCell (by show w.heap.size<=w.heap.size+1;omega) _
   have HN1:Hid ((j:Int)+1=(n:Int)):=by show _=_;omega
   go_wp2_with (first
    | (refine wpList_load_row (by rfl) 219 (.tmp 4) (by rfl) (w.heap.size+1) (by rfl) 219 (am (room (Var.enc c) n)) (0,0) _ H1n.out Tryz.underlying219 (by rfl) HI.out ?_)
    | (refine wpList_store_row (by rfl) 219 (.tmp 2) (.tmp 28) (by rfl) w.heap.size (am (room (Var.enc c) n)) (by rfl) (by rfl) 219 (am (List.replicate 10 0)) H0n.out HI.out HI3.out (fo _) ?_))
   try rw [Exit.noGoto_ret]
   refine bodyPost_ret (aw rfl _ _ w.heap.size 219 (am (room (Var.enc c) n)) (0,0) _ (by rfl) (setRow_heap _ _ _ _ _ _ H0n.out) Tryz.underlying219 (by rfl) HI.out) rfl ?_
   exact ⟨by simp [HN1.out],below_setRow HBn.out lrf _⟩
  ·have hb:¬(v:Int)<128:=by omega
   have hw8:IntKind.u8.wrap ((v:Int)%128+128)=128+((v%128:Nat):Int):=by
    simp [IntKind.wrap,IntKind.signed,IntKind.bits];omega
   have HNX:=hdq (enc_next HR.out.2 (by rw [HL.out];exact hjn) (by omega))
   have hjn1:j+1<n:=by
    have:=ahk HNX.out (by rw [HL.out];omega)
    have:=Var.kr (v/128);rw [HL.out] at *;omega
   go_wp2;go_roundw
   case rel =>
    refine ⟨v/128,j+1,by go_num,by go_num,by omega,by omega,⟨hjn1,HNX.out⟩,?_,?_,?_⟩
    ·show (World.setCell _ _ _).heap[_]?=_;rw [heap_setCell_other _ _ _ _ (by show w.heap.size≠w.heap.size+1;omega)];exact H0.out
    ·show (World.setCell _ _ _).heap[_]?=_;rw [heap_setCell_same _ _ _ _ _ _ H1.out,rr,ahj (by rw [HL.out];exact hjn) (by omega) _ (by rw [HD.out,Var.js (by omega)];rfl)]
    ·exact HBW.out.setCell (by show w.heap.size<=w.heap.size+1;omega) _
   case measure=>simp [intOf];omega

end
section
open Go.RowKit

theorem aqp {zs:List Int} {i:Nat} (h:i<zs.length):zs.getD i 0∈zs:=by
 rw [gdq,geg h];exact List.getElem_mem _
theorem axg {b:List Int} {j:Nat} (h:∀x∈b.take j,128<=x) (hj:j<=10) (hm:j=b.length\/j=10):Var.num b=Var.val (b.take j)%18446744073709551616:=by
 rw [Var.num,Var.aru j 10 b h hm hj]
theorem aqq {b:List Int} {j:Nat} (h:∀x∈b.take j,128<=x) (hj:j<b.length) (hx:128<=b.getD j 0):∀x∈b.take (j+1),128<=x:=by
 intro x hx';rw [tsa hj] at hx';rcases map1 hx' with h1|h1
 ·exact h x h1
 ·rw [msg h1];simpa [hj] using hx

theorem lw (x:Int):IntKind.u64.wrap x=x%18446744073709551616:=by
 simp [IntKind.wrap,IntKind.signed,IntKind.bits]
theorem aug {v x j T N:Nat} (hv:v=T%18446744073709551616) (hN:N=T+128^j*(x%128)) :
 IntKind.u64.wrap ((v:Int)+IntKind.u64.wrap ((x:Int)%128*2^(j*7)))=((N%18446744073709551616:Nat):Int):=by
 have e1:(2:Int)^(j*7)=((128^j:Nat):Int):=by
  rw [Nat.mul_comm,Int.pow_mul];simp
 have e2:(x:Int)%128=((x%128:Nat):Int):=by simp
 obtain ⟨q,hq⟩:∃q,q=128^j*(x%128):=⟨_,rfl⟩;have e3:((x%128:Nat):Int)*((128^j:Nat):Int)=(q:Int):=by rw [hq,Int.natCast_mul,Int.mul_comm]
 rw [e1,e2,e3,lw,lw,hN,<-hq];omega

theorem aqr (a:Option Addr) (n cap:Nat) (b:List Int) (w:World) (hs:Sl .u8 w a n cap b) :
 Calls Tryz.prog 169 #[.slice a n cap] w fun e w'=>e=.returned (.int .u64 (Var.num b:Nat))/\w=w':=by
 have hnc:=hs.2.1;have hcm:=hs.2.2.1;unfold maxLen at hcm;have HS:=hdq hs;have HL:=hdq hs.1;clear hs;obtain ⟨m,hm⟩:∃m:Nat,m=min n 10:=⟨_,rfl⟩;have hmi:(if (10:Int)<(n:Int) then (10:Int) else (n:Int))=(m:Int):=by split<;>omega
 have hm10:m<=10:=by omega
 have hmn:m<=n:=by omega
 have HM:=hdq (show m=n\/m=10 by omega)
 have hmj:(min (n:Int) 10)=(m:Int):=by omega
 clear hm;go_enter Tryz.func169,Tryz.ntmps169;go_wp2;go_step3;go_wp2;go_step3;go_wp2;go_loop [3,8] (fun sv ix=>∃(v j:Nat),sv=.int .u64 (v:Int)/\ix=.int .i64 (j:Int)/\j<=m/\v<18446744073709551616/\Hid (v=Var.val (b.take j)%18446744073709551616/\∀x∈b.take j,128<=x)) (fun _ ix=>m-(intOf ix).toNat)
 case atStart=>exact ⟨0,0,rfl,rfl,Nat.zero_le _,by omega,rfl,by simp⟩
 case round =>
  obtain ⟨v,j,rfl,rfl,hj,hv,HV⟩:=hrel;by_cases hlt:j<m
  ·obtain ⟨b1,o1,rfl,_,hc1⟩:=HS.out.at (by omega)
   have hx1:=hc1 j (by omega)
   have hvt:=Var.val_take (l:=b) (i:=j) (by rw [HL.out];omega)
   have hwf:=bounds_u8 (HS.out.2.2.2.1 _ (aqp (i:=j) (by rw [HL.out];omega)))
   obtain ⟨x,hx⟩:∃x:Nat,(x:Int)=b.getD j 0:=⟨(b.getD j 0).toNat,by omega⟩
   rw [<-hx] at hx1 hvt hwf;have hx255:x<=255:=by omega
   have hlti:(j:Int)<(m:Int):=by omega
   have hjn:(j:Int)<(n:Int):=by omega
   have HXD:=hdq hx;have HVT:=hdq (aug (x:=x) (j:=j) (N:=Var.val (b.take (j+1))) HV.out.1 (by rw [hvt];rfl))
   have hvb:Var.val (b.take (j+1))%18446744073709551616<18446744073709551616:=Nat.mod_lt _ (by omega)
   have HVB:=hdq hvb;clear hc1 hwf hx hvt hvb;by_cases h128:x<128
   ·have hb:(x:Int)<128:=by omega
    have hfin:Var.num b=Var.val (b.take (j+1))%18446744073709551616:=Var.awa HV.out.2 (by rw [HL.out];omega) (by rw [<-HXD.out];exact hb) (by omega)
    have HF:=hdq hfin;clear hfin;go_wp2
    try rw [Exit.noGoto_ret]
    go_ret;exact ⟨by rw [HF.out,<-HVT.out];rfl,rfl⟩
   ·have hb:¬(x:Int)<128:=by omega
    have HT:=hdq (aqq HV.out.2 (by rw [HL.out];omega) (by rw [<-HXD.out];omega))
    go_wp2;go_round
    case rel=>exact ⟨Var.val (b.take (j+1))%18446744073709551616,j+1,by rw [<-HVT.out],by go_num,by omega,HVB.out,rfl,HT.out⟩
    case measure=>simp [intOf];omega
  ·obtain rfl:j=m:=by omega
   have hfin:Var.num b=v:=by
    rw [axg HV.out.2 hm10 (by rw [HL.out];exact HM.out)]
    exact HV.out.1.symm
   have HF:=hdq hfin;clear hfin;go_wp2
   try rw [Exit.noGoto_ret]
   go_ret;exact ⟨by rw [HF.out];rfl,rfl⟩

end
section
open Go.RowKit

theorem aax {w:World} {g c n:Nat} (h:w.heap[g]?=some (.cells (am (room (Var.enc c) n)) 219 (0,0))) (hn:(Var.enc c).length=n) (hc:c<18446744073709551616):Sl .u8 w (some ⟨g,0,none⟩) n 10 (Var.enc c):=by
 have h10:=Var.ic hc;have hr:=gd (Var.enc c) n (by omega) (by omega)
 have h1:Sl .u8 w (some ⟨g,0,none⟩) 10 10 (room (Var.enc c) n):=Sl.of_heap h (axf (Var.zq c) n) hr (by unfold maxLen;omega)
 have h2:=h1.first n (by omega)
 rwa [aqo n hn.symm] at h2

theorem axh (c n:Nat) (hc:c<18446744073709551616) (hn:(Var.enc c).length=n) (w:World) :
 Calls Tryz.prog 141 #[.int .u64 (c:Int)] w fun e w'=>e=.returned (.int .i64 (n:Int))/\Below w.heap.size w w':=by
 have h10:=Var.ic hc;have hr:(am (room (Var.enc c) n)).size=10:=by rw [ga,gd _ _ (by omega) (by omega)]
 have HI:Hid ((Tryz.prog.info? 219).map (·.size)=some (am (room (Var.enc c) n)).size):=by show _=_;rw [rv,hr]
 have HI3:Hid ((am (List.replicate 10 0)).size=(am (room (Var.enc c) n)).size):=by show _=_;rw [hr];rfl
 have HC:=hdq (fun w=>rx c n hc hn w);clear hn h10 hr;go_enter Tryz.func141,Tryz.ntmps141
 go_wp2_with (first
  | (go_at_call 168;refine (HC.out _).mono ?_;rintro e w1 ⟨rfl,hb⟩;have HB:=hdq hb;clear hb)
  | (refine ai (by rfl) 219 (.tmp 3) (.tmp 8) (by rfl) _ (am (room (Var.enc c) n)) (by rfl) (by rfl) 219 (am (List.replicate 10 0)) (han _ _) HI.out HI3.out (fo _) ?_;intro w2 hh2 hg2 hs2;have HB2:=hdq (bj HB.out hg2);clear hh2 hg2 hs2))
 go_ret;exact ⟨rfl,HB2.out⟩

theorem ajs (a:Option Addr) (n1 cap:Nat) (b:List Int) (c n:Nat) (hc:c<18446744073709551616) (hn:(Var.enc c).length=n) (w:World) (hs:Sl .u8 w a n1 cap b) (hb1:n1<=200000000000) :
 Calls Tryz.prog 139 #[.slice a n1 cap,.int .u64 (c:Int)] w fun e w'=>∃a' c',e=.returned (.slice a' (n1+n:Nat) c')/\w'.ownsRow w.heap.size 5 1 (.slice a' (n1+n) c') (n1+n) (u8s (b++Var.enc c))/\(a'=none->c'=0)/\Below w.heap.size w w':=by
 have h10:=Var.ic hc;have hp:=Var.kr c;rw [hn] at h10 hp;have hr:(am (room (Var.enc c) n)).size=10:=by rw [ga,gd _ _ (by omega) (by omega)]
 have HI:Hid ((Tryz.prog.info? 219).map (·.size)=some (am (room (Var.enc c) n)).size):=by show _=_;rw [rv,hr]
 have HI3:Hid ((am (List.replicate 10 0)).size=(am (room (Var.enc c) n)).size):=by show _=_;rw [hr];rfl
 have HC:=hdq (fun w=>rx c n hc hn w);have HN:=hdq hn;have HS:=hdq hs;have h10i:(n:Int)<=10:=by omega
 clear hn hr hs;go_enter Tryz.func139,Tryz.ntmps139
 go_wp2_with (first
  | (go_at_call 168;refine (HC.out _).mono ?_;rintro e w1 ⟨rfl,hb⟩;have HB:=hdq hb;clear hb)
  | (refine ai (by rfl) 219 (.tmp 5) (.tmp 10) (by rfl) _ (am (room (Var.enc c) n)) (by rfl) (by rfl) 219 (am (List.replicate 10 0)) (han _ _) HI.out HI3.out (fo _) ?_;intro w2 hh2 hg2 hs2;have HB2:=hdq (bj HB.out hg2);have HX2:=hdq (aax hh2 HN.out hc);clear hh2 hg2 hs2)
  | fail)
 obtain ⟨W3,hW3⟩:∃W3,W3=w2.alloc (.cells #[.slice a n1 cap,.slice (some ⟨w1.heap.size,0,none⟩) n 10] 43):=⟨_,rfl⟩;rw [<-hW3];have hB3:Below w.heap.size w W3:=by rw [hW3];exact HB2.out.alloc HB2.out.size _
 have hx:W3.cell? ⟨w2.heap.size,0,none⟩=some (.slice a n1 cap):=by rw [hW3,World.cell?_alloc_at (w:=w2) _ _ _ 0 rfl];rfl
 have hy:W3.cell? ⟨w2.heap.size,1,none⟩=some (.slice (some ⟨w1.heap.size,0,none⟩) n 10):=by rw [hW3,World.cell?_alloc_at (w:=w2) _ _ _ 1 rfl];rfl
 have HX3:Hid (Sl .u8 W3 (some ⟨w1.heap.size,0,none⟩) n 10 (Var.enc c)):=by show Sl _ _ _ _ _ _;rw [hW3];exact HX2.out.alloc _
 have HB3:=hdq hB3;clear hW3 hB3;refine (ado w2.heap.size 2 a _ n1 cap n 10 b (Var.enc c) W3 hx hy (HS.out.below HB3.out lrf) HX3.out hp hb1 (by omega)).mono ?_
 rintro e w4 ⟨a4,c4,rfl,hown,hnil,hb⟩;have HO:=hdq (adm hown HB3.out.size);have HNL:=hdq hnil;have HB4:=hdq (HB3.out.trans (hb.mono HB3.out.size));clear hown hnil hb;go_wp2;go_ret;exact ⟨a4,c4,rfl,HO.out,HNL.out,HB4.out⟩

theorem put_nil (c n:Nat) (hc:c<18446744073709551616) (hn:(Var.enc c).length=n) (w:World) :
 Calls Tryz.prog 139 #[.slice none 0 0,.int .u64 (c:Int)] w fun e w'=>∃a' c',e=.returned (.slice a' n c')/\w'.ownsRow w.heap.size 5 1 (.slice a' n c') n (u8s (Var.enc c))/\Sl .u8 w' a' n c' (Var.enc c)/\(a'=none->c'=0)/\Below w.heap.size w w':=by
 refine (ajs none 0 0 [] c n hc hn w Sl.nil (by omega)).mono ?_
 rintro e w' ⟨a',c',rfl,hown,hnil,hb⟩;simp only [Nat.zero_add,List.nil_append] at hown;refine ⟨a',c',by simp,hown,Sl.of_owns (k:=.u8) hown (Var.zq c) hn,hnil,hb⟩

def VTakeIs (w':World) (e:Ending) (r:Option (Nat × List Int)):Prop :=
 (∃m l a' n' c',r=some (m,l)/\e=.returned (.tuple #[.int .u64 ((m:Nat):Int),.slice a' n' c',.int .i64 0])/\Sl .u8 w' a' n' c' l)\/(r=none/\e=.returned (.tuple #[.int .u64 0,.slice none 0 0,.int .i64 130]))
theorem VTakeIs.some {w':World} {e:Ending} {r:Option (Nat × List Int)} {m:Nat} {l:List Int} (h:VTakeIs w' e r) (hr:r=some (m,l)):∃a' n' c',e=.returned (.tuple #[.int .u64 (m:Int),.slice a' n' c',.int .i64 0])/\Sl .u8 w' a' n' c' l:=by
 rcases h with ⟨m',l',a',n',c',h1,h2,h3⟩|⟨h1,_⟩
 ·rw [hr] at h1;cases h1;exact ⟨a',n',c',h2,h3⟩
 ·rw [hr] at h1;cases h1
theorem VTakeIs.none {w':World} {e:Ending} {r:Option (Nat × List Int)} (h:VTakeIs w' e r) (hr:r=none):e=.returned (.tuple #[.int .u64 0,.slice none 0 0,.int .i64 130]):=by
 rcases h with ⟨_,_,_,_,_,h1,_⟩|⟨_,h2⟩
 ·rw [hr] at h1;cases h1
 ·exact h2

theorem auh (a:Option Addr) (n1 cap:Nat) (b:List Int) (w:World) (hs:Sl .u8 w a n1 cap b) (hb1:n1<=200000000000) :
 Calls Tryz.prog 140 #[.slice a n1 cap] w fun e w'=>VTakeIs w' e (Var.take b)/\Below w.heap.size w w':=by
 have hnc:=hs.2.1;have hcm:=hs.2.2.1;unfold maxLen at hcm;obtain ⟨c,hcd⟩:∃c,c=Var.num b:=⟨_,rfl⟩;have hc:c<18446744073709551616:=by rw [hcd];exact Var.anf b
 obtain ⟨n,hn⟩:∃n,(Var.enc c).length=n:=⟨_,rfl⟩;have h10:=Var.ic hc;have hp:=Var.kr c;rw [hn] at h10 hp;have hr:(am (room (Var.enc c) n)).size=10:=by rw [ga,gd _ _ (by omega) (by omega)]
 have HI:Hid ((Tryz.prog.info? 219).map (·.size)=some (am (room (Var.enc c) n)).size):=by show _=_;rw [rv,hr]
 have HI3:Hid ((am (List.replicate 10 0)).size=(am (room (Var.enc c) n)).size):=by show _=_;rw [hr];rfl
 have HC:=hdq (fun w=>rx c n hc hn w);have HBT:=hdq (fun w hs=>aqr a n1 cap b w hs);have HN:=hdq hn;have HS:=hdq hs;have HCD:=hdq hcd;have HL:=hdq hs.1;have h10i:(n:Int)<=10:=by omega
 have hng:∀r,decide (b.take n=Var.enc c)=r->Hid (decide (b.take n=Var.enc c)=r):=fun _ h=>h;obtain ⟨r,hr0⟩:∃r,decide (b.take n=Var.enc c)=r:=⟨_,rfl⟩;have HR:=hdq hr0;clear hn hr hs hcd hng hr0
 cases r with
 | false =>
   have HT:Hid (Var.take b=none):=by
    refine Var.avy ?_;rw [<-HCD.out,HN.out];have:=HR.out;rw [decide_eq_false_iff_not] at this;exact fun h=>this h.symm
   go_enter Tryz.func140,Tryz.ntmps140
   go_wp2_with (first
    | (go_at_call 169;refine (HBT.out _ HS.out).mono ?_;rw [<-HCD.out];rintro e w1 ⟨rfl,hw1⟩;obtain rfl:=hw1.symm)
    | (go_at_call 168;refine (HC.out _).mono ?_;rintro e w1 ⟨rfl,hb⟩;have HB:=hdq hb;clear hb)
    | (refine ai (by rfl) 219 (.tmp 6) (.tmp 13) (by rfl) _ (am (room (Var.enc c) n)) (by rfl) (by rfl) 219 (am (List.replicate 10 0)) (han _ _) HI.out HI3.out (fo _) ?_;intro w2 hh2 hg2 hs2;have HB2:=hdq (bj HB.out hg2);have HX2:=hdq (aax hh2 HN.out hc);clear hh2 hg2 hs2)
    | (go_at_call 170;refine (nh _ _ _ _ _ _ _ _ _ _ (HS.out.below HB2.out lrf) HX2.out hp HR.out).mono ?_;rintro e w3 ⟨rfl,hw3⟩;obtain rfl:=hw3.symm)
    | fail)
   go_ret3;exact ⟨.inr ⟨HT.out,rfl⟩,HB2.out⟩
 | true =>
   have HT:Hid (Var.take b=some (c,b.drop n)):=by
    have h:=Var.avz (b:=b);rw [<-HCD.out,HN.out] at h;refine h ?_;have:=HR.out;rw [decide_eq_true_iff] at this;exact this.symm
   have hnn:n<=n1:=by
    have h:=HR.out;rw [decide_eq_true_iff] at h;have:=congrArg List.length h;rw [List.length_take,HL.out,HN.out] at this;omega
   obtain ⟨b1,o1,rfl,_,_⟩:=HS.out.at (by omega)
   have hni:(n:Int)<=(n1:Int):=by omega
   have HWF:=hdq HS.out.2.2.2.1;by_cases hcap:n=cap
   ·subst hcap;obtain rfl:n1=n:=by omega
    clear hni hnc;have hwr:(n1:Int)<=9223372036854775807:=by omega
    go_enter Tryz.func140,Tryz.ntmps140
    go_wp2_with (first
     | (go_at_call 169;refine (HBT.out _ HS.out).mono ?_;rw [<-HCD.out];rintro e w1 ⟨rfl,hw1⟩;obtain rfl:=hw1.symm)
     | (go_at_call 168;refine (HC.out _).mono ?_;rintro e w1 ⟨rfl,hb⟩;have HB:=hdq hb;clear hb)
     | (refine ai (by rfl) 219 (.tmp 6) (.tmp 13) (by rfl) _ (am (room (Var.enc c) n1)) (by rfl) (by rfl) 219 (am (List.replicate 10 0)) (han _ _) HI.out HI3.out (fo _) ?_;intro w2 hh2 hg2 hs2;have HB2:=hdq (bj HB.out hg2);have HX2:=hdq (aax hh2 HN.out hc);clear hh2 hg2 hs2)
     | (go_at_call 170;refine (nh _ _ _ _ _ _ _ _ _ _ (HS.out.below HB2.out lrf) HX2.out hp HR.out).mono ?_;rintro e w3 ⟨rfl,hw3⟩;obtain rfl:=hw3.symm)
     | (go_at_call 99;refine (vb _ _ _ (b.drop n1) _ (by rw [List.drop_eq_nil_of_le (by rw [HL.out];exact Nat.le_refl _)];exact ⟨by simp,by omega,by unfold maxLen;omega,by simp,.inl (by omega)⟩) (by omega)).mono ?_;rintro e w4 ⟨a4,c4,rfl,hown,hb⟩;have HO:=hdq hown;have HB4:=hdq (HB2.out.trans (hb.mono HB2.out.size));clear hown hb)
     | fail)
    go_ret3;exact ⟨.inl ⟨c,b.drop n1,a4,_,c4,HT.out,rfl,Sl.of_owns (k:=.u8) HO.out (fun z hz=>HWF.out z (List.mem_of_mem_drop hz)) (by rw [List.length_drop,HL.out];try omega)⟩,HB4.out⟩
   ·have hcapi:¬(n:Int)=(cap:Int):=by omega
    have hcapl:(n:Int)<=(cap:Int):=by omega
    have hwr:(n1:Int)<=9223372036854775807:=by omega
    go_enter Tryz.func140,Tryz.ntmps140
    go_wp2_with (first
     | (go_at_call 169;refine (HBT.out _ HS.out).mono ?_;rw [<-HCD.out];rintro e w1 ⟨rfl,hw1⟩;obtain rfl:=hw1.symm)
     | (go_at_call 168;refine (HC.out _).mono ?_;rintro e w1 ⟨rfl,hb⟩;have HB:=hdq hb;clear hb)
     | (refine ai (by rfl) 219 (.tmp 6) (.tmp 13) (by rfl) _ (am (room (Var.enc c) n)) (by rfl) (by rfl) 219 (am (List.replicate 10 0)) (han _ _) HI.out HI3.out (fo _) ?_;intro w2 hh2 hg2 hs2;have HB2:=hdq (bj HB.out hg2);have HX2:=hdq (aax hh2 HN.out hc);clear hh2 hg2 hs2)
     | (go_at_call 170;refine (nh _ _ _ _ _ _ _ _ _ _ (HS.out.below HB2.out lrf) HX2.out hp HR.out).mono ?_;rintro e w3 ⟨rfl,hw3⟩;obtain rfl:=hw3.symm)
     | (go_at_call 99;refine (vb _ _ _ (b.drop n) _ (by have h:=(HS.out.below HB2.out lrf).piece n (n1-n) (by omega);rwa [tol (by rw [List.length_drop,HL.out];exact Nat.le_refl _)] at h) (by omega)).mono ?_;rintro e w4 ⟨a4,c4,rfl,hown,hb⟩;have HO:=hdq hown;have HB4:=hdq (HB2.out.trans (hb.mono HB2.out.size));clear hown hb)
     | fail)
    go_ret3;exact ⟨.inl ⟨c,b.drop n,a4,_,c4,HT.out,rfl,Sl.of_owns (k:=.u8) HO.out (fun z hz=>HWF.out z (List.mem_of_mem_drop hz)) (by rw [List.length_drop,HL.out];try omega)⟩,HB4.out⟩

end
section
open Go.RowKit

structure Keeps (B:Nat) (w w':World):Prop where
 low:Below B w w'
 high:∀(b:Nat) (cur:Array Value) (t:TypeId) (fr:Nat × Nat),w.heap[b]?=some (Obj.cells cur t fr)->t≠5->w'.heap[b]?=some (Obj.cells cur t fr)
theorem Keeps.refl (B:Nat) (w:World):Keeps B w w:=⟨Below.refl _ _,fun _ _ _ _ h _=>h⟩
theorem Keeps.trans {B:Nat} {a b c:World} (h:Keeps B a b) (k:Keeps B b c):Keeps B a c :=
 ⟨h.low.trans k.low,fun g cur t fr hg ht=>k.high g cur t fr (h.high g cur t fr hg ht) ht⟩
theorem Keeps.mono {B B':Nat} {w w':World} (h:Keeps B w w') (hB:B'<=B):Keeps B' w w':=⟨h.low.mono hB,h.high⟩
theorem Keeps.of_below {B:Nat} {w w':World} (h:Below w.heap.size w w') (hB:B<=w.heap.size):Keeps B w w' :=
 ⟨h.mono hB,fun b cur t fr hb _=>by rw [h.block b (hltq hb)];exact hb⟩
theorem Keeps.alloc {B:Nat} {w:World} (hB:B<=w.heap.size) (o:Obj):Keeps B w (w.alloc o) :=
 Keeps.of_below ((Below.refl _ w).alloc lrf o) hB
theorem Keeps.of_grown {B n size:Nat} {w w':World} {v:Value} {xs:List Value} (hl:Below B w w') (ho:w.ownsRow B 5 size v n xs) (hg:w.grownBy w' v.ownBlock):Keeps B w w':=by
 refine ⟨hl,fun b cur t fr hb ht=>?_⟩;rw [hg.block b (hltq hb) ?_]
 ·exact hb
 ·intro e;rcases ho.2 with ⟨rfl,_⟩|⟨g,c,cur',rfl,_,hh,_⟩
  ·cases e
  ·have:b=g:=by simpa [Value.ownBlock] using e
   subst this;rw [hb] at hh;cases hh;exact ht rfl
theorem Keeps.size {B:Nat} {w w':World} (h:Keeps B w w'):w.heap.size<=w'.heap.size:=h.low.size
theorem Keeps.drawn {B:Nat} {w w1 w2:World} (h:Keeps B w w1) (hq:∃q,w2=w1.drewN q):Keeps B w w2:=by
 obtain ⟨q,rfl⟩:=hq;exact ⟨⟨h.low.os,h.low.tape,h.low.output,h.low.size,h.low.block⟩,h.high⟩
theorem Keeps.drew {B:Nat} {w w1:World} (h:Keeps B w w1):Keeps B w w1.drew:=⟨⟨h.low.os,h.low.tape,h.low.output,h.low.size,h.low.block⟩,h.high⟩
theorem Keeps.cell {B b off:Nat} {w w':World} {cur:Array Value} {t:TypeId} {fr:Nat × Nat} (h:Keeps B w w') (hb:w.heap[b]?=some (Obj.cells cur t fr)) (ht:t≠5):w'.cell? ⟨b,off,none⟩=cur[off]? :=
 cell_of_row w' b off cur t fr (h.high b cur t fr hb ht)
theorem Keeps.lit {B:Nat} {w w':World} {k:IntKind} {t:TypeId} {b n m:Nat} (zs:List Int) (h:Keeps B (w.alloc (.cells (zs.map (Value.int k)).toArray t)) w') (ht:t≠5) (hb:b=w.heap.size) (hw:∀z∈zs,(Lit.int k z).wf=true) (hl:zs.length<=maxLen) (hn:zs.length=n) (hm:zs.length=m) :
 Sl k w' (some ⟨b,0,none⟩) n m zs:=by
 subst hb hn hm;refine ⟨rfl,Nat.le_refl _,hl,hw,.inr ⟨w.heap.size,0,rfl,fun i hi=>?_⟩⟩;rw [h.cell (han w _) ht];simp [hi]

def PutsIs (B:Nat) (w':World) (e:Ending) (zs:List Int):Prop:=∃a n c,e=.returned (.slice a n c)/\w'.ownsRow B 5 1 (.slice a n c) n (u8s zs)
theorem vk {w:World} {B n:Nat} {v:Value} {zs:List Int} (h:w.ownsRow B 5 1 v n (u8s zs)):zs.length=n:=by
 have:=h.1;simpa [u8s] using this
theorem qi {w:World} {ops:Array Oper} {rest:List Oper} {o:Oper} {act:Act} {Q:Exit->Act->World->Prop} (hw:Region.wanted o (yielded ops act.tmps)=true) (s x:Operand)
 (ho:o.op=.call { callee:=.builtin .append,args:=#[s,x],argTypes:=#[43,43] }) (base:Nat) (v:Value) (n:Nat) (xs:List Int) (hs:act.eval s=v)
 (hown:w.ownsRow base 5 1 v n (u8s xs)) (a:Option Addr) (m c:Nat) (zs:List Int) (hx:act.eval x=.slice a m c) (hz:Sl .u8 w a m c zs)
 (N:Nat) (hN:n+m=N) (h63:N<=1000000000000) (hbase:base<=w.heap.size)
 (h:∀a' c' w',w'.ownsRow base 5 1 (.slice a' N c') N (u8s (xs++zs))->Keeps base w w'->wpList Tryz.prog ops Q rest (act.put o.dst (.slice a' N c')) w') :
 wpList Tryz.prog ops Q (o::rest) act w:=by
 subst hN;have hm:=hz.2.1;refine wpList_step fun K hK=>?_;rw [if_pos hw];refine ej s x 43 5 ho (.int .u8 0) 1 1 Tryz.underlying43 vf rfl (by omega) base v n (u8s xs) hs hown a m c (u8s zs) hx (by simp [u8s,hz.1]) ?_ (ints_oneCell .u8 zs) (by unfold maxLen;omega) (by omega) hbase ?_
 ·intro h0;obtain ⟨b,off,rfl,_,hc⟩:=hz.at h0;refine ⟨_,rfl,fun j u hj=>?_⟩
  have hjl:j<zs.length:=by
   rcases Nat.lt_or_ge j zs.length with hlt|hge
   ·exact hlt
   ·simp [u8s,List.getElem?_eq_none hge] at hj
  have:=hc j (by have:=hz.1;omega)
  rw [show (⟨b,off,none⟩:Addr).add j=⟨b,off+j,none⟩ from by simp [Addr.add],this]
  simp [u8s,hjl] at hj;rw [<-hj];simp [hjl]
 ·intro a' c' w' h1 h2 h3 _;exact hK _ _ (h a' c' w' (by rw [show u8s (xs++zs)=u8s xs++u8s zs from by simp [u8s]];exact h1) (Keeps.of_grown h2 hown h3))

theorem ahm (x m:Nat) (hx:x<18446744073709551616) (hm:(Var.enc x).length=m) (w:World) :
 Calls Tryz.prog 139 #[.slice none 0 0,.int .u64 (x:Int)] w fun e w'=>∃a' c',e=.returned (.slice a' m c')/\Sl .u8 w' a' m c' (Var.enc x)/\Below w.heap.size w w':=by
 refine (ajs none 0 0 [] x m hx hm w Sl.nil (by omega)).mono ?_
 rintro e w' ⟨a',c',rfl,ho,-,hb⟩;simp only [Nat.zero_add,List.nil_append] at ho;exact ⟨a',c',by rw [Nat.zero_add],Sl.of_owns ho (Var.zq x) hm,hb⟩

end
section
open Go.RowKit

theorem Sl.tail {k:IntKind} {w:World} {b off n cap m:Nat} {zs:List Int} (h:Sl k w (some ⟨b,off,none⟩) n cap zs) (hm:m<=n):Sl k w (some ⟨b,off+m,none⟩) (n-m) (cap-m) (zs.drop m):=by
 have h1:=h.piece m (n-m) (by omega)
 rwa [tol (by rw [List.length_drop,h.1];exact Nat.le_refl _)] at h1

def Low (B:Nat) (a:Option Addr) (n:Nat):Prop:=n=0\/∃b o,a=some ⟨b,o,none⟩/\b<B
theorem Low.of {k:IntKind} {w:World} {a:Option Addr} {n cap:Nat} {zs:List Int} (h:Sl k w a n cap zs):Low w.heap.size a n:=by
 rcases Nat.eq_zero_or_pos n with h0|h0
 ·exact .inl h0
 ·obtain ⟨b,o,h1,h2,_⟩:=h.at h0;exact .inr ⟨b,o,h1,h2⟩
theorem Low.mono {B B':Nat} {a:Option Addr} {n:Nat} (h:Low B a n) (hB:B<=B'):Low B' a n:=by
 rcases h with h|⟨b,o,h1,h2⟩
 ·exact .inl h
 ·exact .inr ⟨b,o,h1,by omega⟩
theorem Low.get {B b o n:Nat} (h:Low B (some ⟨b,o,none⟩) n) (hn:0<n):b<B:=by
 rcases h with h|⟨b',o',h1,h2⟩
 ·omega
 ·cases h1;exact h2
theorem Sl.low {k:IntKind} {w w':World} {a:Option Addr} {n cap B:Nat} {zs:List Int} (h:Sl k w a n cap zs) (hl:Low B a n) (hb:Below B w w'):Sl k w' a n cap zs:=by
 obtain ⟨h1,h2,h3,h4,h5⟩:=h;refine ⟨h1,h2,h3,h4,?_⟩;rcases h5 with h5|⟨b,off,ha,hc⟩
 ·exact .inl h5
 ·rcases Nat.eq_zero_or_pos n with h0|h0
  ·exact .inl h0
  ·subst ha;have hB:=hl.get h0;exact .inr ⟨b,off,rfl,fun i hi=>by rw [hb.cell (p:=⟨b,off+i,none⟩) hB];exact hc i hi⟩
def VTakeAt (B:Nat) (w':World) (e:Ending) (r:Option (Nat × List Int)):Prop :=
 (∃m l a' n' c',r=some (m,l)/\e=.returned (.tuple #[.int .u64 ((m:Nat):Int),.slice a' n' c',.int .i64 0])/\Sl .u8 w' a' n' c' l/\Low B a' n')\/(r=none/\e=.returned (.tuple #[.int .u64 0,.slice none 0 0,.int .i64 130]))
theorem VTakeAt.is {B:Nat} {w':World} {e:Ending} {r:Option (Nat × List Int)} (h:VTakeAt B w' e r):VTakeIs w' e r:=by
 rcases h with ⟨m,l,a',n',c',h1,h2,h3,_⟩|h
 ·exact .inl ⟨m,l,a',n',c',h1,h2,h3⟩
 ·exact .inr h
theorem VTakeAt.some {B:Nat} {w':World} {e:Ending} {r:Option (Nat × List Int)} {m:Nat} {l:List Int} (h:VTakeAt B w' e r) (hr:r=some (m,l)):∃a' n' c',e=.returned (.tuple #[.int .u64 (m:Int),.slice a' n' c',.int .i64 0])/\Sl .u8 w' a' n' c' l/\Low B a' n':=by
 rcases h with ⟨m',l',a',n',c',h1,h2,h3,h4⟩|⟨h1,_⟩
 ·rw [hr] at h1;cases h1;exact ⟨a',n',c',h2,h3,h4⟩
 ·rw [hr] at h1;cases h1
theorem VTakeAt.none {B:Nat} {w':World} {e:Ending} {r:Option (Nat × List Int)} (h:VTakeAt B w' e r) (hr:r=none):e=.returned (.tuple #[.int .u64 0,.slice none 0 0,.int .i64 130]):=h.is.none hr

end
section
open Go.RowKit

def SlIs (w':World) (e:Ending) (zs:List Int):Prop:=∃a n c,e=.returned (.slice a n c)/\Sl .u8 w' a n c zs
theorem MadeB.is {w w':World} {e:Ending} {l:List Int} (h:MadeB w w' e l) (hl:∀z∈l,(Lit.int .u8 z).wf=true):SlIs w' e l/\Below w.heap.size w w':=by
 obtain ⟨a,n,c,h1,_,h2,_,h3⟩:=h.sl hl;exact ⟨⟨a,n,c,h1,h2⟩,h3⟩
theorem adp {l:List Int} {i c:Nat} (h:i<l.length) (hc:(c:Int)=l.getD i 0) (b:List Int):b++Img.flat ((l.take (i+1)).map Int.toNat)=(b++Img.flat ((l.take i).map Int.toNat))++Var.enc c:=by
 have e:l[i]=(c:Int):=by simpa [h] using hc.symm
 rw [tsa h,e,List.map_append,Img.flat_app,List.append_assoc];simp [Img.flat]
theorem ajt {l:List Int} (i:Nat) (b:List Int):(b++Img.flat ((l.take i).map Int.toNat)).length<=(b++Img.flat (l.map Int.toNat)).length:=by
 have h:l.map Int.toNat=(l.take i).map Int.toNat++(l.drop i).map Int.toNat:=by rw [<-List.map_append,List.take_append_drop]
 rw [h,Img.flat_app];simp only [List.length_append];omega
theorem Sl.natAt {w:World} {a:Option Addr} {n cap:Nat} {l:List Int} (h:Sl .i64 w a n cap l) (h0:∀z∈l,0<=z) {j:Nat} (hj:j<n):∃x:Nat,(x:Int)=l.getD j 0/\x<9223372036854775808:=by
 have hl:=h.1;have e:l.getD j 0=l[j]:=by simp [show j<l.length by omega]
 have hm:l.getD j 0∈l:=by rw [e];exact List.getElem_mem (by omega)
 have h1:=h0 _ hm;have h2:=bounds_i64 (h.2.2.2.1 _ hm);exact ⟨(l.getD j 0).toNat,by omega,by omega⟩

end
section
theorem z45 {P:Prop} (h:P:=by
 obtain rfl:i=ln:=by omega
 have htk:l.take i=l:=tol (by rw [HLL.out];exact Nat.le_refl _)
 have HXF:Hid (wr.ownsRow B 5 1 (.slice a' k c) k (u8s (b++Img.flat (l.map Int.toNat)))):=by
  have h:=HX.out
  rwa [htk] at h
 clear HX htk;go_wp2;go_ret
 exact ⟨⟨a',k,c,rfl,HXF.out⟩,HK.out⟩):P:=h
open Go.RowKit

theorem Sl.natAtU {w:World} {a:Option Addr} {n cap:Nat} {l:List Int} (h:Sl .u64 w a n cap l) (h0:∀z∈l,0<=z) {j:Nat} (hj:j<n):∃x:Nat,(x:Int)=l.getD j 0/\x<18446744073709551616:=by
 have hl:=h.1;have e:l.getD j 0=l[j]:=by simp [show j<l.length by omega]
 have hm:l.getD j 0∈l:=by rw [e];exact List.getElem_mem (by omega)
 have h1:=h0 _ hm;have h2:=bounds_u64 (h.2.2.2.1 _ hm);exact ⟨(l.getD j 0).toNat,by omega,by omega⟩

theorem abz (B:Nat) (a:Option Addr) (n c:Nat) (b:List Int) (la:Option Addr) (ln lc:Nat) (l:List Int) (w:World) (ho:w.ownsRow B 5 1 (.slice a n c) n (u8s b)) (hl:∀w1,Keeps B w w1->Sl .i64 w1 la ln lc l) (h0:∀z∈l,0<=z) (hb:(b++Img.flat (l.map Int.toNat)).length<=200000000000) (hB:B<=w.heap.size) :
 Calls Tryz.prog 96 #[.slice a n c,.slice la ln lc] w fun e w'=>PutsIs B w' e (b++Img.flat (l.map Int.toNat))/\Keeps B w w':=by
 have hnc:=(hl w (Keeps.refl _ _)).2.1;have hcm:=(hl w (Keeps.refl _ _)).2.2.1;unfold maxLen at hcm;have HLL:Hid (l.length=ln):=(hl w (Keeps.refl _ _)).1;have HL:=hdq hl;have HO:=hdq ho;have HZ:=hdq h0;have HB:=hdq hb;have HBW:=hdq hB;clear hl ho h0 hb hB;go_enter Tryz.func96,Tryz.ntmps96;go_wp2;go_loopw [0,9] (fun bv ix wr=>∃(i k c:Nat) (a:Option Addr),bv=.slice a k c/\ix=.int .i64 (i:Int)/\i<=ln/\Hid (wr.ownsRow B 5 1 (.slice a k c) k (u8s (b++Img.flat ((l.take i).map Int.toNat))))/\Hid (Keeps B w wr)) (fun _ ix _=>ln-(intOf ix).toNat)
 case atStart=>exact ⟨0,n,c,a,rfl,rfl,Nat.zero_le _,by show World.ownsRow _ _ _ _ _ _ _;simpa [Img.flat] using HO.out,Keeps.refl _ _⟩
 case round =>
  obtain ⟨i,k,c,a',rfl,rfl,hi,HX,HK⟩:=hrel;by_cases hlt:i<ln
  ·have hs:=HL.out _ HK.out;obtain ⟨x,hx,hx9⟩:=hs.natAt HZ.out hlt;obtain ⟨b1,o1,rfl,_,hc1⟩:=hs.at (by omega)
   have hx1:=hc1 i hlt;have HN:=hdq (adp (by rw [HLL.out];exact hlt) hx b)
   rw [<-hx] at hx1;have hli:(i:Int)<(ln:Int):=by omega
   have hxu:IntKind.u64.wrap (x:Int)=(x:Int):=by rw [lw];omega
   have hk:k<=200000000000:=by
    have h1:=ajt (l:=l) i b;have h2:=HB.out;rw [vk HX.out] at h1;omega
   have hx64:x<18446744073709551616:=by omega
   obtain ⟨m,hm⟩:∃m,(Var.enc x).length=m:=⟨_,rfl⟩;have hm10:m<=10:=by rw [<-hm];exact Var.ic hx64
   have HPC:=hdq (ahm x m hx64 hm wr);have HSZ:Hid (B<=wr.heap.size):=Nat.le_trans HBW.out HK.out.size;clear hs hc1 hx hm
   go_wp2_with (first
    | (go_at_call 139;refine HPC.out.mono ?_;rintro e w2 ⟨a2,c2,rfl,hs2,hb2⟩;have S2:=hdq hs2;have K2:=hdq (HK.out.trans (Keeps.of_below hb2 HSZ.out));have O2:=hdq (af HX.out hb2 lrf);have Z2:Hid (B<=w2.heap.size):=Nat.le_trans HSZ.out hb2.size;clear hs2 hb2)
    | (at_builtin;refine qi (by rfl) (.tmp 13) (.tmp 16) (by rfl) B _ k _ (by rfl) O2.out a2 m c2 (Var.enc x) (by rfl) S2.out (k+m) rfl (by omega) Z2.out ?_;intro a3 c3 w3 hown3 hk3;have O3:=hdq hown3;have K3:=hdq (K2.out.trans hk3);clear hown3 hk3)
    | fail)
   go_roundw
   case rel=>exact ⟨i+1,k+m,c3,a3,rfl,by go_num,by omega,by rw [HN.out];exact O3.out,K3.out⟩
   case measure=>simp [intOf];omega
  ·exact z45

theorem aju (B:Nat) (a:Option Addr) (n c:Nat) (b:List Int) (la:Option Addr) (ln lc:Nat) (l:List Int) (w:World) (ho:w.ownsRow B 5 1 (.slice a n c) n (u8s b)) (hl:∀w1,Keeps B w w1->Sl .u64 w1 la ln lc l) (h0:∀z∈l,0<=z) (hb:(b++Img.flat (l.map Int.toNat)).length<=200000000000) (hB:B<=w.heap.size) :
 Calls Tryz.prog 95 #[.slice a n c,.slice la ln lc] w fun e w'=>PutsIs B w' e (b++Img.flat (l.map Int.toNat))/\Keeps B w w':=by
 have hnc:=(hl w (Keeps.refl _ _)).2.1;have hcm:=(hl w (Keeps.refl _ _)).2.2.1;unfold maxLen at hcm;have HLL:Hid (l.length=ln):=(hl w (Keeps.refl _ _)).1;have HL:=hdq hl;have HO:=hdq ho;have HZ:=hdq h0;have HB:=hdq hb;have HBW:=hdq hB;clear hl ho h0 hb hB;go_enter Tryz.func95,Tryz.ntmps95;go_wp2;go_loopw [0,9] (fun bv ix wr=>∃(i k c:Nat) (a:Option Addr),bv=.slice a k c/\ix=.int .i64 (i:Int)/\i<=ln/\Hid (wr.ownsRow B 5 1 (.slice a k c) k (u8s (b++Img.flat ((l.take i).map Int.toNat))))/\Hid (Keeps B w wr)) (fun _ ix _=>ln-(intOf ix).toNat)
 case atStart=>exact ⟨0,n,c,a,rfl,rfl,Nat.zero_le _,by show World.ownsRow _ _ _ _ _ _ _;simpa [Img.flat] using HO.out,Keeps.refl _ _⟩
 case round =>
  obtain ⟨i,k,c,a',rfl,rfl,hi,HX,HK⟩:=hrel;by_cases hlt:i<ln
  ·have hs:=HL.out _ HK.out;obtain ⟨x,hx,hx9⟩:=hs.natAtU HZ.out hlt;obtain ⟨b1,o1,rfl,_,hc1⟩:=hs.at (by omega)
   have hx1:=hc1 i hlt;have HN:=hdq (adp (by rw [HLL.out];exact hlt) hx b)
   rw [<-hx] at hx1;have hli:(i:Int)<(ln:Int):=by omega
   have hxu:IntKind.u64.wrap (x:Int)=(x:Int):=by rw [lw];omega
   have hk:k<=200000000000:=by
    have h1:=ajt (l:=l) i b;have h2:=HB.out;rw [vk HX.out] at h1;omega
   have hx64:x<18446744073709551616:=by omega
   obtain ⟨m,hm⟩:∃m,(Var.enc x).length=m:=⟨_,rfl⟩;have hm10:m<=10:=by rw [<-hm];exact Var.ic hx64
   have HPC:=hdq (ahm x m hx64 hm wr);have HSZ:Hid (B<=wr.heap.size):=Nat.le_trans HBW.out HK.out.size;clear hs hc1 hx hm
   go_wp2_with (first
    | (go_at_call 139;refine HPC.out.mono ?_;rintro e w2 ⟨a2,c2,rfl,hs2,hb2⟩;have S2:=hdq hs2;have K2:=hdq (HK.out.trans (Keeps.of_below hb2 HSZ.out));have O2:=hdq (af HX.out hb2 lrf);have Z2:Hid (B<=w2.heap.size):=Nat.le_trans HSZ.out hb2.size;clear hs2 hb2)
    | (at_builtin;refine qi (by rfl) (.tmp 13) (.tmp 15) (by rfl) B _ k _ (by rfl) O2.out a2 m c2 (Var.enc x) (by rfl) S2.out (k+m) rfl (by omega) Z2.out ?_;intro a3 c3 w3 hown3 hk3;have O3:=hdq hown3;have K3:=hdq (K2.out.trans hk3);clear hown3 hk3)
    | fail)
   go_roundw
   case rel=>exact ⟨i+1,k+m,c3,a3,rfl,by go_num,by omega,by rw [HN.out];exact O3.out,K3.out⟩
   case measure=>simp [intOf];omega
  ·exact z45

theorem ry (B:Nat) (a:Option Addr) (n c:Nat) (b:List Int) (x:Nat) (g:Nat) (W w:World) (ho:w.ownsRow B 5 1 (.slice a n c) n (u8s b)) (hW:Keeps B (W.alloc (.cells #[.int .i64 (x:Int)] 3)) w) (hg:g=W.heap.size) (hx:x<9223372036854775808) (hb:(b++Var.enc x).length<=200000000000) (hB:B<=w.heap.size) :
 Calls Tryz.prog 96 #[.slice a n c,.slice (some ⟨g,0,none⟩) 1 1] w fun e w'=>PutsIs B w' e (b++Var.enc x)/\Keeps B w w':=by
 have e:b++Var.enc x=b++Img.flat ([(x:Int)].map Int.toNat):=by simp [Img.flat]
 rw [e] at hb ⊢;exact abz B a n c b _ 1 1 [(x:Int)] w ho (fun w1 hk=>Keeps.lit [(x:Int)] (hW.trans hk) (by decide) hg (by intro z hz;simp at hz;subst hz;exact WalkArith.wf_i64 ⟨by omega,by omega⟩) (by unfold maxLen;simp) rfl rfl) (by intro z hz;simp at hz;omega) hb hB
theorem aui (B:Nat) (a:Option Addr) (n c:Nat) (b:List Int) (x:Nat) (g:Nat) (W w:World) (ho:w.ownsRow B 5 1 (.slice a n c) n (u8s b)) (hW:Keeps B (W.alloc (.cells #[.int .u64 (x:Int)] 23)) w) (hg:g=W.heap.size) (hx:x<18446744073709551616) (hb:(b++Var.enc x).length<=200000000000) (hB:B<=w.heap.size) :
 Calls Tryz.prog 95 #[.slice a n c,.slice (some ⟨g,0,none⟩) 1 1] w fun e w'=>PutsIs B w' e (b++Var.enc x)/\Keeps B w w':=by
 have e:b++Var.enc x=b++Img.flat ([(x:Int)].map Int.toNat):=by simp [Img.flat]
 rw [e] at hb ⊢;exact aju B a n c b _ 1 1 [(x:Int)] w ho (fun w1 hk=>Keeps.lit [(x:Int)] (hW.trans hk) (by decide) hg (by intro z hz;simp at hz;subst hz;exact WalkArith.wf_u64 ⟨by omega,by omega⟩) (by unfold maxLen;simp) rfl rfl) (by intro z hz;simp at hz;omega) hb hB

theorem aay (B:Nat) (a:Option Addr) (n c:Nat) (b:List Int) (la:Option Addr) (ln lc:Nat) (l:List Int) (w:World) (ho:w.ownsRow B 5 1 (.slice a n c) n (u8s b)) (hl:∀w1,Keeps B w w1->Sl .i64 w1 la ln lc l) (h0:∀z∈l,0<=z) (hb:(b++Img.flat (Img.sideNums l)).length<=200000000000) (hB:B<=w.heap.size) :
 Calls Tryz.prog 97 #[.slice a n c,.slice la ln lc] w fun e w'=>PutsIs B w' e (b++Img.flat (Img.sideNums l))/\Keeps B w w':=by
 have hnc:=(hl w (Keeps.refl _ _)).2.1;have hcm:=(hl w (Keeps.refl _ _)).2.2.1;unfold maxLen at hcm;have hll:=(hl w (Keeps.refl _ _)).1;have he:b++Img.flat (Img.sideNums l)=(b++Var.enc ln)++Img.flat (l.map Int.toNat):=by rw [Img.sideNums,Img.flat_cons,hll,List.append_assoc]
 rw [he] at hb ⊢;have hb1:(b++Var.enc ln).length<=200000000000:=by rw [List.length_append] at hb;omega
 have HL:=hdq hl;have HO:=hdq ho;have HZ:=hdq h0;have HB:=hdq hb;have HB1:=hdq hb1;have HBW:=hdq hB;have HA:Hid (Keeps B w (w.alloc (.cells #[.int .i64 (ln:Int)] 3))):=Keeps.alloc HBW.out _;have HOA:Hid ((w.alloc (.cells #[.int .i64 (ln:Int)] 3)).ownsRow B 5 1 (.slice a n c) n (u8s b)):=af HO.out ((Below.refl _ w).alloc lrf _) lrf;have HP1:=hdq (ry B a n c b ln w.heap.size w _ HOA.out (Keeps.refl _ _) rfl (by omega) HB1.out (Nat.le_trans HBW.out HA.out.size))
 clear hl ho h0 hb hb1 hB he hll;go_enter Tryz.func97,Tryz.ntmps97;go_wp2_with fail;refine HP1.out.mono ?_;rintro e w2 ⟨⟨a2,n2,c2,rfl,ho2⟩,hk2⟩;have K2:=hdq (HA.out.trans hk2);have HP2:=hdq (abz B a2 n2 c2 _ la ln lc l w2 ho2 (fun w1 hk=>HL.out w1 (K2.out.trans hk)) HZ.out HB.out (Nat.le_trans HBW.out K2.out.size));clear ho2 hk2 HP1 HOA HA;go_wp2_with fail;refine HP2.out.mono ?_;rintro e w3 ⟨⟨a3,n3,c3,rfl,ho3⟩,hk3⟩;have K3:=hdq (K2.out.trans hk3);have O3:=hdq ho3;clear ho3 hk3 HP2;go_wp2;go_ret;exact ⟨⟨a3,n3,c3,rfl,O3.out⟩,K3.out⟩

end
section
theorem z46 {P:Prop} (h:P:=by
 go_enter Tryz.func98,Tryz.ntmps98;go_wp2;go_ret
 exact ⟨rfl,(Below.refl _ w).alloc lrf _⟩):P:=h
open Go.RowKit

namespace Img
theorem sy:∀(l:List Tri.St) (j k:Nat),k<l.length->stsNums (j:Int) (l.take (k+1))=stsNums (j:Int) (l.take k)++stNums ((j+k:Nat):Int) (l.getD k Tri.St.no)
 | [],j,k,h=>by simp at h
 | s::l,j,0,h=>by simp [stsNums]
 | s::l,j,k+1,h=>by
   have ih:=sy l (j+1) k (by simpa using h)
   rw [Int.natCast_add,Int.natCast_one] at ih;rw [List.take_succ_cons,List.take_succ_cons,stsNums,stsNums,ih,List.getD_cons_succ,List.append_assoc,show j+1+k=j+(k+1) from by omega]
theorem aaz {n:Nat}:∀(l:List Tri.St) (j k:Nat),Tri.checkA n j l=true->k<l.length->Tri.arcsOk n (j+k) none (l.getD k Tri.St.no).arcs=true
 | [],j,k,_,h=>by simp at h
 | s::l,j,0,hc,h=>by
   unfold Tri.checkA at hc;simp only [Bool.and_eq_true] at hc;simpa using hc.1
 | s::l,j,k+1,hc,h=>by
   unfold Tri.checkA at hc;simp only [Bool.and_eq_true] at hc;have ih:=aaz l (j+1) k hc.2 (by simpa using h)
   rw [List.getD_cons_succ,show j+(k+1)=j+1+k from by omega]
   exact ih
theorem xj:∀(l:List Tri.St) (j:Int) (k:Nat),(flat (stsNums j (l.take k))).length<=(flat (stsNums j l)).length
 | [],j,k=>by simp [stsNums]
 | s::l,j,0=>by simp [stsNums,flat]
 | s::l,j,k+1=>by
   have ih:=xj l (j+1) k;rw [List.take_succ_cons,stsNums,stsNums,flat_app,flat_app,List.length_append,List.length_append];omega
theorem aho (A:List Nat) (j:Nat):(flat (A.take j)).length<=(flat A).length:=by
 have h:A=A.take j++A.drop j:=(List.take_append_drop j A).symm;have h2:=congrArg (fun l=>(flat l).length) h;simp only [flat_app,List.length_append] at h2;omega
def lastAt (l:List (Int × Int)):Nat->Int
 | 0=>-1
 | m+1=>(l.getD m (0,0)).1
theorem auj {n i:Nat} {l:List (Int × Int)} (ho:Tri.arcsOk n i none l=true) (hn:n<=6001) (k:Nat) (hk:k<l.length) (s t:Int) (hg:l.getD k (0,0)=(s,t)) :
 ∃sq tq:Nat,s-lastAt l k-1=(sq:Int)/\t-(i:Int)-1=(tq:Int)/\-1<=lastAt l k/\lastAt l k<=1114111/\0<=s/\s<=1114111/\0<=t/\t<=6001/\lastAt l (k+1)=s/\(arcNums (i:Int) (-1) l).take (2*(k+1))=(arcNums (i:Int) (-1) l).take (2*k)++[sq,tq]:=by
 have h1:=aca l none ho k hk;have h2:=vc (i:Int) l (-1) k hk;rw [hg] at h1 h2;simp only at h1 h2
 have hl:-1<=lastAt l k/\lastAt l k<=1114111/\lastAt l k<s:=by
  cases k with
  | zero=>simp only [lastAt];omega
  | succ m =>
    have h3:=aca l none ho m (by omega)
    have h4:=h1.2.2 m rfl;simp only [lastAt];omega
 refine ⟨(s-lastAt l k-1).toNat,(t-(i:Int)-1).toNat,by omega,by omega,hl.1,hl.2.1,by omega,by omega,by omega,by omega,by show (l.getD k (0,0)).1=s;rw [hg],?_⟩
 rw [h2];cases k<;>rfl
end Img

theorem aqs (t f:Nat) (ht:t<=1114112) (hf:f<=1):IntKind.i64.wrap (IntKind.i64.wrap (2*(t:Int))+(f:Int))=2*(t:Int)+(f:Int):=by
 have e1:IntKind.i64.wrap (2*(t:Int))=2*(t:Int):=by rw [IntKind.wrap_i64];omega
 rw [e1,IntKind.wrap_i64];omega

theorem auk (B:Nat) (a:Option Addr) (n c:Nat) (b:List Int) (x y:Nat) (g:Nat) (W w:World) (ho:w.ownsRow B 5 1 (.slice a n c) n (u8s b)) (hW:Keeps B (W.alloc (.cells #[.int .i64 (x:Int),.int .i64 (y:Int)] 3)) w) (hg:g=W.heap.size) (hx:x<9223372036854775808) (hy:y<9223372036854775808) (hb:(b++Img.flat [x,y]).length<=200000000000) (hB:B<=w.heap.size) :
 Calls Tryz.prog 96 #[.slice a n c,.slice (some ⟨g,0,none⟩) 2 2] w fun e w'=>PutsIs B w' e (b++Img.flat [x,y])/\Keeps B w w':=by
 have e:b++Img.flat [x,y]=b++Img.flat ([(x:Int),(y:Int)].map Int.toNat):=by simp [Img.flat]
 rw [e] at hb ⊢
 have hwx:∀z∈[(x:Int),(y:Int)],(Lit.int .i64 z).wf=true/\0<=z:=by
  intro z hz;simp only [List.mem_cons,List.not_mem_nil,or_false] at hz;rcases hz with rfl|rfl<;>exact ⟨WalkArith.wf_i64 ⟨by omega,by omega⟩,by omega⟩
 exact abz B a n c b _ 2 2 [(x:Int),(y:Int)] w ho (fun w1 hk=>Keeps.lit [(x:Int),(y:Int)] (hW.trans hk) (by decide) hg (fun z hz=>(hwx z hz).1) (by unfold maxLen;simp) rfl rfl) (fun z hz=>(hwx z hz).2) hb hB

theorem aul (ff:Bool) (ta:Option Addr) (tn tc:Nat) (w:World) :
 Calls Tryz.prog 98 #[.agg #[.bool ff,.slice ta tn tc]] w fun e w'=>e=.returned (.int .i64 ((if ff=true then 1 else 0:Nat):Int))/\Below w.heap.size w w':=by
 cases ff with
 | false =>
   exact z46
 | true =>
   exact z46

theorem ahp (sa:Option Addr) (sn sc:Nat) (xs:List Sw) (w:World) (hS:Ss w sa sn sc xs) (hck:Tri.check (sts xs)=true) (hb:(Var.enc sn++Img.flat (Img.stsNums 0 (sts xs))).length<=200000000000) :
 Calls Tryz.prog 49 #[.slice none 0 0,.slice sa sn sc] w fun e w'=>PutsIs w.heap.size w' e (Var.enc sn++Img.flat (Img.stsNums 0 (sts xs)))/\Keeps w.heap.size w w':=by
 have hmx:Tryz.prog.follows .mixedOrders=true:=by kernel_rfl
 have HSS:=hdq hS;have hnc:=hS.2.1;have hcm:=hS.2.2.1;unfold maxLen at hcm;have HLX:Hid (xs.length=sn):=hS.1;have HST:=hdq (Img.li hck);have hsn:sn<=6001:=by have h:=HST.out.2.2;rw [ar,HLX.out] at h;exact h
 have HB:=hdq hb;have HB1:Hid ((([]:List Int)++Var.enc sn).length<=200000000000):=by show _<=_;rw [List.length_append] at hb;simp;omega
 have HP1:=hdq (ry w.heap.size none 0 0 [] sn w.heap.size w (w.alloc (.cells #[.int .i64 (sn:Int)] 3)) (World.ownsRow_nil _ _ _ _) (Keeps.refl _ _) rfl (by omega) HB1.out (by simp))
 clear hS hck hb;go_enter Tryz.func49,Tryz.ntmps49;go_wp2_with fail;refine HP1.out.mono ?_;rintro e w1 ⟨⟨a1,n1,c1,rfl,ho1⟩,hk1⟩;rw [List.nil_append] at ho1;have K1:Hid (Keeps w.heap.size w w1):=(Keeps.alloc lrf _).trans hk1;have O1:=hdq ho1;clear ho1 hk1 HP1;go_wp2;go_loopw [0,17] (fun bv ix wr=>∃(i k c:Nat) (a:Option Addr),bv=.slice a k c/\ix=.int .i64 (i:Int)/\i<=sn/\Hid (wr.ownsRow w.heap.size 5 1 (.slice a k c) k (u8s (Var.enc sn++Img.flat (Img.stsNums 0 ((sts xs).take i)))))/\Hid (Keeps w.heap.size w wr)) (fun _ ix _=>sn-(intOf ix).toNat)
 case atStart=>exact ⟨0,n1,c1,a1,rfl,rfl,Nat.zero_le _,by show World.ownsRow _ _ _ _ _ _ _;simpa [Img.flat,Img.stsNums] using O1.out,K1.out⟩
 case round =>
  obtain ⟨i,k,c,a',rfl,rfl,hi,HX,HK⟩:=hrel;by_cases hlt:i<sn
  ·obtain ⟨sb,so,ff,ta,tn,tc,arcs,rfl,hsb,e1,e2,hta,hg⟩:=(HSS.out.below HK.out.low lrf).one i hlt;have hat:(sts xs).getD i Tri.St.no=Sw.st ⟨ff,ta,tn,tc,arcs⟩:=by rw [eu,hg]
   have hok:=Img.aaz (sts xs) 0 i HST.out.1 (by rw [ar,HLX.out];exact hlt)
   rw [Nat.zero_add,hat] at hok;have hok:Tri.arcsOk (sts xs).length i none arcs=true:=hok;have hnx:=Img.sy (sts xs) 0 i (by rw [ar,HLX.out];exact hlt)
   rw [Nat.zero_add,hat,Int.natCast_zero] at hnx;have hli:(i:Int)<(sn:Int):=by omega
   have htnc:=hta.2.1;have htcm:=hta.2.2.1;unfold maxLen at htcm;have HLA:Hid (arcs.length=tn):=hta.1;have hfew:=Img.ms _ _ hok (by intro q hq;cases hq)
   simp only [Option.getD_none] at hfew;have htn:tn<=1114112:=by have:=HLA.out;omega
   have HOK:=hdq hok;have HNL:=hdq HST.out.2.2;obtain ⟨A,hA⟩:∃A,A=Img.arcNums (i:Int) (-1) arcs:=⟨_,rfl⟩
   have HSTEP:Hid (∀j,j<tn->∀s t,arcs.getD j (0,0)=(s,t)->∃sq tq:Nat,s-Img.lastAt arcs j-1=(sq:Int)/\t-(i:Int)-1=(tq:Int)/\-1<=Img.lastAt arcs j/\Img.lastAt arcs j<=1114111/\0<=s/\s<=1114111/\0<=t/\t<=6001/\Img.lastAt arcs (j+1)=s/\A.take (2*(j+1))=A.take (2*j)++[sq,tq]):=by
    intro j hj s t hst;rw [hA];exact Img.auj HOK.out HNL.out j (by rw [HLA.out];exact hj) s t hst
   have HAL:Hid (A.take (2*tn)=A):=by show _=_;rw [hA];exact tol (by rw [Img.pm,HLA.out];exact Nat.le_refl _)
   obtain ⟨H,hH⟩:∃H:Nat,H=2*tn+(if ff=true then 1 else 0):=⟨_,rfl⟩
   have hH2:((2*(tn:Int))+((if ff=true then 1 else 0:Nat):Int))=(H:Int):=by rw [hH];omega
   have hH9:H<=3000000:=by rw [hH];split<;>omega
   obtain ⟨F,hF⟩:∃F:Nat,F=(if ff=true then 1 else 0:Nat):=⟨_,rfl⟩
   have hF1:F<=1:=by rw [hF];split<;>omega
   have HFI:Hid (∀w:World,Calls Tryz.prog 98 #[.agg #[.bool ff,.slice ta tn tc]] w fun e w'=>e=.returned (.int .i64 (F:Int))/\Below w.heap.size w w'):=by
    intro w;rw [hF];exact aul ff ta tn tc w
   rw [<-hF] at hH2;obtain ⟨Y0,hY0⟩:∃Y,Y=Var.enc sn++Img.flat (Img.stsNums 0 ((sts xs).take i)):=⟨_,rfl⟩
   have hY:Var.enc sn++Img.flat (Img.stsNums 0 ((sts xs).take (i+1)))=(Y0++Var.enc H)++Img.flat A:=by
    rw [hnx,Img.flat_app,<-List.append_assoc,<-hY0,Img.stNums,Img.headNum,Img.flat_cons,<-List.append_assoc];show Y0++Var.enc (2*arcs.length+_)++_=_;rw [HLA.out,hH,hA];rfl
   have hyl:((Y0++Var.enc H)++Img.flat A).length<=200000000000:=by
    rw [<-hY];have h:=HB.out;have h2:=Img.xj (sts xs) 0 (i+1);rw [List.length_append] at h ⊢;omega
   have HY:=hdq hY;have HYL:=hdq hyl;have HYL1:Hid ((Y0++Var.enc H).length<=200000000000):=by show _<=_;rw [List.length_append] at hyl;omega
   have HX0:Hid (wr.ownsRow w.heap.size 5 1 (.slice a' k c) k (u8s Y0)):=by rw [hY0];exact HX.out
   have HSZ:Hid (w.heap.size<=wr.heap.size):=HK.out.size;obtain ⟨WB,hWB⟩:∃WB,WB=wr.alloc (.cells #[.bool ff,.slice ta tn tc] 58):=⟨_,rfl⟩;have KB:Hid (Keeps w.heap.size wr WB):=by rw [hWB];exact Keeps.alloc HSZ.out _
   have HWB:Hid (∀W,Keeps w.heap.size WB W->W.cell? ⟨wr.heap.size,0,none⟩=some (.bool ff)/\W.cell? ⟨wr.heap.size,1,none⟩=some (.slice ta tn tc)):=by
    intro W hW;rw [hWB] at hW;exact ⟨hW.cell (han wr _) (by decide),hW.cell (han wr _) (by decide)⟩
   have HWR:Hid (IntKind.i64.wrap (IntKind.i64.wrap (2*(tn:Int))+(F:Int))=(H:Int)):=by
    show _=_;rw [aqs tn F htn hF1];exact hH2
   have HGD:Hid (∀W,Keeps w.heap.size w W->Ars W ta tn tc arcs):=by
    intro W hW;have h:=(HSS.out.below hW.low lrf).good i;rw [hg] at h;exact h
   have OB:Hid (WB.ownsRow w.heap.size 5 1 (.slice a' k c) k (u8s Y0)):=by rw [hWB];exact af HX0.out ((Below.refl _ wr).alloc lrf _) lrf
   have KD:Hid (Keeps w.heap.size WB WB.drew):=(Keeps.refl _ WB).drew;clear hg hat hok hnx hY hyl hY0 hH hA hF HX HX0 hfew htcm htnc hta;go_wp2;rw [<-hWB];clear hWB;refine wp_region_held_drew (S:=(fun W=>W.cell? ⟨wr.heap.size,0,none⟩=some (.bool ff)/\W.cell? ⟨wr.heap.size,1,none⟩=some (.slice ta tn tc))) (by kernel_rfl) (by first|(first|exact C5.out|exact C4.out|exact HWB.out _ KD.out|exact HWB.out _ (K4.out.trans (Keeps.alloc Z4.out _)))|((try dsimp only);first|exact C5.out|exact C4.out|exact HWB.out _ KD.out|exact HWB.out _ (K4.out.trans (Keeps.alloc Z4.out _)))) (fun hHeld=>?_)
   refine t_h 0 ?_;refine t_h 1 ?_;refine t_h 2 ?_;refine t_h 3 ?_;refine t_h 4 ?_;refine t_h 5 ?_;refine r_h 6 (fun K hK=>?_);go_simp;refine (HFI.out _).mono ?_;rintro e w4 ⟨rfl,hb4⟩;have K4:Hid (Keeps w.heap.size WB w4):=KD.out.trans (Keeps.of_below hb4 (Nat.le_trans HSZ.out KB.out.size));have O4:Hid (w4.ownsRow w.heap.size 5 1 (.slice a' k c) k (u8s Y0)):=af (show WB.drew.ownsRow _ _ _ _ _ _ from OB.out) hb4 lrf;have C4:=hdq (HWB.out _ K4.out);have Z4:Hid (w.heap.size<=w4.heap.size):=Nat.le_trans HSZ.out (Nat.le_trans KB.out.size K4.out.size);clear hb4;refine k_h hK (by first|(first|exact C5.out|exact C4.out|exact HWB.out _ KD.out|exact HWB.out _ (K4.out.trans (Keeps.alloc Z4.out _)))|(dsimp only;first|exact C5.out|exact C4.out|exact HWB.out _ KD.out|exact HWB.out _ (K4.out.trans (Keeps.alloc Z4.out _)))) (fun hHeld=>?_)
   clear hK K;refine t_h 7 ?_;refine r_h 8 (fun K hK=>?_);go_simp;refine k_h hK (by first|(first|exact C5.out|exact C4.out|exact HWB.out _ KD.out|exact HWB.out _ (K4.out.trans (Keeps.alloc Z4.out _)))|(dsimp only;first|exact C5.out|exact C4.out|exact HWB.out _ KD.out|exact HWB.out _ (K4.out.trans (Keeps.alloc Z4.out _)))) (fun hHeld=>?_)
   clear hK K;refine r_h 9 (fun K hK=>?_);go_simp;rw [HWR.out];refine (ry w.heap.size a' k c Y0 H w4.heap.size w4 _ (af O4.out ((Below.refl _ w4).alloc lrf _) lrf) (Keeps.refl _ _) rfl (by omega) HYL1.out (Nat.le_trans Z4.out (by simp))).mono ?_
   rintro e w5 ⟨⟨a5,n5,c5,rfl,ho5⟩,hk5⟩;have K5:Hid (Keeps w.heap.size WB w5):=K4.out.trans ((Keeps.alloc Z4.out _).trans hk5);have O5:=hdq ho5;have C5:=hdq (HWB.out _ K5.out);clear ho5 hk5;refine k_h hK (by first|(first|exact C5.out|exact C4.out|exact HWB.out _ KD.out|exact HWB.out _ (K4.out.trans (Keeps.alloc Z4.out _)))|(dsimp only;first|exact C5.out|exact C4.out|exact HWB.out _ KD.out|exact HWB.out _ (K4.out.trans (Keeps.alloc Z4.out _)))) (fun hHeld=>?_)
   clear hK K;refine t_h 10 ?_;refine wpAnyH_done (by kernel_rfl) ?_ _
   have KW5:Hid (Keeps w.heap.size w w5):=HK.out.trans (KB.out.trans K5.out);have g1:=C5.out.2;clear C4 K4 O4 Z4 KD OB HFI hH2 hF1 HWR;go_wp2;go_loopw [0,7,35] (fun bv lv jx wr2=>∃(j k c:Nat) (a:Option Addr),bv=.slice a k c/\lv=.int .i64 (Img.lastAt arcs j)/\jx=.int .i64 (j:Int)/\j<=tn/\Hid (wr2.ownsRow w.heap.size 5 1 (.slice a k c) k (u8s ((Y0++Var.enc H)++Img.flat (A.take (2*j)))))/\Hid (Keeps w.heap.size w wr2)) (fun _ _ jx _=>tn-(intOf jx).toNat)
   case atStart=>exact ⟨0,n5,c5,a5,rfl,rfl,rfl,Nat.zero_le _,by show World.ownsRow _ _ _ _ _ _ _;simpa [Img.flat] using O5.out,KW5.out⟩
   case round =>
    obtain ⟨j,k2,c2,a2,rfl,rfl,rfl,hj,HX2,HK2⟩:=hrel;by_cases hlt2:j<tn
    ·obtain ⟨b2,o2,s1,t1,rfl,hb2,f1,f2,hs1,ht1,hg1⟩:=(HGD.out _ HK2.out).one j hlt2;obtain ⟨sq,tq,hsq,htq,hl0,hl9,hs0,hs9,ht0,ht9,hls,htk⟩:=HSTEP.out j hlt2 s1 t1 hg1;obtain ⟨p,hp⟩:∃p,p=Img.lastAt arcs j:=⟨_,rfl⟩;rw [<-hp] at hsq hl0 hl9 ⊢;have hsq1:s1-p=(sq:Int)+1:=by omega
     have htq1:t1-(i:Int)=(tq:Int)+1:=by omega
     have hji:(j:Int)<(tn:Int):=by omega
     have HTK:=hdq htk;have HLS:=hdq hls
     have hyl2:((Y0++Var.enc H)++Img.flat (A.take (2*j))++Img.flat [sq,tq]).length<=200000000000:=by
      have h:=HYL.out;have h2:=Img.aho A (2*(j+1));rw [htk,Img.flat_app] at h2;simp only [List.length_append] at h h2 ⊢;omega
     have HYL2:=hdq hyl2;have HSZ2:Hid (w.heap.size<=wr.heap.size):=HK2.out.size;obtain ⟨WA,hWA⟩:∃WA,WA=wr.alloc (.cells #[.int .i64 s1,.int .i64 t1] 95):=⟨_,rfl⟩;have KA:Hid (Keeps w.heap.size wr WA/\WA.heap.size=wr.heap.size+1):=by rw [hWA];exact ⟨Keeps.alloc HSZ2.out _,by simp⟩
     have HWA:Hid (∀W,Keeps w.heap.size WA W->W.cell? ⟨wr.heap.size,0,none⟩=some (.int .i64 s1)):=by
      intro W hW;rw [hWA] at hW;exact hW.cell (han wr _) (by decide)
     have OA:Hid (WA.ownsRow w.heap.size 5 1 (.slice a2 k2 c2) k2 (u8s ((Y0++Var.enc H)++Img.flat (A.take (2*j))))):=by rw [hWA];exact af HX2.out ((Below.refl _ wr).alloc lrf _) lrf
     have hWA2:(wr.alloc (.cells #[.int .i64 s1,.int .i64 t1] 95)).alloc (.cells #[.int .i64 (sq:Int),.int .i64 (tq:Int)] 3)=WA.alloc (.cells #[.int .i64 (sq:Int),.int .i64 (tq:Int)] 3):=by rw [hWA]
     have HPI:=hdq (auk w.heap.size a2 k2 c2 _ sq tq (wr.heap.size+1) WA (WA.alloc (.cells #[.int .i64 (sq:Int),.int .i64 (tq:Int)] 3)) (af OA.out ((Below.refl _ WA).alloc lrf _) lrf) (Keeps.refl _ _) KA.out.2.symm (by omega) (by omega) HYL2.out (by have:=KA.out.2;have:=HSZ2.out;simp;omega))
     rw [<-hWA2] at HPI;have HW2:=hdq hWA2;clear hWA hWA2 hls htk hyl2 hg1 hs1 ht1 hp
     go_wp2_with (first
      | (go_at_call 96;refine HPI.out.mono ?_;rintro e w8 ⟨⟨a8,n8,c8,rfl,ho8⟩,hk8⟩;rw [HW2.out] at hk8;have K8:Hid (Keeps w.heap.size WA w8):=(Keeps.alloc (by have:=KA.out.2;have:=HSZ2.out;omega) _).trans hk8;have O8:=hdq ho8;have g8:=HWA.out _ K8.out;clear ho8 hk8)
      | fail)
     go_wp2;go_roundw
     case rel=>exact ⟨j+1,n8,c8,a8,rfl,by rw [HLS.out],by go_num,by omega,by show World.ownsRow _ _ _ _ _ _ _;rw [HTK.out,Img.flat_app,<-List.append_assoc];exact O8.out,HK2.out.trans (KA.out.1.trans K8.out)⟩
     case measure=>simp [intOf];omega
    ·obtain rfl:j=tn:=by omega
     have HXF:Hid (wr.ownsRow w.heap.size 5 1 (.slice a2 k2 c2) k2 (u8s (Var.enc sn++Img.flat (Img.stsNums 0 ((sts xs).take (i+1)))))):=by
      show World.ownsRow _ _ _ _ _ _ _;rw [HY.out];have h:=HX2.out
      rwa [HAL.out] at h
     clear HX2;go_wp2;go_roundw
     case rel=>exact ⟨i+1,k2,c2,a2,rfl,by go_num,by omega,HXF.out,HK2.out⟩
     case measure=>simp [intOf];omega
  ·obtain rfl:i=sn:=by omega
   have htk:(sts xs).take i=sts xs:=tol (by rw [ar,HLX.out];exact Nat.le_refl _)
   have HXF:Hid (wr.ownsRow w.heap.size 5 1 (.slice a' k c) k (u8s (Var.enc i++Img.flat (Img.stsNums 0 (sts xs))))):=by
    have h:=HX.out
    rwa [htk] at h
   clear htk HX;go_wp2;go_ret;exact ⟨⟨a',k,c,rfl,HXF.out⟩,HK.out⟩

end
section
open Go.RowKit

theorem aba {l:List Rul} {i:Nat} (h:i<l.length) (x:Rul) (hx:l.getD i Rul.no=x):Img.rulesNums (l.take (i+1))=Img.rulesNums (l.take i)++Img.ruleNums x:=by
 have e:l[i]=x:=by simpa [h] using hx
 rw [tsa h,e];simp [Img.rulesNums]
theorem aej {l:List Rul} (i:Nat) (b:List Int):(b++Img.flat (Img.rulesNums (l.take i))).length<=(b++Img.flat (Img.rulesNums l)).length:=by
 have h:Img.rulesNums l=Img.rulesNums (l.take i)++Img.rulesNums (l.drop i):=by
  unfold Img.rulesNums;rw [<-List.flatMap_append,List.take_append_drop]
 rw [h,Img.flat_app];simp only [List.length_append];omega

theorem aum (B:Nat) (a:Option Addr) (n c:Nat) (b:List Int) (x y z t:Nat) (g:Nat) (W w:World) (ho:w.ownsRow B 5 1 (.slice a n c) n (u8s b)) (hW:Keeps B (W.alloc (.cells #[.int .u64 (x:Int),.int .u64 (y:Int),.int .u64 (z:Int),.int .u64 (t:Int)] 23)) w) (hg:g=W.heap.size)
 (hx:x<18446744073709551616/\y<18446744073709551616/\z<18446744073709551616/\t<18446744073709551616) (hb:(b++Img.flat [x,y,z,t]).length<=200000000000) (hB:B<=w.heap.size) :
 Calls Tryz.prog 95 #[.slice a n c,.slice (some ⟨g,0,none⟩) 4 4] w fun e w'=>PutsIs B w' e (b++Img.flat [x,y,z,t])/\Keeps B w w':=by
 have e:b++Img.flat [x,y,z,t]=b++Img.flat ([(x:Int),(y:Int),(z:Int),(t:Int)].map Int.toNat):=by simp [Img.flat]
 rw [e] at hb ⊢
 have hwx:∀v∈[(x:Int),(y:Int),(z:Int),(t:Int)],(Lit.int .u64 v).wf=true/\0<=v:=by
  intro v hv;simp only [List.mem_cons,List.not_mem_nil,or_false] at hv;rcases hv with rfl|rfl|rfl|rfl<;>exact ⟨WalkArith.wf_u64 ⟨by omega,by omega⟩,by omega⟩
 exact aju B a n c b _ 4 4 [(x:Int),(y:Int),(z:Int),(t:Int)] w ho (fun w1 hk=>Keeps.lit [(x:Int),(y:Int),(z:Int),(t:Int)] (hW.trans hk) (by decide) hg (fun v hv=>(hwx v hv).1) (by unfold maxLen;simp) rfl rfl) (fun v hv=>(hwx v hv).2) hb hB

theorem aiv (B:Nat) (a:Option Addr) (n1 cap:Nat) (b:List Int) (c:Cw) (w:World) (ho:w.ownsRow B 5 1 (.slice a n1 cap) n1 (u8s b)) (hc:∀w1,Keeps B w w1->c.Good w1) (hk:File.check c.c=true) (hb:(b++Img.flat (Img.costNums c.c)).length<=200000000000) (hB:B<=w.heap.size) :
 Calls Tryz.prog 48 #[.slice a n1 cap,c.v] w fun e w'=>PutsIs B w' e (b++Img.flat (Img.costNums c.c))/\Keeps B w w':=by
 obtain ⟨cm,cl,co,ct,ra,rn,rcap,xs⟩:=c;have hc0:=hc w (Keeps.refl _ _);have hbs:=hc0.2;simp only [Cw.base,List.mem_cons,List.not_mem_nil,or_false,forall_eq_or_imp,forall_eq] at hbs;obtain ⟨⟨hm0,hm1⟩,⟨hl0,hl1⟩,⟨ho0,ho1⟩,⟨ht0,ht1⟩⟩:=hbs;obtain ⟨m,rfl⟩:∃m:Nat,cm=(m:Int):=⟨cm.toNat,by omega⟩
 obtain ⟨l,rfl⟩:∃m:Nat,cl=(m:Int):=⟨cl.toNat,by omega⟩
 obtain ⟨o,rfl⟩:∃m:Nat,co=(m:Int):=⟨co.toNat,by omega⟩
 obtain ⟨t,rfl⟩:∃m:Nat,ct=(m:Int):=⟨ct.toNat,by omega⟩
 have HM9:Hid (m<18446744073709551616/\l<18446744073709551616/\o<18446744073709551616/\t<18446744073709551616):=⟨by omega,by omega,by omega,by omega⟩
 have HRS:Hid (∀w1,Keeps B w w1->Rs w1 ra rn rcap xs):=fun w1 h=>(hc w1 h).1;have HLX:Hid (xs.length=rn):=hc0.1.1;have hrc:=hc0.1.2.1;have hrm:=hc0.1.2.2.1;unfold maxLen at hrm;have HFIT:Hid (∀x∈ruls xs,Spec.fit x=true):=(File.gw hk).2.2.1
 have hrn:rn<=200:=by
  have h:=(File.gw hk).2.1;have h2:(ruls xs).length<=200:=h;rw [av,HLX.out] at h2;exact h2
 have hnums:Img.flat (Img.costNums (Cw.c ⟨(m:Int),(l:Int),(o:Int),(t:Int),ra,rn,rcap,xs⟩))=Img.flat [m,l,o,t]++(Var.enc rn++Img.flat (Img.rulesNums (ruls xs))):=by
  show Img.flat (([(m:Int),(l:Int),(o:Int),(t:Int)].map Int.toNat)++(ruls xs).length::Img.rulesNums (ruls xs))=_;rw [av,HLX.out,Img.flat_app,Img.flat_cons];simp only [List.map_cons,List.map_nil,Int.toNat_natCast]
 rw [hnums] at hb ⊢;obtain ⟨Z1,hZ1⟩:∃Z,Z=b++Img.flat [m,l,o,t]:=⟨_,rfl⟩;obtain ⟨Z2,hZ2⟩:∃Z,Z=Z1++Var.enc rn:=⟨_,rfl⟩
 have hZ:b++(Img.flat [m,l,o,t]++(Var.enc rn++Img.flat (Img.rulesNums (ruls xs))))=Z2++Img.flat (Img.rulesNums (ruls xs)):=by
  rw [hZ2,hZ1];simp only [List.append_assoc]
 rw [hZ] at hb ⊢;have HB:=hdq hb
 have HL1:Hid ((b++Img.flat [m,l,o,t]).length<=200000000000):=by
  show _<=_;rw [<-hZ1];rw [List.length_append,hZ2,List.length_append] at hb;omega
 have HL2:Hid ((Z1++Var.enc rn).length<=200000000000):=by
  show _<=_;rw [<-hZ2];rw [List.length_append] at hb;omega
 have HZ1:=hdq hZ1;have HZ2:=hdq hZ2;have HSZ:=hdq hB;obtain ⟨WB,hWB⟩:∃WB,WB=w.alloc (.cells #[.int .u64 (m:Int),.int .u64 (l:Int),.int .u64 (o:Int),.int .u64 (t:Int),.slice ra rn rcap] 26):=⟨_,rfl⟩;have KB:Hid (Keeps B w WB/\WB.heap.size=w.heap.size+1):=by rw [hWB];exact ⟨Keeps.alloc hB _,by simp⟩
 have HWB:Hid (∀W,Keeps B WB W->W.cell? ⟨w.heap.size,0,none⟩=some (.int .u64 (m:Int))/\W.cell? ⟨w.heap.size,1,none⟩=some (.int .u64 (l:Int))/\W.cell? ⟨w.heap.size,2,none⟩=some (.int .u64 (o:Int))/\W.cell? ⟨w.heap.size,3,none⟩=some (.int .u64 (t:Int))/\W.cell? ⟨w.heap.size,4,none⟩=some (.slice ra rn rcap)):=by
  intro W hW;rw [hWB] at hW;refine ⟨hW.cell (han w _) (by decide),hW.cell (han w _) (by decide),hW.cell (han w _) (by decide),hW.cell (han w _) (by decide),hW.cell (han w _) (by decide)⟩
 have OB:Hid (WB.ownsRow B 5 1 (.slice a n1 cap) n1 (u8s b)):=by rw [hWB];exact af ho ((Below.refl _ w).alloc lrf _) lrf
 have hbx:(w.alloc (.cells #[.int .u64 (m:Int),.int .u64 (l:Int),.int .u64 (o:Int),.int .u64 (t:Int),.slice ra rn rcap] 26)).alloc (.cells #[.int .u64 (m:Int),.int .u64 (l:Int),.int .u64 (o:Int),.int .u64 (t:Int)] 23)=WB.alloc (.cells #[.int .u64 (m:Int),.int .u64 (l:Int),.int .u64 (o:Int),.int .u64 (t:Int)] 23):=by rw [hWB]
 have HP1:=hdq (aum B a n1 cap b m l o t (w.heap.size+1) WB (WB.alloc (.cells #[.int .u64 (m:Int),.int .u64 (l:Int),.int .u64 (o:Int),.int .u64 (t:Int)] 23)) (af OB.out ((Below.refl _ WB).alloc lrf _) lrf) (Keeps.refl _ _) KB.out.2.symm HM9.out HL1.out (by have:=KB.out.2;simp;omega))
 rw [<-hbx] at HP1;have HBX:=hdq hbx;have HLB:Hid (B<=WB.heap.size):=by show _<=_;have:=KB.out.2;omega
 clear hc hc0 hk hb hB hZ hZ1 hZ2 hnums hm0 hm1 hl0 hl1 ho0 ho1 ht0 ht1 hWB hbx ho OB;show Calls _ _ #[.slice a n1 cap,.agg #[.int .u64 (m:Int),.int .u64 (l:Int),.int .u64 (o:Int),.int .u64 (t:Int),.slice ra rn rcap]] w _;go_enter Tryz.func48,Tryz.ntmps48
 go_wp2_with (first
  | (go_at_call 95;refine HP1.out.mono ?_;rintro e w1 ⟨⟨a1,n1',c1,rfl,ho1⟩,hk1⟩;rw [HBX.out] at hk1;rw [<-HZ1.out] at ho1;have K1:Hid (Keeps B WB w1):=(Keeps.alloc HLB.out _).trans hk1;have O1:=hdq ho1;obtain ⟨k0,k1,k2,k3,k4⟩:=HWB.out _ K1.out;have Z1':Hid (B<=w1.heap.size):=Nat.le_trans HLB.out K1.out.size;clear ho1 hk1)
  | fail)
 have hkk:=And.intro k0 (And.intro k1 (And.intro k2 k3));clear k0 k1 k2 k3 hkk;have HP2:=hdq (ry B a1 n1' c1 Z1 rn w1.heap.size w1 (w1.alloc (.cells #[.int .i64 (rn:Int)] 3)) (af O1.out ((Below.refl _ w1).alloc lrf _) lrf) (Keeps.refl _ _) rfl (by omega) HL2.out (Nat.le_trans Z1'.out (by simp)))
 clear HP1 O1
 go_wp2_with (first
  | (go_at_call 96;refine HP2.out.mono ?_;rintro e w2 ⟨⟨a2,n2,c2,rfl,ho2⟩,hk2⟩;rw [<-HZ2.out] at ho2;have K2:Hid (Keeps B WB w2):=K1.out.trans ((Keeps.alloc Z1'.out _).trans hk2);have O2:=hdq ho2;obtain ⟨-,-,-,-,k5⟩:=HWB.out _ K2.out;clear ho2 hk2)
  | fail)
 clear HP2 k4 K1 Z1';go_wp2;go_loopw [0,27] (fun bv ix wr=>∃(i k c:Nat) (a:Option Addr),bv=.slice a k c/\ix=.int .i64 (i:Int)/\i<=rn/\Hid (wr.ownsRow B 5 1 (.slice a k c) k (u8s (Z2++Img.flat (Img.rulesNums ((ruls xs).take i)))))/\Hid (Keeps B WB wr)) (fun _ ix _=>rn-(intOf ix).toNat)
 case atStart=>exact ⟨0,n2,c2,a2,rfl,rfl,Nat.zero_le _,by show World.ownsRow _ _ _ _ _ _ _;simpa [Img.flat,Img.rulesNums] using O2.out,K2.out⟩
 case round =>
  obtain ⟨i,k,c,a',rfl,rfl,hi,HX,HK⟩:=hrel;have HKW:Hid (Keeps B w wr):=KB.out.1.trans HK.out;by_cases hlt:i<rn
  ·obtain ⟨rb,ro,la,ln,lc,L,qa,qn,qc,R,C,rfl,hrb,e1,e2,e3,hsL,hsR,hC0,hC9,hg⟩:=(HRS.out _ HKW.out).one i hlt;have hat:(ruls xs).getD i Rul.no=⟨L,R,C⟩:=by rw [fh,hg];rfl
   have hnx:=aba (by rw [av,HLX.out];exact hlt) _ hat
   have hfit:=Img.qx (HFIT.out ⟨L,R,C⟩ (by rw [<-hat];rw [show (ruls xs).getD i Rul.no=(ruls xs)[i]'(by rw [av,HLX.out];exact hlt) from by simp [av,HLX.out,hlt]];exact List.getElem_mem _))
   have HFL:=hdq (Img.ip hfit.1);have HFR:=hdq (Img.ip hfit.2.1)
   have HGD:Hid (∀W,Keeps B w W->Sl .i64 W la ln lc L/\Sl .i64 W qa qn qc R):=by
    intro W hW;have h:=(HRS.out W hW).good i;rw [hg] at h;exact ⟨h.1,h.2.1⟩
   obtain ⟨C,rfl⟩:∃m:Nat,C=(m:Int):=⟨C.toNat,by omega⟩
   have hC9':C<18446744073709551616:=by omega
   have hli:(i:Int)<(rn:Int):=by omega
   obtain ⟨Y0,hY0⟩:∃Y,Y=Z2++Img.flat (Img.rulesNums ((ruls xs).take i)):=⟨_,rfl⟩;obtain ⟨Y1,hY1⟩:∃Y,Y=Y0++Img.flat (Img.sideNums L):=⟨_,rfl⟩;obtain ⟨Y2,hY2⟩:∃Y,Y=Y1++Img.flat (Img.sideNums R):=⟨_,rfl⟩
   have hY:Z2++Img.flat (Img.rulesNums ((ruls xs).take (i+1)))=Y2++Var.enc C:=by
    rw [hnx,Img.flat_app,hY2,hY1,hY0,Img.ruleNums];simp only [Img.flat_app,Img.xu,List.append_assoc,Int.toNat_natCast]
   have hyl:(Y2++Var.enc C).length<=200000000000:=by
    rw [<-hY];exact Nat.le_trans (aej (i+1) Z2) HB.out
   have HY:=hdq hY;have HY1:=hdq hY1;have HY2:=hdq hY2;have HYL:=hdq hyl;have HYL2:Hid ((Y1++Img.flat (Img.sideNums R)).length<=200000000000):=by show _<=_;rw [<-hY2];rw [List.length_append] at hyl;omega
   have HYL1:Hid ((Y0++Img.flat (Img.sideNums L)).length<=200000000000):=by show _<=_;rw [<-hY1];have h:=HYL2.out;rw [List.length_append] at h;omega
   have HX0:Hid (wr.ownsRow B 5 1 (.slice a' k c) k (u8s Y0)):=by rw [hY0];exact HX.out
   have HSZR:Hid (B<=wr.heap.size):=Nat.le_trans HLB.out HK.out.size;obtain ⟨WR,hWR⟩:∃WR,WR=wr.alloc (.cells #[.slice la ln lc,.slice qa qn qc,.int .u64 (C:Int)] 74):=⟨_,rfl⟩;have KR:Hid (Keeps B wr WR):=by rw [hWR];exact Keeps.alloc HSZR.out _
   have HWR:Hid (∀W,Keeps B WR W->W.cell? ⟨wr.heap.size,0,none⟩=some (.slice la ln lc)/\W.cell? ⟨wr.heap.size,1,none⟩=some (.slice qa qn qc)/\W.cell? ⟨wr.heap.size,2,none⟩=some (.int .u64 (C:Int))):=by
    intro W hW;rw [hWR] at hW;exact ⟨hW.cell (han wr _) (by decide),hW.cell (han wr _) (by decide),hW.cell (han wr _) (by decide)⟩
   have OR:Hid (WR.ownsRow B 5 1 (.slice a' k c) k (u8s Y0)):=by rw [hWR];exact af HX0.out ((Below.refl _ wr).alloc lrf _) lrf
   have HP3:=hdq (aay B a' k c Y0 la ln lc L WR OR.out (fun w1 hk=>(HGD.out w1 (HKW.out.trans (KR.out.trans hk))).1) (fun z hz=>(HFL.out z hz).1) HYL1.out (Nat.le_trans HSZR.out KR.out.size));rw [hWR] at HP3;have HWRE:=hdq hWR;clear hg hat hnx hfit hsL hsR hY hY0 hY1 hY2 hyl hWR HX HX0;go_wp2_with fail;refine HP3.out.mono ?_;rintro e w3 ⟨⟨a3,n3,c3,rfl,ho3⟩,hk3⟩;rw [<-HWRE.out] at hk3;rw [<-HY1.out] at ho3;have K3:Hid (Keeps B WR w3):=hk3;have O3:=hdq ho3;obtain ⟨-,k1,k2⟩:=HWR.out _ K3.out;clear ho3 hk3;have hkd:=k2;clear hkd k2;have HP4:=hdq (aay B a3 n3 c3 Y1 qa qn qc R w3 O3.out (fun w1 hk=>(HGD.out w1 (HKW.out.trans (KR.out.trans (K3.out.trans hk)))).2) (fun z hz=>(HFR.out z hz).1) HYL2.out (Nat.le_trans HSZR.out (Nat.le_trans KR.out.size K3.out.size)));clear HP3 O3;go_wp2_with fail;refine HP4.out.mono ?_;rintro e w4 ⟨⟨a4,n4,c4,rfl,ho4⟩,hk4⟩;rw [<-HY2.out] at ho4;have K4:Hid (Keeps B WR w4):=K3.out.trans hk4;have O4:=hdq ho4;obtain ⟨-,-,k3⟩:=HWR.out _ K4.out;have Z4:Hid (B<=w4.heap.size):=Nat.le_trans HSZR.out (Nat.le_trans KR.out.size K4.out.size);clear ho4 hk4;clear HP4 k1 K3;have HP5:=hdq (aui B a4 n4 c4 Y2 C w4.heap.size w4 (w4.alloc (.cells #[.int .u64 (C:Int)] 23)) (af O4.out ((Below.refl _ w4).alloc lrf _) lrf) (Keeps.refl _ _) rfl hC9' HYL.out (Nat.le_trans Z4.out (by simp)))
   clear O4
   go_wp2_with (first
    | (go_at_call 95;refine HP5.out.mono ?_;rintro e w5 ⟨⟨a5,n5,c5,rfl,ho5⟩,hk5⟩;rw [<-HY.out] at ho5;have K5:Hid (Keeps B WB w5):=HK.out.trans (KR.out.trans (K4.out.trans ((Keeps.alloc Z4.out _).trans hk5)));have O5:=hdq ho5;clear ho5 hk5)
    | fail)
   clear HP5 k3 K4 Z4;go_roundw
   case rel=>exact ⟨i+1,n5,c5,a5,rfl,by go_num,by omega,O5.out,K5.out⟩
   case measure=>simp [intOf];omega
  ·obtain rfl:i=rn:=by omega
   have htk:(ruls xs).take i=ruls xs:=tol (by rw [av,HLX.out];exact Nat.le_refl _)
   have HXF:Hid (wr.ownsRow B 5 1 (.slice a' k c) k (u8s (Z2++Img.flat (Img.rulesNums (ruls xs))))):=by
    have h:=HX.out
    rwa [htk] at h
   clear htk HX;go_wp2;go_ret;exact ⟨⟨a',k,c,rfl,HXF.out⟩,HKW.out⟩

end
section
open Go.RowKit

theorem adq (x:Iw) (w:World) (hx:x.Good w) :
 Calls Tryz.prog 21 #[x.v] w fun e w'=>WriteIs w' e x.im/\Below w.heap.size w w':=by
 have hmx:Tryz.prog.follows .mixedOrders=true:=by kernel_rfl
 obtain ⟨sa,sn,sc,xs,cm,cl,co,ct,ra,rn,rcap,rs⟩:=x;have HSS:Hid (Ss w sa sn sc xs):=hx.1;have HC:Hid (Cw.Good w ⟨cm,cl,co,ct,ra,rn,rcap,rs⟩):=hx.2;have hnc:=HSS.out.2.1;have hcm:=HSS.out.2.2.1;unfold maxLen at hcm;have HLX:Hid (xs.length=sn):=HSS.out.1;obtain ⟨W0,hW0⟩:∃W0,W0=w.alloc (.cells #[.slice sa sn sc,.int .u64 cm,.int .u64 cl,.int .u64 co,.int .u64 ct,.slice ra rn rcap] 28):=⟨_,rfl⟩
 have HBX0:Hid (Below w.heap.size w W0/\W0.heap.size=w.heap.size+1):=by
  rw [hW0];exact ⟨(Below.refl _ w).alloc lrf _,by simp⟩
 have HBOX:Hid (∀W,Below (w.heap.size+1) W0 W->W.cell? ⟨w.heap.size,0,none⟩=some (.slice sa sn sc)/\W.cell? ⟨w.heap.size,1,none⟩=some (.int .u64 cm)/\W.cell? ⟨w.heap.size,2,none⟩=some (.int .u64 cl)/\W.cell? ⟨w.heap.size,3,none⟩=some (.int .u64 co)/\W.cell? ⟨w.heap.size,4,none⟩=some (.int .u64 ct)/\W.cell? ⟨w.heap.size,5,none⟩=some (.slice ra rn rcap)):=by
  intro W hW;have e:∀j,W.cell? ⟨w.heap.size,j,none⟩=W0.cell? ⟨w.heap.size,j,none⟩:=fun j=>hW.cell (p:=⟨w.heap.size,j,none⟩) (by show w.heap.size<w.heap.size+1;omega)
  rw [e,e,e,e,e,e,hW0];simp only [World.cell?_alloc_mark];exact ⟨rfl,rfl,rfl,rfl,rfl,rfl⟩
 have HSS0:Hid (∀W,Below (w.heap.size+1) W0 W->Ss W sa sn sc xs):=fun W hW=>HSS.out.below (HBX0.out.1.trans (hW.mono (by omega))) lrf
 have HC0:Hid (∀W,Below (w.heap.size+1) W0 W->Cw.Good W ⟨cm,cl,co,ct,ra,rn,rcap,rs⟩):=fun W hW=>HC.out.below (HBX0.out.1.trans (hW.mono (by omega))) lrf
 obtain ⟨d1,hd1⟩:∃d,Tri.check (sts xs)=d:=⟨_,rfl⟩;obtain ⟨d2,hd2⟩:∃d,File.check (Cw.c ⟨cm,cl,co,ct,ra,rn,rcap,rs⟩)=d:=⟨_,rfl⟩;have HD1:=hdq hd1;have HD2:=hdq hd2;clear hx hd1 hd2;show Calls _ _ #[.agg #[.slice sa sn sc,.int .u64 cm,.int .u64 cl,.int .u64 co,.int .u64 ct,.slice ra rn rcap]] w _;obtain ⟨k0,k1,k2,k3,k4,k5⟩:=HBOX.out W0 (Below.refl _ _);go_enter Tryz.func21,Tryz.ntmps21;rw [hW0] at k0;go_wp2_with fail;rw [<-hW0];refine (ey _ _ _ xs d1 _ (HSS0.out _ (Below.refl _ _)) HD1.out).mono ?_;rintro e w1 ⟨rfl,hb1⟩;have B1:Hid (Below (w.heap.size+1) W0 w1):=by rw [<-HBX0.out.2];exact hb1
 clear k0 k1 k2 k3 k4 k5;obtain ⟨k0,k1,k2,k3,k4,k5⟩:=HBOX.out _ B1.out;have BW1:Hid (Below w.heap.size w w1):=HBX0.out.1.trans (B1.out.mono (by omega))
 clear hb1 hW0
 cases d1 with
 | false =>
   go_wp2;go_ret2;exact ⟨.inl ⟨HD1.out,rfl⟩,BW1.out⟩
 | true =>
   go_wp2_with fail;refine (nv ⟨cm,cl,co,ct,ra,rn,rcap,rs⟩ d2 _ (HC0.out _ B1.out) HD2.out).mono ?_;rintro e w2 ⟨rfl,hb2⟩;have B2:Hid (Below (w.heap.size+1) W0 w2):=B1.out.trans (hb2.mono (by rw [<-HBX0.out.2];exact B1.out.size))
   have BW2:Hid (Below w.heap.size w w2):=HBX0.out.1.trans (B2.out.mono (by omega))
   clear hb2 B1 k0 k1 k2 k3 k4 k5
   cases d2 with
   | false =>
     go_wp2;go_ret2;exact ⟨.inr (.inl ⟨HD1.out,HD2.out,rfl⟩),BW2.out⟩
   | true =>
     have HPL:=hdq HC.out.plain;have hbl:=Img.ahn (x:=⟨sts xs,Cw.c ⟨cm,cl,co,ct,ra,rn,rcap,rs⟩⟩) HPL.out ⟨HD1.out,HD2.out⟩;obtain ⟨Z,hZ⟩:∃Z,Z=Img.body ⟨sts xs,Cw.c ⟨cm,cl,co,ct,ra,rn,rcap,rs⟩⟩:=⟨_,rfl⟩;rw [<-hZ] at hbl
     have hZb:Z=(Var.enc sn++Img.flat (Img.stsNums 0 (sts xs)))++Img.flat (Img.costNums (Cw.c ⟨cm,cl,co,ct,ra,rn,rcap,rs⟩)):=by
      rw [hZ,Img.body,Img.nums];show Img.flat ((sts xs).length::Img.stsNums 0 (sts xs)++_)=_;rw [ar,HLX.out,Img.flat_app,Img.flat_cons]
     have HZB:=hdq hZb;have HZ:=hdq hZ
     have HLEN:Hid ((Var.enc sn++Img.flat (Img.stsNums 0 (sts xs))).length<=200000000000):=by
      show _<=_;rw [hZb,List.length_append] at hbl;omega
     have HLZ:Hid ((Var.enc sn++Img.flat (Img.stsNums 0 (sts xs))++Img.flat (Img.costNums (Cw.c ⟨cm,cl,co,ct,ra,rn,rcap,rs⟩))).length<=200000000000):=by
      show _<=_;rw [<-hZb];omega
     have HBL:=hdq hbl;have HWZ:Hid (∀z∈Z,(Lit.int .u8 z).wf=true):=by rw [hZ];exact Img.awb _
     have HSW:Hid (w.heap.size+1<=w2.heap.size):=by show _<=_;rw [<-HBX0.out.2];exact B2.out.size
     have HD:Hid (Below (w.heap.size+1) W0 w2.drew):=⟨B2.out.os,B2.out.tape,B2.out.output,B2.out.size,B2.out.block⟩;clear hZ hZb hbl;go_wp2;refine wp_region_held_drew (S:=(fun W=>W.cell? ⟨w.heap.size,0,none⟩=some (.slice sa sn sc)/\W.cell? ⟨w.heap.size,1,none⟩=some (.int .u64 cm)/\W.cell? ⟨w.heap.size,2,none⟩=some (.int .u64 cl)/\W.cell? ⟨w.heap.size,3,none⟩=some (.int .u64 co)/\W.cell? ⟨w.heap.size,4,none⟩=some (.int .u64 ct)/\W.cell? ⟨w.heap.size,5,none⟩=some (.slice ra rn rcap))) (by kernel_rfl) (by first|(first|exact K9.out|exact K4.out|exact K3.out|exact HBOX.out _ HD.out|exact HBOX.out _ B2.out)|((try dsimp only);first|exact K9.out|exact K4.out|exact K3.out|exact HBOX.out _ HD.out|exact HBOX.out _ B2.out)) (fun hHeld=>?_)
     refine t_h 0 ?_;refine t_h 1 ?_;refine t_h 3 ?_;refine t_h 4 ?_;refine r_h 2 (fun K hK=>?_);go_simp;refine (ahp sa sn sc xs _ (HSS0.out _ HD.out) HD1.out HLEN.out).mono ?_;rintro e w3 ⟨⟨a3,n3,c3,rfl,ho3⟩,hk3⟩;have O3:Hid (w3.ownsRow w2.heap.size 5 1 (.slice a3 n3 c3) n3 (u8s (Var.enc sn++Img.flat (Img.stsNums 0 (sts xs))))):=ho3;have Z3:Hid (w2.heap.size<=w3.heap.size):=hk3.size;have B3:Hid (Below (w.heap.size+1) W0 w3):=HD.out.trans (hk3.low.mono HSW.out);have K3:=hdq (HBOX.out _ B3.out);clear ho3 hk3;refine k_h hK (by first|(first|exact K9.out|exact K4.out|exact K3.out|exact HBOX.out _ HD.out|exact HBOX.out _ B2.out)|(dsimp only;first|exact K9.out|exact K4.out|exact K3.out|exact HBOX.out _ HD.out|exact HBOX.out _ B2.out)) (fun hHeld=>?_)
     clear hK K;refine r_h 5 (fun K hK=>?_);go_simp;refine (aiv w2.heap.size a3 n3 c3 _ ⟨cm,cl,co,ct,ra,rn,rcap,rs⟩ w3 O3.out (fun w1 hk=>HC0.out _ (B3.out.trans (hk.low.mono HSW.out))) HD2.out HLZ.out Z3.out).mono ?_;rintro e w4 ⟨⟨a4,n4,c4,rfl,ho4⟩,hk4⟩;rw [<-HZB.out] at ho4;have hn4:n4<=200000000000:=by rw [<-vk ho4];have:=HBL.out;omega
     have S4:Hid (Sl .u8 w4 a4 n4 c4 Z):=Sl.of_owns ho4 HWZ.out (vk ho4);have B4:Hid (Below (w.heap.size+1) W0 w4):=B3.out.trans (hk4.low.mono HSW.out);have K4:=hdq (HBOX.out _ B4.out);clear ho4 hk4;refine k_h hK (by first|(first|exact K9.out|exact K4.out|exact K3.out|exact HBOX.out _ HD.out|exact HBOX.out _ B2.out)|(dsimp only;first|exact K9.out|exact K4.out|exact K3.out|exact HBOX.out _ HD.out|exact HBOX.out _ B2.out)) (fun hHeld=>?_)
     clear hK K;refine r_h 6 (fun K hK=>?_);go_simp;refine (aue a4 n4 c4 Z w4 S4.out hn4).mono ?_;intro e w9 h9;obtain ⟨a9,n9,c9,rfl,-,hs9,-,hb9⟩:=h9.sl (aud (Crc.akm S4.out.bytes));rw [HZ.out] at hs9;have X9:=hdq hs9;have B9:Hid (Below (w.heap.size+1) W0 w9):=B4.out.trans (hb9.mono (by rw [<-HBX0.out.2];exact B4.out.size))
     have K9:=hdq (HBOX.out _ B9.out);clear h9 hs9 hb9;refine k_h hK (by first|(first|exact K9.out|exact K4.out|exact K3.out|exact HBOX.out _ HD.out|exact HBOX.out _ B2.out)|(dsimp only;first|exact K9.out|exact K4.out|exact K3.out|exact HBOX.out _ HD.out|exact HBOX.out _ B2.out)) (fun hHeld=>?_)
     clear hK K;refine t_h 7 ?_;refine t_h 8 ?_;refine wpAnyH_done (by kernel_rfl) ?_ _
     have BW9:Hid (Below w.heap.size w w9):=HBX0.out.1.trans (B9.out.mono (by omega))
     clear O3 Z3 B3 K3 S4 B4 K4 B9 K9 HD;go_wp2;go_ret2;exact ⟨.inr (.inr ⟨HD1.out,HD2.out,a9,n9,c9,rfl,X9.out⟩),BW9.out⟩

end
end Go.Proofs.YtkiamgcpcneggaaGreat
