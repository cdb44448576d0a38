import Derived.Test.YtkiamgcpcneggaaGreatPackW
import Derived.Test.YtkiamgcpcneggaaGreatPackAH
set_option linter.all false
set_option maxRecDepth 100000
set_option maxHeartbeats 12800000
namespace Go.Proofs.YtkiamgcpcneggaaGreat
section
open Go.RowKit Go.Shelf
attribute [local go_sem] Oper.semAt_some

abbrev Bi (zs:List Int):={ x:Nat × Int // x.1<zs.length/\zs.getD x.1 0=x.2 }
def BackI (zs:List Int) (l:List (Bi zs)):Prop:=∀j,∀h:j<l.length,(l[j]).1.1+j+1=zs.length
theorem BackI.add {zs:List Int} {l:List (Bi zs)} (h:BackI zs l) (x:Bi zs) (hx:x.1.1+l.length+1=zs.length):BackI zs (l++[x]):=by
 intro j hj;by_cases hl:j<l.length
 ·rw [List.getElem_append_left hl];exact h j hl
 ·have:j=l.length:=by simp at hj;omega
  subst this;simpa using hx
theorem BackI.last {zs:List Int} {l:List (Bi zs)} {x:Bi zs} (h:BackI zs (l++[x])):x.1.1+l.length+1=zs.length:=by
 have:=h l.length (by simp)
 rw [List.getElem_append_right lrf] at this;simpa using this
def biv {zs:List Int} (x:Bi zs):Array Value:=#[.int .i64 (x.1.1:Int),.int .i64 x.1.2]
theorem aeh (F:Fence) (n:Nat) (h7:F.fn 171) (hro:F.round=none) (hd:F.depth=none) (l B1:Nat) (a:Option Addr) (len cap:Nat) (zs:List Int) (W:World) (hs:Sl .i64 W a len cap zs) (hlm:len<=1000000)
 (J Jx:List (Bi zs)->(Nat->Prop)->World->Prop)
 (hY:∀pre x O W,BackI zs (pre++[x])->J pre O W->pre.length<len->YieldAt F (n-1) Tryz.prog l (biv x) W (AnswersR J Jx (pre++[x]) O W))
 (Rd:Nat->Prop) (hRa:∀b off,a=some ⟨b,off,none⟩->Rd b) (hR1:Rd B1)
 (O:Nat->Prop) (hRW:∀k,Rd k->k<W.heap.size) (hO:∀k,O k->¬Rd k)
 (c1:W.cell? ⟨B1,0,none⟩=some (.slice a len cap)) (h0:J [] O W) :
 CallsIn F n Tryz.prog 171 #[.func (.yield l) #[] #[],.pointer (some ⟨B1,0,none⟩)] W fun e W'=>(∃v,e=.returned v) /\
  ∃O',(∃xs:List (Bi zs),(BackI zs xs/\xs.length=len)/\J xs O' W')\/(∃pre,True/\Jx pre O' W'):=by
 have hstep:∀(O1 O3:Nat->Prop) (A B:World),Keep Rd W A->(∀k,O1 k->¬Rd k)->Keep (fun k=>¬O1 k) A B->(∀k,O3 k->O1 k\/A.heap.size<=k/\k<B.heap.size)->Keep Rd W B/\(∀k,O3 k->¬Rd k):=by
  intro O1 O3 A B hA h1 hB h3;refine ⟨hA.trans (hB.mono fun k _ hr ho=>h1 k ho hr),fun k hk hr=>?_⟩;rcases h3 k hk with h|h
  ·exact h1 k h hr
  ·have:=hRW k hr;have:=hA.size;omega
 have hnc:=hs.2.1;have hcm:=hs.2.2.1;unfold maxLen at hcm;have HS:=hdq hs;have HYL:Hid (zs.length=len):=hdq hs.1;have HY:=hdq hY;have HRA:=hdq hRa;have HR1:=hdq hR1;have HST2:=hdq hstep;clear hs hY hRa hR1 hRW hstep;refine callsIn_of_wp Tryz.func171 rfl h7 ?_ hro;simp only [Tryz.ntmps171,List.size_toArray,List.length_cons,List.length_nil,Nat.reduceAdd,Nat.reduceSub,Array.replicate_succ,Array.replicate_zero,List.push_toArray,List.append_toArray,List.nil_append,List.cons_append]
 gi_wp2
 gi_loopw [3] (fun ix wr=>∃(i:Nat) (pre:List (Bi zs)) (O1:Nat->Prop),i<=len/\pre.length+i=len/\ix=.int .i64 ((i:Int)-1)/\Hid (BackI zs pre)/\Hid (J pre O1 wr)/\Hid (Keep Rd W wr)/\Hid (∀k,O1 k->¬Rd k)) (fun ix _=>(intOf ix+1).toNat)
 case atStart=>exact ⟨len,[],O,Nat.le_refl _,by simp,by go_num,(by intro j hj;simp at hj),h0,Keep.refl _ _,hO⟩
 case round =>
  obtain ⟨i',pre,O1,hil,hpl,rfl,HBK,HJ,HK,HO1⟩:=hrel;have hk1:=HK.out.cell c1 HR1.out;by_cases hpos:0<i'
  ·obtain ⟨i,rfl⟩:∃i,i'=i+1:=⟨i'-1,by omega⟩
   obtain ⟨b,o,rfl,hb1,hc0⟩:=(HS.out.keep HK.out HRA.out).at (by omega)
   have hc1:=hc0 i (by omega)
   obtain ⟨z,hz⟩:∃z,zs.getD i 0=z:=⟨_,rfl⟩;rw [hz] at hc1;have hi1:((i+1:Nat):Int)-1=(i:Int):=by omega
   rw [hi1];have hi0:(0:Int)<=(i:Int):=by omega
   have hilz:(i:Int)<(len:Int):=by omega
   obtain ⟨x,hxe⟩:∃x:Bi zs,x.1=(i,z):=⟨⟨(i,z),by show i<zs.length;rw [HYL.out];omega,hz⟩,rfl⟩
   have hbk:BackI zs (pre++[x]):=HBK.out.add x (by rw [hxe,HYL.out];show i+pre.length+1=len;omega)
   have hxv:biv x=#[.int .i64 (i:Int),.int .i64 z]:=by unfold biv;rw [hxe]
   obtain ⟨fn,tmps,assign,body,hy,hR⟩:=HY.out pre x O1 wr hbk HJ.out (by omega)
   rw [hxv] at hy;have HBK2:=hdq hbk;clear hc0 hz hxe hxv hbk hb1
   gi_wp2
   refine hR.mono ?_;rintro e W3 ⟨O3,hk3,ho3,(⟨rfl,hJ3⟩|⟨rfl,hJx3⟩)⟩
   all_goals have hst:=HST2.out O1 O3 _ _ HK.out HO1.out hk3 ho3
   ·gi_wp2
    go_roundw
    case rel=>exact ⟨i,pre++[x],O3,by omega,by simp;omega,by go_num,HBK2.out,hJ3,hst.1,hst.2⟩
    case measure=>simp [intOf]
   ·gi_wp2
    refine bodyPost_ret (results_none rfl _ _ _) rfl ?_;exact ⟨⟨_,rfl⟩,O3,.inr ⟨pre++[x],trivial,hJx3⟩⟩
  ·obtain rfl:i'=0:=by omega
   gi_wp2
   go_end0;exact ⟨⟨_,rfl⟩,O1,.inl ⟨pre,⟨HBK.out,by omega⟩,HJ.out⟩⟩
theorem uo (F:Fence) (n:Nat) (h5:F.fn 145) (hro:F.round=none) (a:Option Addr) (len cap:Nat) (w:World) :
 CallsIn F n Tryz.prog 145 #[.slice a len cap] w fun e w'=>e=.returned (.func (.func 171) #[] #[.pointer (some ⟨w.heap.size,0,none⟩)])/\w'=w.alloc (.cells #[.slice a len cap] 51):=by
 refine callsIn_of_wp Tryz.func145 rfl h5 ?_ hro;simp only [Tryz.ntmps145,List.size_toArray,List.length_cons,List.length_nil,Nat.reduceAdd,Nat.reduceSub,Array.replicate_succ,Array.replicate_zero,List.push_toArray,List.append_toArray,List.nil_append,List.cons_append]
 gi_wp2
 go_ret;exact ⟨rfl,rfl⟩
theorem qf (F:Fence) (n:Nat) (hfn:∀f,F.fn f) (hro:F.round=none) (hd:F.depth=none) (B1:Nat) (a:Option Addr) (len cap:Nat) (zs:List Int) (w:World) (hs:Sl .i64 w a len cap zs) (hlm:len<=1000000)
 (Rd:Nat->Prop) (hRa:∀b off,a=some ⟨b,off,none⟩->Rd b) (hR1:Rd B1) (hRw:∀k,Rd k->k<w.heap.size) (c1:w.cell? ⟨B1,0,none⟩=some (.slice a len cap)) :
 IterR F n Tryz.prog 171 #[.pointer (some ⟨B1,0,none⟩)] (biv (zs:=zs)) Rd (BackI zs) (fun _ _=>True) (fun xs=>BackI zs xs/\xs.length=len) (fun _=>True) len w:=by
 intro l J Jx O W hW hO _ _ hY h0;exact aeh F n (hfn _) hro hd l B1 a len cap zs W (hs.keep hW hRa) hlm J Jx (fun pre x O W hT hj hl=>hY pre x O W hT trivial hj hl) Rd hRa hR1 O (fun k hk=>Nat.lt_of_lt_of_le (hRw k hk) hW.size) (fun k hk=>(hO k hk).1) (hW.cell c1 hR1) h0
end
section
theorem z22 {P:Prop} (h:P:=by
 refine ⟨(HTEL.out.keep hK7).mono fun k' h=>?_,hroom,HJ.out _ _ _ _ h3 ((Keep.of_below hb7).mono fun k' hk' _=>hk'),?_,fun k' h h'=>?_,fun h=>?_,fun h=>?_,by omega,by omega,fun k' h=>?_,fun k' h=>?_⟩
 ·rw [hK'];exact ⟨.inl h,by have:=(hKlt k' h).1;omega⟩
 ·rw [HPJ.out,<-HBACK.out,<-hL0.out];exact ul HC.out k (by rw [HZL.out];omega) (by rw [HYK.out];omega)
 ·rw [hK'] at h';rcases h'.1 with e|e
  ·have e9:=e;rw [HKD.out] at e9;rcases h5 k' h with e2|e2
   ·exact e9.1.elim (fun e=>(HO.out k' e2).1 e) (fun e=>by have:=(HO.out k' e2).2;omega)
   ·omega
  ·rcases h5 k' h with e2|e2
   ·have:=(HO.out k' e2).2;omega
   ·omega
 ·rw [hK'] at h;exact h.1.elim (fun e=>(hKlt R e).2 rfl) (fun e=>by omega)
 ·exact (h5 R h).elim (fun e=>by have:=(HO.out R e).2;omega) (fun e=>by omega)
 ·rw [hK'] at h;exact h.2
 ·exact (h5 k' h).elim (fun e=>by have:=(HO.out k' e).2;omega) (fun e=>by omega)):P:=h
theorem z23 {P:Prop} (h:P:=by
 rintro D xsd U X hD hUD ⟨hxs1,hxs2⟩ ⟨O1,preJ,q,h1,h2,h3,h4,h5,h6,h7,h8⟩ hK;have hL9:nums preJ=toldG l 0 zs:=by rw [h2,hxs2,Nat.sub_self,hL0.out]
 have kD:Keep (fun k=>k<W.heap.size\/O1 k) X (X.putObj D (.deferred none)):=Keep.putObj _ _ _ (by rintro (h|h);omega;exact hUD ((h1 D).2 (.inl h)))
 have hJ9:=HJ.out _ _ _ _ h3 kD;have HR9:=hdq (And.intro hL9 hJ9);clear h1 h2 h3 h4 h5 h6 hL9 kD hJ9
 gi_wp2
 refine ⟨by simp,.inl ⟨_,_,rfl,run_takeDeferred hK,?_⟩⟩
 exact ⟨_,results_none rfl _ _ _,⟨_,rfl⟩,O1,.inl ⟨preJ,HR9.out.1,HR9.out.2⟩⟩):P:=h
theorem z24 {P:Prop} (h:P:=by
 refine ⟨hak,?_⟩;rcases hars.2.2.2.2 with h0|⟨b',off,ha,hcs⟩
 ·exact .inl h0
 ·by_cases hz:ak=0
  ·exact .inl hz
  ·refine .inr ⟨b',off,ha,?_,hcs⟩;obtain ⟨g,cap2',cur2,e2,hB2',hh2,_⟩:=hown.2.resolve_left (by rintro ⟨_,h⟩;exact hz h)
   simp only [Value.slice.injEq] at e2;have e3:=e2.1;rw [ha] at e3;simp only [sij,Addr.mk.injEq] at e3;rw [hK']
   exact ⟨.inr (by rw [e3.1];exact hB2'),by rw [e3.1];exact (hltq hh2)⟩):P:=h
theorem z25 {P:Prop} (h:P:=by
 refine (HDS.out.keep HKN.out (fun b' off e=>⟨HDN.out b' off e,?_⟩)).keep h4 (fun b' off e=>?_)
 ·obtain ⟨b2,off2,e2,hlt2,_⟩:=HDS.out.at (by omega)
  rw [e] at e2;simp only [sij,Addr.mk.injEq] at e2;omega
 ·have:=HDN.out b' off e;obtain ⟨b2,off2,e2,hlt2,_⟩:=HDS.out.at (by omega)
  rw [e] at e2;simp only [sij,Addr.mk.injEq] at e2
  exact ⟨fun h=>by have:=(HO.out b' h).2;omega,by omega⟩):P:=h
theorem z26 {P:Prop} (h:P:=by
 rintro D c pre U X hD hUD-⟨rfl,O1,preX,h1,h2⟩ hK;have kD:Keep (fun k=>k<W.heap.size\/O1 k) X (X.putObj D (.deferred none)):=Keep.putObj _ _ _ (by rintro (h|h);omega;exact hUD (h1 D h))
 have HR9:=hdq (HJX.out _ _ _ _ h2 kD);clear h1 h2 kD
 gi_wp2
 refine ⟨by simp,.inl ⟨_,_,rfl,run_takeDeferred hK,?_⟩⟩
 exact ⟨_,results_none rfl _ _ _,⟨_,rfl⟩,O1,.inr ⟨preX,trivial,HR9.out⟩⟩):P:=h
theorem z27 {P:Prop} (h:P:=by
 obtain ⟨O1,preJ,q,h1,h2,h3,h4,h5,h6,h7,h8⟩:=HLI.out;intro k h;rw [hU0] at h;have h':=(h1 k).1 h;rcases h' with h' | h'
 ·rcases h5 k h' with h9|h9
  ·have:=(HO.out k h9).2;exact ⟨by rintro (e|e)<;>omega,by omega⟩
  ·exact ⟨by rintro (e|e)<;>omega,by omega⟩
 ·exact ⟨by rintro (e|e)<;>omega,by omega⟩):P:=h
theorem z28 {P:Prop} (h:P:=by
 have h9:zs.take q=zs.take k++(zs.take q).drop k:=by
  have:=List.take_append_drop k (zs.take q);rw [List.take_take,Nat.min_eq_left (by omega)] at this
  exact this.symm
 rw [h9] at h6
 exact h6.cut.keep (Keep.of_below hb7) (by obtain ⟨cur,hcc,_⟩:=h6.obj;exact (hltq hcc))):P:=h
theorem z29 {P:Prop} (h:P:=by
 have HF10:=hdq (HF9.out rfl);clear HT9 HF9
 gi_wp2
 obtain ⟨preX,hX⟩:=HF10.out
 exact ⟨fun k=>O9 k\/k=R,HK9.out,fun k h=>h.elim (fun h=>(HO9.out k h).imp (fun h=>(HU.out k).2 (.inl h)) id) (fun h=>.inl ((HU.out k).2 (.inr h))),rfl,O9,preX,fun k h=>.inl h,hX⟩):P:=h
theorem z30 {P:Prop} (h:P:=by
 have h:=(jl HC.out zs (i:=0) (by omega) k (by rw [Int.natCast_zero,HYK.out];omega)).1
 rw [Int.natCast_zero] at h;have e:=hx2.2;rw [HYS.out,gdq,List.getElem?_take_of_lt (by omega),<-gdq] at e
 exact ⟨uI.toNat,by omega⟩):P:=h
theorem z31 {P:Prop} (h:P:=by
 have h:=(jl HC.out zs (i:=0) (by omega) k (by rw [Int.natCast_zero,HYK.out];omega)).2
 rw [Int.natCast_zero,hway] at h;omega):P:=h
theorem z32 {P:Prop} (h:P:=by
 have h:=rj HC.out zs (i:=0) (by omega) k (by rw [Int.natCast_zero,HYK.out];omega)
 rw [Int.natCast_zero,hway] at h;omega):P:=h
theorem z33 {P:Prop} (h:P:=by
 have e:=hx2.2
 rwa [HYS.out,gdq,List.getElem?_take_of_lt (by omega),<-gdq] at e):P:=h
open Go.RowKit Go.Shelf Tri Wlk
attribute [local go_sem] Oper.semAt_some
attribute [local go_sem] iu

theorem Sl.cut {w:World} {b:Option Addr} {m cap:Nat} {zs:List Int} (h:Sl .i64 w b m cap zs) {k:Nat} (hk:k<=m):Sl .i64 w b k cap (zs.take k):=by
 obtain ⟨h1,h2,h3,h4,h5⟩:=h;refine ⟨by rw [List.length_take];omega,by omega,h3,fun z hz=>h4 z (List.mem_of_mem_take hz),?_⟩
 rcases h5 with h5|⟨g,off,ha,hc⟩
 ·exact .inl (by omega)
 ·exact .inr ⟨g,off,ha,fun i hi=>by rw [hc i (by omega)];simp [hi]⟩
theorem qg {F:Fence} {n:Nat} {w:World} {ops:Array Oper} {o:Oper} {act:Act} {K:Act->World->Prop} {Q:Exit->Act->World->Prop} {E:Prop} (hw:Region.wanted o (yielded ops act.tmps)=true) (x y:Operand) (N:Nat) (hN:N<=1000000)
 (ho:o.op=.makeSlice 51 x y) (hx:act.eval x=.int .i64 0) (hy:act.eval y=.int .i64 (N:Int)) (h:∀g w',g=w.heap.size->Room g N [] w'->(∀S,Keep S w w')->K (act.put o.dst (.slice (some ⟨g,0,none⟩) 0 N)) w') :
 if Region.wanted o (yielded ops act.tmps)=true then o.wpIn F n Tryz.prog act w K Q else E:=by
 rw [if_pos hw];obtain ⟨i0,hi,hz0,hz1,hz2⟩:=info_parts fq;obtain ⟨w',hrun,r1,r2⟩:=run_make_own (P:=Tryz.prog) w w.heap.size 51 3 i0 (.int .i64 0) 1 Tryz.underlying51 hi hz0 hz1 .i64 .i64 N (by rw [hz2];omega) (by unfold maxLen;omega) lrf
 unfold Oper.wpIn;refine ⟨by simp [Oper.about,ho],?_⟩
 rw [Oper.semAt_plain F _ _ (by rw [ho];intro c hc';cases hc')]
 simp [execOp,ho,hx,hy,hrun,Result.andThen];exact h _ w' rfl ⟨r1,by simp⟩ (fun S=>Keep.of_grownBy r2 fun r e=>by cases e)
theorem ky {F:Fence} {n:Nat} {w:World} {ops:Array Oper} {o:Oper} {act:Act} {K:Act->World->Prop} {Q:Exit->Act->World->Prop} {E:Prop} (hw:Region.wanted o (yielded ops act.tmps)=true)
 (ho:o.op=.alloc 51) (h:∀g w',g=w.heap.size->w'.heap[g]?=some (.cells #[.slice none 0 0] 51 (0,0))->(∀S,Keep S w w')->K (act.put o.dst (.pointer (some ⟨g,0,none⟩))) w') :
 if Region.wanted o (yielded ops act.tmps)=true then o.wpIn F n Tryz.prog act w K Q else E:=by
 rw [if_pos hw];unfold Oper.wpIn;refine ⟨by simp [Oper.about,ho],?_⟩
 rw [Oper.semAt_plain F _ _ (by rw [ho];intro c hc;cases hc)]
 simp only [execOp,ho];go_simp;exact h _ _ rfl (han w _) (fun S=>Keep.alloc S w _)
theorem jo {F:Fence} {m:Nat} {w:World} {ops:Array Oper} {o:Oper} {act:Act} {K:Act->World->Prop} {Q:Exit->Act->World->Prop} {E:Prop} (hw:Region.wanted o (yielded ops act.tmps)=true) (s x:Operand)
 (ho:o.op=.call { callee:=.builtin .append,args:=#[s,x],argTypes:=#[51,51] }) (R n:Nat) (hs:act.eval s=.slice (some ⟨R,0,none⟩) 0 n) (hroom:Room R n [] w)
 (b:Option Addr) (k c:Nat) (ts:List Int) (hx:act.eval x=.slice b k c) (ht:Sl .i64 w b k c ts) (hnil:b=none->c=0) (hfit:k<=n)
 (h:∀w',Room R n ts w'->Keep (fun b=>b≠R) w w'->K (act.put o.dst (.slice (some ⟨R,0,none⟩) k n)) w') :
 if Region.wanted o (yielded ops act.tmps)=true then o.wpIn F m Tryz.prog act w K Q else E:=by
 rw [if_pos hw];obtain ⟨i0,hi,hz0,hz1,hz2⟩:=info_parts fq;have hlen:=ht.1
 cases b with
 | none =>
   obtain rfl:=hnil rfl;obtain rfl:k=0:=by have:=ht.2.1;omega
   obtain rfl:ts=[]:=List.eq_nil_of_length_eq_zero hlen;have hrun:=lg (P:=Tryz.prog) (w:=w) R 51 o.type 3 i0 1 0 Tryz.underlying51 hi _ 0 [] hroom.1;unfold Oper.wpIn;refine ⟨?_,?_⟩
   ·simp [Oper.about,ho,resolve,Target.leads,Sem.run_pure]
   ·rw [Oper.semAt_plain F _ _ (by rw [ho];intro c hc';cases hc')]
    simp [execOp,ho,resolve,invoke,builtin,hs,hx,hrun,Result.andThen];exact h w hroom (Keep.refl _ _)
 | some ad =>
   obtain ⟨w',hrun,r1,r2⟩:=run_append_fits (P:=Tryz.prog) w R 51 o.type 3 i0 1 Tryz.underlying51 hi hz1 R 0 n [] hroom.1 ad k c (ah ts) (by simp [ah,hlen]) (fun j u hj=>by
    have hjl:j<ts.length:=by
     rcases Nat.lt_or_ge j ts.length with hlt|hge
     ·exact hlt
     ·simp [ah,List.getElem?_eq_none hge] at hj
    obtain ⟨g,off,e,_,hc⟩:=ht.at (by omega)
    simp only [sij] at e;subst e;have:=hc j (by omega)
    rw [show (⟨g,off,none⟩:Addr).add j=⟨g,off+j,none⟩ from by simp [Addr.add],this]
    simp [ah,hjl] at hj
    rw [<-hj];simp [hjl]) (ints_oneCell .i64 ts) (by omega)
   unfold Oper.wpIn;refine ⟨?_,?_⟩
   ·simp [Oper.about,ho,resolve,Target.leads,Sem.run_pure]
   ·rw [Oper.semAt_plain F _ _ (by rw [ho];intro c hc';cases hc')]
    simp only [Nat.zero_add,List.nil_append] at hrun r1;simp [execOp,ho,resolve,invoke,builtin,hs,hx,hrun,Result.andThen];exact h w' ⟨by rw [hlen];exact r1,ht.2.2.2.1⟩ (Keep.of_grownBy r2 fun r e=>by simp only [sij] at e;subst e;exact fun h=>h rfl)

theorem rj {l:List St} (hc:check l=true):∀(w:List Int) {i:Nat},i<l.length->∀k,k<(Wlk.along l (i:Int) w).length->(i:Int)+k<=(Wlk.along l (i:Int) w).getD k 0
 | [],i,hi,k,hk=>by
   unfold Wlk.along at hk ⊢;obtain rfl:k=0:=by simpa using hk
   simp
 | s::w,i,hi,k,hk=>by
   unfold Wlk.along at hk ⊢
   cases k with
   | zero=>simp
   | succ k =>
     rw [List.getD_cons_succ];split at hk
     ·rename_i hs;rw [if_pos hs];have:=step_lt hc hi hs;obtain ⟨u,hu⟩:∃u:Nat,(Tri.step l (i:Int) s).1=(u:Int):=⟨(Tri.step l (i:Int) s).1.toNat,by omega⟩
      rw [hu] at hk this ⊢;have:=rj hc w (i:=u) (by omega) k (by simpa using hk)
      omega
     ·simp at hk
theorem atk {l:List St} {B:Nat} {wn wr:World} {wa:Option Addr} {n wc:Nat} {outs:List Sw} (h:Al B wn wa n wc outs) (hmp:outs.map Sw.arcs=(List.range n).map fun j=>goes l j (-1)) (hpos:0<n) (sb so:Nat)
 (hfin:∀i,i<n->wr.cell? ⟨sb,so+i*2,none⟩=some (.bool (l.getD i St.no).final)) (K:Nat->Prop) (hKs:K sb) (hK:∀k,B<=k->k<wn.heap.size->K k) (hkeep:Keep (fun k=>B<=k/\k<wn.heap.size) wn wr) :
 ∃wb,wa=some ⟨wb,0,none⟩/\n<=wc/\wc<=maxLen/\Tel K l n sb so wb 0 wr:=by
 obtain ⟨wb,cap',cur,e,hB,hh,h1,h2,_⟩:=h.row.2.resolve_left (by rintro ⟨_,h⟩;omega)
 simp only [Value.slice.injEq,true_and] at e;obtain ⟨rfl,rfl⟩:=e;have hwb:=(hltq hh);refine ⟨wb,rfl,h1,h2,hfin,fun i hi=>?_,hKs,hK wb hB hwb⟩;have hlen:=h.len;have hx:outs[i]'(by omega)∈outs:=List.getElem_mem _
 obtain ⟨x,hxe⟩:∃x,x=outs[i]'(by omega):=⟨_,rfl⟩
 rw [<-hxe] at hx
 have harc:x.arcs=goes l i (-1):=by
  have:=congrArg (fun t=>t[i]?) hmp;simp only [List.getElem?_map,geg (show i<outs.length by omega),List.getElem?_range hi,Option.map_some,<-hxe] at this
  simpa using this
 have hown:=h.own x hx;have hars:=Ars.of_owns hown (h.wfs x hx) (h.lens x hx);refine ⟨x.a,x.n,x.cap,?_,hars.2.1,hars.2.2.1,?_,?_⟩
 ·refine hkeep.cell ?_ ⟨hB,hwb⟩;rw [Nat.zero_add,h.row.cellAt i (by omega)]
  simp [show i<outs.length by omega,<-hxe,Sw.s]
 ·rw [<-harc];exact h.lens x hx
 ·rcases hars.2.2.2.2 with h0|⟨b,off,ha,hc⟩
  ·exact .inl h0
  ·by_cases hz:x.n=0
   ·exact .inl hz
   ·obtain ⟨g,cap2,cur2,e2,hB2,hh2,_⟩:=hown.2.resolve_left (by rintro ⟨_,h⟩;exact hz h)
    have hbg:b=g:=by
     simp only [Sw.s,Value.slice.injEq] at e2;rw [ha] at e2;have:=e2.1;simp only [sij,Addr.mk.injEq] at this;exact this.1
    subst hbg;have hb2:=(hltq hh2);refine .inr ⟨b,off,ha,hK b hB2 hb2,fun i hi=>?_⟩;rw [<-harc];exact ⟨hkeep.cell (hc i hi).1 ⟨hB2,hb2⟩,hkeep.cell (hc i hi).2 ⟨hB2,hb2⟩⟩
theorem Tel.mono {K K':Nat->Prop} {l:List St} {n sb so wb wo:Nat} {W:World} (h:Tel K l n sb so wb wo W) (hk:∀k,K k->K' k):Tel K' l n sb so wb wo W :=
 ⟨h.fin,fun i hi=>by
  obtain ⟨a,k,c,h1,h2,h3,h4,h5⟩:=h.way i hi;refine ⟨a,k,c,h1,h2,h3,h4,?_⟩;rcases h5 with h5|⟨b,off,ha,hb,hc⟩
  ·exact .inl h5
  ·exact .inr ⟨b,off,ha,hk b hb,hc⟩,hk _ h.ks,hk _ h.kw⟩
def LoopI (J:ma) (l:List St) (zs:List Int) (O:Nat->Prop) (R len j0 m:Nat) (wr:World) (k:Nat) (U:Nat->Prop) (X:World):Prop :=
 ∃(O1:Nat->Prop) (preJ:List Wd) (q:Nat),(∀k,U k↔O1 k\/k=R)/\nums preJ=dq l zs (j0-k)/\J preJ O1 X/\Keep (fun k=>¬O k/\k≠R) wr X/\(∀k,O1 k->O k\/wr.heap.size<=k/\k<X.heap.size)/\Room R len (zs.take q) X/\j0-k<=q+1/\q<=m
theorem mj {J:ma} {l:List St} {zs:List Int} {O:Nat->Prop} {R len j0 m:Nat} {wr:World} {k:Nat} {U:Nat->Prop} {X X':World} {base base':Nat} (hJ:Stable base J) (hb:base<=base') (hw:wr.heap.size<=base') (hR:R<base') (h:LoopI J l zs O R len j0 m wr k U X) (hk:Keep (fun k=>k<base'\/U k) X X'):LoopI J l zs O R len j0 m wr k U X':=by
 obtain ⟨O1,preJ,q,h1,h2,h3,h4,h5,h6,h7,h8⟩:=h;refine ⟨O1,preJ,q,h1,h2,hJ _ _ _ _ h3 (hk.mono fun k _ h=>h.elim (fun h=>.inl (by omega)) (fun h=>.inr ((h1 k).2 (.inl h)))),h4.trans' hk fun k hk' h=>⟨h,.inl (by omega)⟩,fun k h=>(h5 k h).imp id fun h=>⟨h.1,Nat.lt_of_lt_of_le h.2 hk.size⟩,h6.keep hk (.inl hR),h7,h8⟩
def LoopX (Jx:ma) (c:Code) (U:Nat->Prop) (X:World):Prop:=c=.ret/\∃(O1:Nat->Prop) (preX:List Wd),(∀k,O1 k->U k)/\Jx preX O1 X
theorem aar {Jx:ma} {c:Code} {U:Nat->Prop} {X X':World} {base base':Nat} (hJ:Stable base Jx) (hb:base<=base') (h:LoopX Jx c U X) (hk:Keep (fun k=>k<base'\/U k) X X'):LoopX Jx c U X':=by
 obtain ⟨hc,O1,preX,h1,h2⟩:=h;exact ⟨hc,O1,preX,h1,hJ _ _ _ _ h2 (hk.mono fun k _ h=>h.elim (fun h=>.inl (by omega)) (fun h=>.inr (h1 k h)))⟩
def SeqAt (len y:Nat) (zs:List Int) (wl:World) (R rb:Nat) (wr:World):Prop :=
 wl.heap.size<=R/\wl.heap.size<=rb/\R≠rb/\Room R len (zs.take y) wr/\wr.heap[rb]?=some (.cells #[.slice (some ⟨R,0,none⟩) y len] 51 (0,0))/\Below wl.heap.size wl wr

theorem atl (F:Fence) (hF:F=Fence.wide) (n:Nat) {l:List St} (hc:check l=true) (a b:Option Addr) (len cap m cap2:Nat) (xs:List Sw) (zs:List Int) (W0 w:World) (hx:Ss W0 a len cap xs) (hxs:sts xs=l) (hz:Sl .i64 W0 b m cap2 zs) (hnil:b=none->cap2=0) (B1 B2:Nat)
 (Rd:Nat->Prop) (hR0:∀k,k<W0.heap.size->Rd k) (hR1:Rd B1) (hR2:Rd B2) (hRw:∀k,Rd k->k<w.heap.size) (hb:Below W0.heap.size W0 w) (c1:w.cell? ⟨B1,0,none⟩=some (.slice a len cap)) (c2:w.cell? ⟨B2,0,none⟩=some (.slice b m cap2)) :
 IterR F n Tryz.prog 142 #[.pointer (some ⟨B1,0,none⟩),.pointer (some ⟨B2,0,none⟩)] (fun x:Wd=>#[x.v]) Rd (fun p=>nums p <+: toldG l 0 zs) WdAt (fun p=>nums p=toldG l 0 zs) (fun _=>True) (toldG l 0 zs).length w:=by
 intro yl J Jx O W hW hO hJ hJx hY h0;have hfn:∀f,F.fn f:=by subst hF;exact fun _=>trivial
 have hro:F.round=none:=by subst hF;rfl
 have hd:F.depth=none:=by subst hF;rfl
 have hlen:l.length=len:=by rw [<-hxs,ar];exact hx.1
 have hsz:=cp hc;have hl6:len<=6001:=by omega
 obtain ⟨sb,so,rfl,hsb0,hcs0⟩:=hx.at (by omega)
 have HFIN:Hid (∀i,i<len->W0.cell? ⟨sb,so+i*2,none⟩=some (.bool (l.getD i St.no).final)):=hdq fun i hi=>by
  rw [<-hxs,eu];exact (hcs0 i hi).1
 clear hcs0;have HLE:=hdq hlen;have hcp:=hx.2.1;have hcm:=hx.2.2.1;have hmc:=hz.2.1;have hmm:=hz.2.2.1;unfold maxLen at hcm hmm;have bW:Below W0.heap.size W0 W:=hb.trans (hW.below hb.size hR0);have d1:=hW.cell c1 hR1;have d2:=hW.cell c2 hR2;have hzW:=bW.size;have hB1:B1<W.heap.size:=ay d1;have hB2:B2<W.heap.size:=ay d2;have HX:=hdq hx;have HZ:=hdq hz;have HXS:=hdq hxs;have HZL:Hid (zs.length=m):=hdq hz.1;have HNT:Hid (∀(k:Nat) (X:World),Ss X (some ⟨sb,so,none⟩) len cap xs->CallsIn F k Tryz.prog 143 #[.slice (some ⟨sb,so,none⟩) len cap,.func (.yield yl) #[] #[]] X fun e w'=>∃(da wa:Option Addr) (dc wc:Nat) (ds:List Int) (outs:List Sw),e=.returned (.agg #[.slice (some ⟨sb,so,none⟩) len cap,.slice da len dc,.slice wa len wc,.func (.yield yl) #[] #[]])/\Sl .i64 w' da len dc ds/\(∀b off,da=some ⟨b,off,none⟩->X.heap.size<=b)/\(∀j,j<len->ds.getD j 0=dp (wds l j))/\Al X.heap.size w' wa len wc outs/\outs.map Sw.arcs=(List.range len).map (fun j=>goes l j (-1))/\Below X.heap.size X w'):=hdq fun k X h=>by subst hF;exact callsIn_wide.2 (agp hc (some ⟨sb,so,none⟩) len cap yl xs X h hxs)
 have HAL:Hid (∀(k:Nat) (X:World),Ss X (some ⟨sb,so,none⟩) len cap xs->Sl .i64 X b m cap2 zs->CallsIn F k Tryz.prog 56 #[.slice (some ⟨sb,so,none⟩) len cap,.slice b m cap2] X fun e w'=>∃a' k c',e=.returned (.slice a' k c')/\(Wlk.along l 0 zs).length=k/\w'.ownsRow X.heap.size 3 1 (.slice a' k c') k (ah (Wlk.along l 0 zs))/\Below X.heap.size X w'):=hdq fun k X h h'=>by subst hF;exact callsIn_wide.2 (ate hc (some ⟨sb,so,none⟩) b len cap m cap2 xs zs X h hxs h')
 have HRW:=hdq (fun k (hk:Rd k)=>Nat.lt_of_lt_of_le (hRw k hk) hW.size)
 have HAFT:Hid (∀(k u:Nat) (s:Int) (da wa:Option Addr) (dc wc:Nat) (ds:List Int) (X:World),u<len->Ss X (some ⟨sb,so,none⟩) len cap xs->Sl .i64 X da len dc ds->(∀j,j<len->ds.getD j 0=dp (wds l j))->CallsIn F k Tryz.prog 147 #[.agg #[.slice (some ⟨sb,so,none⟩) len cap,.slice da len dc,.slice wa len wc,.func (.yield yl) #[] #[]],.int .i64 (u:Int),.int .i64 s] X
  fun e w'=>∃aa ak ac,e=.returned (.slice aa ak ac)/\(goes l u s).length=ak/\w'.ownsRow X.heap.size 95 2 (.slice aa ak ac) ak (acells (goes l u s))/\Below X.heap.size X w'):=hdq fun k u s da wa dc wc ds X hu h1 h2 h3=>by
  subst hF;refine callsIn_wide.2 ((ago hc u (by omega) s xs hxs (some ⟨sb,so,none⟩) da wa len cap len dc len wc yl ds X h1 h2 hlen.symm (fun j hj=>h3 j (by omega))).mono ?_)
  rintro e w' ⟨a',c',rfl,g1,g2⟩;exact ⟨a',_,c',rfl,rfl,g1,g2⟩
 have HBW:=hdq bW;have HCC:Hid (∀X,Below W.heap.size W X->X.cell? ⟨B1,0,none⟩=some (.slice (some ⟨sb,so,none⟩) len cap)/\X.cell? ⟨B2,0,none⟩=some (.slice b m cap2)):=hdq fun X h=>⟨by rw [h.cell (p:=⟨B1,0,none⟩) hB1];exact d1,by rw [h.cell (p:=⟨B2,0,none⟩) hB2];exact d2⟩
 have HO:=hdq hO;have HJ:=hdq hJ;have HJX:=hdq hJx;have HY:=hdq hY;have H0:=hdq h0;have HYD:Hid (∀(m:Nat) (pre:List Wd) (x:Wd) (O:Nat->Prop) (W1:World),nums (pre++[x]) <+: toldG l 0 zs->WdAt x W1->J pre O W1->YieldAt F m Tryz.prog yl #[x.v] W1 (AnswersR J Jx (pre++[x]) O W1)):=hdq fun m pre x O W1 h1 h2 h3=>Yield.anyDepth hd m (hY pre x O W1 h1 h2 h3 (by have:=h1.length_le;rw [bq,List.length_append,List.length_singleton] at this;omega))
 have hmx:Tryz.prog.follows .mixedOrders=true:=by kernel_rfl
 have HC:=hdq hc;clear hF hx hz hxs hb c1 c2 hW hO hJ hJx hY h0 bW hRw hc;refine callsIn_of_wp_marks Tryz.func142 rfl (hfn _) ?_ hro;simp only [Tryz.ntmps142,List.size_toArray,List.length_cons,List.length_nil,Nat.reduceAdd,Nat.reduceSub,Array.replicate_succ,Array.replicate_zero,List.push_toArray,List.append_toArray,List.nil_append,List.cons_append]
 gi_wp2_with (first
  | (gi_at_call 143;refine (HNT.out _ _ (HX.out.below HBW.out lrf)).mono ?_;rintro e wn ⟨da,wa,dc,wc,ds,outs,rfl,hds,hdn,hdv,hal,hmp,hbn⟩;have HDN:=hdq hdn;clear hdn;have HDS:=hdq hds;have HDV:=hdq hdv;have HOU:=hdq hal;have HMP:=hdq hmp;have HBN:=hdq hbn;clear hds hdv hal hmp hbn;have e1:=(HCC.out _ (HBN.out.alloc HBN.out.size (.cells #[.slice (some ⟨sb,so,none⟩) len cap,.slice da len dc,.slice wa len wc,.func (.yield yl) #[] #[]] 188))).1;have e2:=(HCC.out _ (HBN.out.alloc HBN.out.size (.cells #[.slice (some ⟨sb,so,none⟩) len cap,.slice da len dc,.slice wa len wc,.func (.yield yl) #[] #[]] 188))).2)
  | (gi_at_call 56;refine (HAL.out _ _ (HX.out.below (HBW.out.trans ((HBN.out.alloc HBN.out.size _).mono hzW)) lrf) (HZ.out.below (HBW.out.trans ((HBN.out.alloc HBN.out.size _).mono hzW)) lrf)).mono ?_;rintro e wl ⟨ya,yk,yc,rfl,hyk,hyo,hbl⟩;have HYK:=hdq hyk;have HYO:=hdq hyo;have HBL:=hdq hbl;clear hyk hyo hbl))
 rename_i Kr hKr;obtain ⟨y,rfl⟩:∃y,yk=y+1:=⟨yk-1,by have:=uj l 0 zs;have:=HYK.out;omega⟩
 have hym:y<=m:=by
  have h1:=HYK.out;have h2:=lm l zs 0;have h3:=HZL.out
  cases hwk:walk l 0 zs with
  | none=>have:=h2.2 hwk;omega
  | some t=>have:=(h2.1 t hwk).1;omega
 have hyl:y<len:=by
  have h1:=rj HC.out zs (i:=0) (by omega) y (by rw [Int.natCast_zero,HYK.out];omega)
  have h2:=(jl HC.out zs (i:=0) (by omega) y (by rw [Int.natCast_zero,HYK.out];omega)).2
  omega
 have hb2:Below W.heap.size W wl:=(HBN.out.alloc HBN.out.size _).trans (HBL.out.mono (by have:=HBN.out.size;simp;omega))
 have HB2:=hdq hb2
 have hrest:∀(R rb:Nat) (wr:World),SeqAt len y zs wl R rb wr->Kr { tmps:=#[.func (.yield yl) #[] #[],.pointer (some ⟨B1,0,none⟩),.pointer (some ⟨B2,0,none⟩),undef,.pointer (some ⟨wn.heap.size,0,none⟩),.slice ya (y+1) yc,.pointer (some ⟨rb,0,none⟩),undef,undef,.slice (some ⟨sb,so,none⟩) len cap,.func (.yield yl) #[] #[],.agg #[.slice (some ⟨sb,so,none⟩) len cap,.slice da len dc,.slice wa len wc,.func (.yield yl) #[] #[]],.slice (some ⟨sb,so,none⟩) len cap,.slice b m cap2,.slice ya (y+1) yc,
  .slice (some ⟨sb,so,none⟩) len cap,.int .i64 (len:Int),.slice (some ⟨R,0,none⟩) 0 len,.slice b m cap2,.slice ya (y+1) yc,.int .i64 ((y:Int)+1),.int .i64 (y:Int),.slice b y cap2,.slice (some ⟨R,0,none⟩) y len,undef,undef,undef,undef,undef,undef,undef,undef,undef,undef,undef,undef,undef,undef,undef,undef,undef,undef,undef,undef,undef,undef,undef,undef,undef,undef,undef,undef,undef,undef,undef,undef,undef,undef,undef,undef,undef,undef,undef],defers:=[] } wr:=by
  rintro R rb wr ⟨q1,q2,q3,q4,q5,q6⟩;refine hKr _ _ ?_;clear hKr;have hbr:Below W.heap.size W wr:=HB2.out.trans (q6.mono HB2.out.size);have hzr:=hbr.size
  have hTB:wr.heap[wn.heap.size]?=some (.cells #[.slice (some ⟨sb,so,none⟩) len cap,.slice da len dc,.slice wa len wc,.func (.yield yl) #[] #[]] 188 (0,0)):=by
   have h1:=han wn (.cells #[.slice (some ⟨sb,so,none⟩) len cap,.slice da len dc,.slice wa len wc,.func (.yield yl) #[] #[]] 188);have h2:=(HBL.out.block wn.heap.size (by simp)).trans h1
   exact (q6.block wn.heap.size (hltq h2)).trans h2
  obtain ⟨K,hKd⟩:∃K:Nat->Prop,K=fun k=>(Rd k\/W.heap.size<=k)/\k<wr.heap.size/\k≠R:=⟨_,rfl⟩;have hwn:wn.heap.size<wl.heap.size:=by have:=HBL.out.size;simp at this;omega
  have hKn:Keep (fun k=>W.heap.size<=k/\k<wn.heap.size) wn wr:=(Keep.alloc _ wn _).trans' ((HBL.out.mono lrf).trans (q6.mono HBL.out.size) |> Keep.of_below) fun k hk h=>⟨h,by simp;omega⟩
  obtain ⟨wb,rfl,hwc1,hwc2,htel⟩:=atk HOU.out HMP.out (by omega) sb so (fun i hi=>by
   have:=HFIN.out i hi
   rw [(HBW.out.trans (hbr.mono hzW)).cell (p:=⟨sb,so+i*2,none⟩) (by show sb<_;exact hsb0)];exact this) K (by rw [hKd];exact ⟨.inl (hR0 sb hsb0),by omega,by have:=HB2.out.size;omega⟩) (fun k h1 h2=>by rw [hKd];exact ⟨.inr h1,by have:=q6.size;omega,by omega⟩) hKn
  obtain ⟨yb,rfl,_⟩:=atd HYO.out HYK.out (show y<y+1 by omega) rfl
  have hyo:wr.ownsRow (wn.heap.size+1) 3 1 (.slice (some ⟨yb,0,none⟩) (y+1) yc) (y+1) (ah (Wlk.along l 0 zs)):=by
   have h:=af HYO.out q6 lrf
   rwa [World.size_alloc] at h
  have hyb:=(hyo.lt yb rfl);have HYR:=hdq hyo;have HTEL:=hdq htel;have HTB:=hdq hTB;have HRM:=hdq q4;have HRB:=hdq q5;have HBR:=hdq hbr;have HKD:=hdq hKd;have HKN:=hdq hKn;have hL0:Hid (dq l zs 0=toldG l 0 zs):=told_start l zs;have hdl:Hid (∃db,da=some ⟨db,0,none⟩\/True):=hdq ⟨0,.inr trivial⟩
  have HJ0:Hid (∀X,Below W.heap.size W X->J [] O X):=hdq fun X hX=>HJ.out _ _ _ _ H0.out ((Keep.of_below hX).mono fun k hk h=>by
   rcases h with h|h
   ·exact h
   ·exact (HO.out k h).2)
  have HTIN:Hid (∀(X:World) (pre:List Wd) (sg:List Int) (ws:List (List Int)),Keep (fun k=>¬O k/\k≠R) wr X->Below W.heap.size W X->Room R len sg X->J pre O X->nums pre++ws <+: toldG l 0 zs->Tin W.heap.size K l len sb so wb 0 R J (toldG l 0 zs) pre sg ws O X):=hdq fun X pre sg ws hk hb hr hj ht=>by
   refine ⟨HTEL.out.keep (hk.mono fun k _ h=>?_),hr,hj,ht,fun k h h'=>?_,?_,?_,hb.size,by have:=HB2.out.size;omega,?_,fun k h=>Nat.lt_of_lt_of_le (HO.out k h).2 hb.size⟩
   ·rw [HKD.out] at h;refine ⟨fun h'=>?_,h.2.2⟩;rcases h.1 with h1|h1
    ·exact (HO.out k h').1 h1
    ·have:=(HO.out k h').2;omega
   ·rw [HKD.out] at h';rcases h'.1 with h1|h1
    ·exact (HO.out k h).1 h1
    ·have:=(HO.out k h).2;omega
   ·rw [HKD.out];exact fun h=>h.2.2 rfl
   ·intro h;have:=(HO.out R h).2;have:=HB2.out.size;omega
   ·intro k h;rw [HKD.out] at h;exact Nat.lt_of_lt_of_le h.2.1 hk.size
  have HALL:Hid (∀i,i<len->AllAt F W.heap.size K l len sb so cap wb 0 wc len dc yl da R J Jx (toldG l 0 zs) i):=hdq fun i hi=>vh F hfn hro hd HC.out W.heap.size K len sb so cap wb 0 wc len dc yl da R J Jx (toldG l 0 zs) HLE.out.symm hl6 ⟨hcp,by unfold maxLen;exact hcm⟩ ⟨hwc1,hwc2⟩ HJ.out HYD.out len i hi (by omega)
  clear q4 q5 hbr hKn hTB hyo htel hKd
  cases hwk:walk l 0 zs with
  | none =>
    have hle:=(lm l zs 0).2 hwk;have hym1:y+1<=m:=by have:=HYK.out;have:=HZL.out;omega
    have hgt:decide ((y:Int)+1>(m:Int))=false:=decide_eq_false (by omega)
    have hgn:¬m<y+1:=by omega
    have hgi:¬(m:Int)<(y:Int)+1:=by omega
    have hmin:min ((y:Int)+1) (m:Int)=(y:Int)+1:=by omega
    have hyc1:(y:Int)+1<=(yc:Int):=by obtain ⟨g,cap',cur,e,_,_,h1,_⟩:=HYR.out.2.resolve_left (by rintro ⟨_,h⟩;omega);simp only [Value.slice.injEq] at e;omega
    have hyj:y+1<=y+1:=Nat.le_refl _;have hbd2:Below W.heap.size W wr.drew:=HBR.out.trans (al (Below.refl _ _) ⟨1,rfl⟩);have hw8s:(wr.drew).heap.size=wr.heap.size:=rfl;obtain ⟨O8,hO8e⟩:∃O8:Nat->Prop,O8=O:=⟨_,rfl⟩;obtain ⟨w8,hw8⟩:∃w8,w8=wr.drew:=⟨_,rfl⟩
    have HLI:Hid (LoopI J l zs O R len (y+1) m wr 0 (fun k=>O8 k\/k=R) w8):=hdq (by
     rw [hw8,hO8e]
     exact ⟨O,[],y,fun _=>Iff.rfl,by rw [Nat.sub_zero,aoz (by rw [HYK.out];exact Nat.le_refl _)];rfl,HJ0.out _ hbd2,Keep.drew _ wr,fun k h=>.inl h,HRM.out.keep (Keep.drew (fun _=>True) wr) trivial,by omega,by omega⟩)
    have hzw8:wr.heap.size<=w8.heap.size:=by rw [hw8];exact Nat.le_refl _
    have hB2d:=(HCC.out _ hbd2).2;clear hO8e hw8s hbd2
    gi_wp2
    refine fx (S:=(fun w'=>w'.cell? ⟨B2,0,none⟩=some (.slice b m cap2))) (by kernel_rfl) (by first|((exact hB2d))|((try dsimp only);(exact hB2d))) (fun hHeld=>?_)
    refine t_f hfn 0 ?_;refine t_f hfn 1 ?_;refine t_f hfn 2 ?_;refine t_f hfn 3 ?_;refine t_f hfn 4 ?_;refine t_f hfn 5 ?_;refine u_f hfn 6 ?_;refine u_f hfn 7 ?_;refine u_f hfn 8 ?_;refine u_f hfn 9 ?_;refine u_f hfn 10 ?_;refine u_f hfn 11 ?_;refine u_f hfn 12 ?_;refine u_f hfn 13 ?_;refine u_f hfn 14 ?_;refine t_f hfn 15 ?_;refine br (by kernel_rfl) ?_ _
    simp only [onlyN];clear hHeld;rw [<-hw8] at hB2d ⊢;clear hw8
    gi_wp2_with (gi_at_call 145;refine (uo F _ (hfn _) hro _ _ _ _).mono ?_;rintro e w9 ⟨rfl,rfl⟩)
    obtain ⟨ys,hys⟩:∃ys,ys=(Wlk.along l 0 zs).take (y+1):=⟨_,rfl⟩;have hysl:ys.length=y+1:=by rw [hys,List.length_take,HYK.out];omega
    have hRb0:R<wr.heap.size:=by obtain ⟨cur,hcc,_⟩:=HRM.out.obj;exact (hltq hcc)
    obtain ⟨X5,hX5⟩:∃X5,X5=w8.alloc (.cells #[.slice (some ⟨yb,0,none⟩) (y+1) yc] 51):=⟨_,rfl⟩;obtain ⟨xb,hxb⟩:∃xb,xb=w8.heap.size:=⟨_,rfl⟩;have zX5:X5.heap.size=xb+1:=by rw [hX5,hxb];simp
    have hk5:∀S,Keep S w8 X5:=fun S=>by rw [hX5];exact Keep.alloc S w8 _
    have hc5:X5.cell? ⟨xb,0,none⟩=some (.slice (some ⟨yb,0,none⟩) (y+1) yc):=by rw [hX5,hxb,ae (han w8 _)];rfl
    have hLI5:=mj (base':=X5.heap.size) HJ.out (by omega) (by omega) (by omega) HLI.out (hk5 _)
    have hyw:W.heap.size<=yb/\yb<wl.heap.size:=⟨by have h1:=(HYO.out.lt yb rfl).1;have:=HBN.out.size;simp at h1;omega,(HYO.out.lt yb rfl).2⟩
    obtain ⟨U0,hU0⟩:∃U0:Nat->Prop,U0=fun k=>O8 k\/k=R:=⟨_,rfl⟩;rw [<-hU0] at hLI5
    have hUR:∀k,U0 k->¬(k=xb\/k=yb)/\k<X5.heap.size:=by
     exact z27
    have hslY:Sl .i64 X5 (some ⟨yb,0,none⟩) (y+1) yc ys:=by
     have h1:Sl .i64 wr (some ⟨yb,0,none⟩) (y+1) yc (Wlk.along l 0 zs):=Sl.of_owns HYR.out (fun z hz=>by
      obtain ⟨i,hi,rfl⟩:=List.getElem_of_mem hz;have h:=jl HC.out zs (i:=0) (by omega) i (by rw [Int.natCast_zero];exact hi)
      rw [Int.natCast_zero,gdq,geg hi,Option.getD_some] at h
      exact WalkArith.wf_i64 (by omega)) HYK.out
     have h2:=h1.cut (k:=y+1) (by omega)
     rw [<-hys] at h2;obtain ⟨O1,preJ,q,_,_,_,h4,_⟩:=HLI.out;exact (h2.keep h4 (fun b' off e=>by simp only [sij,Addr.mk.injEq] at e;obtain ⟨rfl,_⟩:=e;exact ⟨fun h=>by have:=(HO.out yb h).2;omega,by omega⟩)).keep (hk5 (fun _=>True)) (fun _ _ _=>trivial)
    rw [<-hX5,<-hxb];clear hX5 hk5;have HLI5:=hdq hLI5;have HYS:=hdq hys;have HYSL:=hdq hysl;have hRb:R<X5.heap.size:=by omega
    have hxbz:wr.heap.size<=xb:=by omega
    clear hLI5 hys HLI hxb
    refine jn hro (fun h=>by rw [hd] at h;cases h) (gf:=171) (lb:=#[.pointer (some ⟨xb,0,none⟩)]) rfl (hfn _) (enters_of Tryz.func171 (by kernel_rfl) rfl)
     (encs:=biv (zs:=ys)) (Rd:=fun k=>k=xb\/k=yb) (T:=BackI ys) (At:=fun _ _=>True) (S:=fun xs=>BackI ys xs/\xs.length=y+1) (Sp:=fun _=>True) (N:=y+1) (w0:=X5)
     (qf F (n-1) hfn hro hd xb (some ⟨yb,0,none⟩) (y+1) yc ys X5 hslY (by omega) (fun k=>k=xb\/k=yb) (fun b' off e=>by simp only [sij,Addr.mk.injEq] at e;exact .inr e.1.symm) (.inl rfl) (by rintro k (rfl|rfl)<;>omega) hc5)
     (fun _ _ _ _ _ h _=>trivial) (Keep.refl _ _) (by rintro k (rfl|rfl)<;>omega) (fun _=>rfl)
     (fun pre U X=>LoopI J l zs O R len (y+1) m wr pre.length U X) (fun c pre U X=>LoopX Jx c U X) (fun _ _ _ _ h hk=>mj HJ.out (by omega) (by omega) hRb h hk) (fun _ _ _ _ _ h hk=>aar HJX.out (by omega) h hk)
     U0 hUR HLI5.out
     (fun x=>{ tmps:=#[.func (.yield yl) #[] #[],.pointer (some ⟨B1,0,none⟩),.pointer (some ⟨B2,0,none⟩),undef,.pointer (some ⟨wn.heap.size,0,none⟩),.slice (some ⟨yb,0,none⟩) (y+1) yc,.pointer (some ⟨rb,0,none⟩),.int .i64 (x.1.1:Int),.int .i64 x.1.2,.slice (some ⟨sb,so,none⟩) len cap,.func (.yield yl) #[] #[],.agg #[.slice (some ⟨sb,so,none⟩) len cap,.slice da len dc,.slice (some ⟨wb,0,none⟩) len wc,.func (.yield yl) #[] #[]],.slice (some ⟨sb,so,none⟩) len cap,.slice b m cap2,.slice (some ⟨yb,0,none⟩) (y+1) yc,.slice (some ⟨sb,so,none⟩) len cap,.int .i64 (len:Int),.slice (some ⟨R,0,none⟩) 0 len,.slice b m cap2,.slice (some ⟨yb,0,none⟩) (y+1) yc,.int .i64 ((y:Int)+1),.int .i64 (y:Int),.slice b y cap2,.slice (some ⟨R,0,none⟩) y len,.slice (some ⟨yb,0,none⟩) (y+1) yc,.int .i64 ((y:Int)+1),.slice b m cap2,.int .i64 (m:Int),.bool false,.bool false,undef,undef,undef,undef,undef,undef,undef,undef,undef,.bool false,.slice (some ⟨yb,0,none⟩) (y+1) yc,.slice (some ⟨yb,0,none⟩) (y+1) yc,.int .i64 ((y:Int)+1),.slice b m cap2,.int .i64 (m:Int),.int .i64 ((y:Int)+1),.slice (some ⟨yb,0,none⟩) (y+1) yc,.func (.func 171) #[] #[.pointer (some ⟨xb,0,none⟩)],.int .i64 (x.1.1:Int),.int .i64 x.1.2,undef,undef,undef,undef,undef,undef,undef,undef,undef,undef,undef,undef,undef],defers:=[] }) ?assign ?body ?done ?stop
    case assign =>
     intro l2 x X K' hK';simp only [biv]
     gi_wp2
     exact hK'
    case body =>
     rintro l2 pre x U X hTx-⟨O1,preJ,q,h1,h2,h3,h4,h5,h6,h7,h8⟩ hlt hsz2;have hlast:=hTx.last;obtain ⟨⟨⟨k,uI⟩,hx2⟩,hxe⟩:∃y,y=x:=⟨x,rfl⟩;subst hxe;simp only at hlast hx2 ⊢;rw [HYSL.out] at hlast
     obtain ⟨u,rfl⟩:∃u:Nat,uI=(u:Int):=by
      exact z30
     have hway:(Wlk.along l 0 zs).getD k 0=(u:Int):=by
      exact z33
     have hun2:u<len:=by
      exact z31
     have hku:k<=u:=by
      exact z32
     have hkm:k<m:=by omega
     obtain ⟨s,hs⟩:∃s,s=zs.getD k 0:=⟨_,rfl⟩;have hno:∀k',W.heap.size<=k'->k'<wr.heap.size->k'≠R->¬O1 k'/\k'≠R:=fun k' e1 e2 e3=>⟨fun h=>(h5 k' h).elim (fun h=>by have:=(HO.out k' h).2;omega) (fun h=>by omega),e3⟩
     have hnoR:∀k',Rd k'->¬O1 k'/\k'≠R:=fun k' e1=>by
      have hz:k'<W.heap.size:=HRW.out k' e1;exact ⟨fun h=>(h5 k' h).elim (fun h=>(HO.out k' h).1 e1) (fun h=>by omega),by omega⟩
     have hb0X:Below W0.heap.size W0 X:=(HBW.out.trans (HBR.out.mono hzW)).trans (h4.below (by omega) (fun k' hk'=>⟨fun h=>(HO.out k' h).1 (hR0 k' hk'),by omega⟩))
     obtain ⟨gb,go,rfl,hgb,hgc⟩:=HZ.out.at (by omega)
     have hgc1:=hgc k hkm;rw [<-hs] at hgc1;have hgX:X.cell? ⟨gb,go+k,none⟩=some (.int .i64 s):=by rw [hb0X.cell (p:=⟨gb,go+k,none⟩) hgb];exact hgc1
     have hwnl:W.heap.size<=wn.heap.size:=HBN.out.size;have hwlr:wl.heap.size<=wr.heap.size:=q6.size
     have HSK:Hid (∀w',Keep (fun k'=>¬O1 k'/\k'≠R) X w'->w'.cell? ⟨wn.heap.size,0,none⟩=some (.slice (some ⟨sb,so,none⟩) len cap)/\w'.cell? ⟨wn.heap.size,1,none⟩=some (.slice da len dc)/\w'.cell? ⟨wn.heap.size,2,none⟩=some (.slice (some ⟨wb,0,none⟩) len wc)/\w'.cell? ⟨wn.heap.size,3,none⟩=some (.func (.yield yl) #[] #[])/\w'.cell? ⟨B2,0,none⟩=some (.slice (some ⟨gb,go,none⟩) m cap2)/\w'.cell? ⟨gb,go+k,none⟩=some (.int .i64 s)/\w'.cell? ⟨rb,0,none⟩=some (.slice (some ⟨R,0,none⟩) y len)):=hdq fun w' hk=>by
      have g1:=(h4.trans' hk (U:=fun k'=>k'=wn.heap.size) fun k' hk' e=>by subst e;have:=hno wn.heap.size hwnl (by omega) (by omega);exact ⟨⟨fun h=>by have:=(HO.out _ h).2;omega,this.2⟩,this⟩).heap HTB.out rfl
      have g2:=(h4.trans' hk (U:=fun k'=>k'=rb) fun k' hk' e=>by have e':k'=rb:=e;rw [e'];have:=hno rb (by omega) (by omega) (fun e=>q3 e.symm);exact ⟨⟨fun h=>by have:=(HO.out _ h).2;omega,this.2⟩,this⟩).heap HRB.out rfl
      have g3:=(h4.trans' hk (U:=fun k'=>k'=B2) fun k' hk' e=>by have e':k'=B2:=e;rw [e'];have:=hnoR B2 hR2;exact ⟨⟨fun h=>(HO.out _ h).1 hR2,this.2⟩,this⟩).cell (HCC.out _ HBR.out).2 rfl
      exact ⟨by rw [ae g1];rfl,by rw [ae g1];rfl,by rw [ae g1];rfl,by rw [ae g1];rfl,g3,hk.cell hgX (hnoR gb (hR0 gb hgb)),by rw [ae g2];rfl⟩
     have hdsX:Sl .i64 X da len dc ds:=by
      exact z25
     have HAF:Hid (∀m',CallsIn (F.inRound l2) m' Tryz.prog 147 #[.agg #[.slice (some ⟨sb,so,none⟩) len cap,.slice da len dc,.slice (some ⟨wb,0,none⟩) len wc,.func (.yield yl) #[] #[]],.int .i64 (u:Int),.int .i64 s] X.drew
      fun e w'=>∃aa ak ac,e=.returned (.slice aa ak ac)/\(goes l u s).length=ak/\w'.ownsRow X.drew.heap.size 95 2 (.slice aa ak ac) ak (acells (goes l u s))/\Below X.drew.heap.size X.drew w'):=hdq fun m'=>by
      refine (HAFT.out m' u s da (some ⟨wb,0,none⟩) dc wc ds X.drew (by omega) ((HX.out.below hb0X lrf).drew) (hdsX.drew) HDV.out).inRound l2
     have HBACK:=hdq (uk HC.out (w:=zs) (k:=k) (s:=s) (u:=u) (by rw [HYK.out];omega) (by rw [HZL.out];exact hkm) hs.symm hway)
     have HPJ:Hid (nums preJ=dq l zs (k+1)):=hdq (by rw [h2];congr 1;omega)
     have HU:=hdq h1;have HKX:=hdq h4;have HO1:=hdq h5
     have HBYC:Hid (∀(w7:World) (aa:Option Addr) (ak ac:Nat),Below X.heap.size X w7->(goes l u s).length=ak->w7.ownsRow X.drew.heap.size 95 2 (.slice aa ak ac) ak (acells (goes l u s))->∀m',CallsIn (F.inRound l2) m' Tryz.prog 146 #[.agg #[.slice (some ⟨sb,so,none⟩) len cap,.slice da len dc,.slice (some ⟨wb,0,none⟩) len wc,.func (.yield yl) #[] #[]],.slice aa ak ac,.slice (some ⟨R,0,none⟩) k len] w7
      (Tout R len J Jx preJ (zs.take k) ((byA l (goes l u s)).map (zs.take k++·)) O1 w7)):=hdq fun w7 aa ak ac hb7 hak hown m'=>by
      have hgz:∀z∈goes l u s,(Lit.int .i64 z.1).wf=true/\(Lit.int .i64 z.2).wf=true:=fun z hz=>by
       obtain ⟨e1,e2,e3⟩:=(bm HC.out (by rw [HLE.out];exact hun2)).1 z (fw hz).1
       have:=(Utf.dw _).1 e1;rw [HLE.out] at e3;exact ⟨WalkArith.wf_i64 (by omega),WalkArith.wf_i64 (by omega)⟩
      have hars:=Ars.of_owns hown hgz hak;obtain ⟨K',hK'⟩:∃K':Nat->Prop,K'=fun k'=>(K k'\/X.heap.size<=k')/\k'<w7.heap.size:=⟨_,rfl⟩;have hz7:=hb7.size;have hzX:=h4.size
      have hrow:Arow K' w7 aa ak (goes l u s):=by
       exact z24
      have hKlt:∀k',K k'->k'<wr.heap.size/\k'≠R:=fun k' h=>by rw [HKD.out] at h;exact h.2
      have hK7:Keep K wr w7:=(h4.trans ((Keep.of_below hb7).mono fun k' hk' _=>hk')).mono fun k' hk' h=>by
       rw [HKD.out] at h;exact ⟨fun h'=>h.1.elim (fun e=>(HO.out k' h').1 e) (fun e=>by have:=(HO.out k' h').2;omega),h.2.2⟩
      have hall:∀i,i<len->AllAt F W.heap.size K' l len sb so cap wb 0 wc len dc yl da R J Jx (toldG l 0 zs) i:=fun i hi=>vh F hfn hro hd HC.out W.heap.size K' len sb so cap wb 0 wc len dc yl da R J Jx (toldG l 0 zs) HLE.out.symm hl6 ⟨hcp,by unfold maxLen;exact hcm⟩ ⟨hwc1,hwc2⟩ HJ.out HYD.out len i hi (by omega)
      have hroom:Room R len (zs.take k) w7:=by
       exact z28
      have hin:Tin W.heap.size K' l len sb so wb 0 R J (toldG l 0 zs) preJ (zs.take k) ((byA l (goes l u s)).map (zs.take k++·)) O1 w7:=by
       exact z22
      have hcall:=alo F hfn hro hd HC.out W.heap.size K' len sb so cap wb 0 wc len dc yl da R J Jx (toldG l 0 zs) HLE.out.symm hl6 HJ.out u hun2 (goes l u s) (fun a ha=>(fw ha).1) (fun u' _ h=>hall u' h) m' aa ak ac preJ (zs.take k) O1 w7 (by rw [List.length_take];omega) hars.2.1 hars.2.2.1 hrow hin
      rw [List.length_take,HZL.out,Nat.min_eq_left (by omega)] at hcall
      unfold tv at hcall;exact hcall.inRound l2
     have hki:(k:Int)<(m:Int):=by omega
     have hk0:(0:Int)<=(k:Int):=by omega
     have hkl:(k:Int)<=(len:Int):=by omega
     have hfnr:∀f,(F.inRound l2).fn f:=hfn;clear h1 h2 h3 h4 h5 h6 hgc hgc1 hgX hdsX hb0X hno hnoR hs hway hTx
     gi_wp2
     refine bp (S:=(fun w'=>w'.cell? ⟨wn.heap.size,0,none⟩=some (.slice (some ⟨sb,so,none⟩) len cap)/\w'.cell? ⟨wn.heap.size,1,none⟩=some (.slice da len dc)/\w'.cell? ⟨wn.heap.size,2,none⟩=some (.slice (some ⟨wb,0,none⟩) len wc)/\w'.cell? ⟨wn.heap.size,3,none⟩=some (.func (.yield yl) #[] #[])/\w'.cell? ⟨B2,0,none⟩=some (.slice (some ⟨gb,go,none⟩) m cap2)/\w'.cell? ⟨gb,go+k,none⟩=some (.int .i64 s)/\w'.cell? ⟨rb,0,none⟩=some (.slice (some ⟨R,0,none⟩) y len))) (by kernel_rfl) (by first|((first|exact hS8|exact hS7|exact HSK.out _ (Keep.drew _ X)))|((try dsimp only);(first|exact hS8|exact hS7|exact HSK.out _ (Keep.drew _ X)))) (fun hHeld=>?_)
     refine t_f hfnr 0 ?_;refine t_f hfnr 1 ?_;refine t_f hfnr 2 ?_;refine t_f hfnr 3 ?_;refine t_f hfnr 4 ?_;refine t_f hfnr 5 ?_;refine t_f hfnr 6 ?_;refine t_f hfnr 8 ?_;refine t_f hfnr 9 ?_;refine t_f hfnr 10 ?_;refine r_f hfnr 7 (fun K hK=>?_);go_simp
     gi_at_call 147
     refine (HAF.out _).mono ?_;rintro e w7 ⟨aa,ak,ac,rfl,hak,hown,hb7'⟩;have hb7:Below X.heap.size X w7:=(al (Below.refl _ _) ⟨1,rfl⟩:Below X.heap.size X X.drew).trans hb7';have hS7:=HSK.out w7 ((Keep.of_below hb7).mono fun k hk _=>hk);have HOW7:=hdq hown;have HAK7:=hdq hak;clear hown hak
     gi_wp2_with fail
     refine k_h hK (by first|((first|exact hS8|exact hS7|exact HSK.out _ (Keep.drew _ X)))|(dsimp only;(first|exact hS8|exact hS7|exact HSK.out _ (Keep.drew _ X)))) (fun hHeld=>?_)
     clear hK K;refine r_f hfnr 11 (fun K hK=>?_);go_simp
     gi_at_call 146
     refine (HBYC.out w7 aa ak ac hb7 HAK7.out HOW7.out _).mono ?_;rintro e w8x ⟨b9,O9,rfl,hk9,ho9,hr9,ht9,hf9⟩;have hS8:=HSK.out w8x (((Keep.of_below hb7).mono fun k hk _=>hk).trans (hk9.mono fun k _ h=>h));have hk9x:Keep (fun k=>¬U k) X w8x:=((Keep.of_below hb7).mono fun k hk _=>hk).trans (hk9.mono fun k _ h=>⟨fun h'=>h ((HU.out k).2 (.inl h')),fun h'=>h ((HU.out k).2 (.inr h'))⟩);have HK9:=hdq hk9x;have HO9:Hid (∀k,O9 k->O1 k\/X.heap.size<=k/\k<w8x.heap.size):=hdq fun k h=>(ho9 k h).imp id fun h=>⟨by have:=hb7.size;omega,h.2⟩
     have HR9:=hdq hr9;have HT9:=hdq ht9;have HF9:=hdq hf9;clear hk9 hk9x ho9 hr9 ht9 hf9
     gi_wp2_with fail
     refine k_h hK (by first|((first|exact hS8|exact hS7|exact HSK.out _ (Keep.drew _ X)))|(dsimp only;(first|exact hS8|exact hS7|exact HSK.out _ (Keep.drew _ X)))) (fun hHeld=>?_)
     clear hK K;refine t_f hfnr 12 ?_;refine br (by kernel_rfl) ?_ _
     clear hHeld;cases b9
     ·exact z29
     ·obtain ⟨pre9,hn9,hj9⟩:=HT9.out rfl;clear HT9 HF9;have HLN:Hid (LoopI J l zs O R len (y+1) m wr (pre++[(⟨(k,(u:Int)),hx2⟩:Bi ys)]).length (fun k=>O9 k\/k=R) w8x):=hdq ⟨O9,pre9,k,fun _=>Iff.rfl,by rw [hn9,HPJ.out,<-HBACK.out,List.length_append,List.length_singleton,show y+1-(pre.length+1)=k by omega],hj9,HKX.out.trans' HK9.out fun k' hk' h=>⟨h,fun h'=>((HU.out k').1 h').elim (fun h''=>(HO1.out k' h'').elim h.1 (fun h3=>by omega)) h.2⟩,fun k' h=>(HO9.out k' h).elim (fun h=>(HO1.out k' h).imp id fun h=>⟨h.1,by have:=HK9.out.size;omega⟩) (fun h=>.inr ⟨by have:=HKX.out.size;omega,h.2⟩),HR9.out,by rw [List.length_append,List.length_singleton];omega,by omega⟩
      clear hn9 hj9
      gi_wp2
      exact ⟨fun k=>O9 k\/k=R,HK9.out,fun k h=>h.elim (fun h=>(HO9.out k h).imp (fun h=>(HU.out k).2 (.inl h)) id) (fun h=>.inl ((HU.out k).2 (.inr h))),HLN.out⟩
    case done =>
     exact z23
    case stop =>
     exact z26
  | some t =>
    obtain ⟨t1,t2⟩:=aak HC.out zs (i:=0) (by omega) t (by simpa using hwk)
    obtain ⟨u,rfl⟩:∃u:Nat,t=(u:Int):=⟨t.toNat,by omega⟩
    obtain ⟨g1,g2⟩:=(lm l zs 0).1 _ hwk;have hyE:y=m:=by have:=HYK.out;have:=HZL.out;omega
    subst hyE;have hun:u<len:=by omega
    have hyu:y<=u:=by
     have h1:=rj HC.out zs (i:=0) (by omega) y (by rw [Int.natCast_zero,HYK.out];omega)
     rw [Int.natCast_zero,<-HZL.out,g2,HZL.out] at h1;omega
    have hzt:zs.take y=zs:=by rw [<-HZL.out];exact List.take_length
    have hgt:decide ((y:Int)+1>(y:Int))=true:=decide_eq_true (by omega)
    have hgn:y<y+1:=by omega
    have hgi:(y:Int)<(y:Int)+1:=by omega
    have cy:wr.cell? ⟨yb,y,none⟩=some (.int .i64 (u:Int)):=by
     rw [HYR.out.cellAt y (by omega)]
     rw [HZL.out] at g2;unfold ah;rw [List.getElem?_map,geg (by rw [HYK.out];omega)]
     rw [gdq,geg (by rw [HYK.out];omega)] at g2
     simpa using g2
    have HSK:Hid (∀w',Keep (fun k=>¬O k/\k≠R) wr w'->w'.cell? ⟨wn.heap.size,0,none⟩=some (.slice (some ⟨sb,so,none⟩) len cap)/\w'.cell? ⟨wn.heap.size,1,none⟩=some (.slice da len dc)/\w'.cell? ⟨wn.heap.size,2,none⟩=some (.slice (some ⟨wb,0,none⟩) len wc)/\w'.cell? ⟨wn.heap.size,3,none⟩=some (.func (.yield yl) #[] #[])/\w'.cell? ⟨B2,0,none⟩=some (.slice b y cap2)/\w'.cell? ⟨yb,y,none⟩=some (.int .i64 (u:Int))/\w'.cell? ⟨rb,0,none⟩=some (.slice (some ⟨R,0,none⟩) y len)):=hdq fun w' hk=>by
     have hno:∀k,W.heap.size<=k->k≠R->¬O k/\k≠R:=fun k h1 h2=>⟨fun h=>by have:=(HO.out k h).2;omega,h2⟩
     have hz2:=HB2.out.size;have g1:=hk.heap HTB.out (hno _ (by have:=HBN.out.size;omega) (by omega))
     have g2:=hk.heap HRB.out (hno _ (by omega) (fun e=>q3 e.symm))
     have g3:=hk.cell (HCC.out _ HBR.out).2 (show ¬O B2/\B2≠R from ⟨fun h=>(HO.out _ h).1 hR2,by omega⟩)
     exact ⟨by rw [ae g1];rfl,by rw [ae g1];rfl,by rw [ae g1];rfl,by rw [ae g1];rfl,g3,hk.cell cy (hno _ (by have:=HBN.out.size;omega) (by have:=(af HYO.out q6 lrf).lt yb rfl;have:=(HYO.out.lt yb rfl).2;omega)),by rw [ae g2];rfl⟩
    have hbd2:Below W.heap.size W wr.drew:=HBR.out.trans (al (Below.refl _ _) ⟨1,rfl⟩)
    have hfirst:nums ([]:List Wd)++(told l u).map (zs++·) <+: toldG l 0 zs:=by
     rw [<-hL0.out,<-agl zs u hwk,show nums ([]:List Wd)=[] from rfl,List.nil_append];exact ul HC.out _ lrf (by omega)
    have HAC:=hdq (fun (k:Nat)=>HALL.out u hun k [] zs O wr.drew (by rw [HZL.out];exact hyu) (HTIN.out wr.drew [] zs _ (Keep.drew _ _) hbd2 ((hzt▸HRM.out).keep (Keep.drew (fun _=>True) _) trivial) (HJ0.out _ hbd2) hfirst))
    rw [HZL.out] at HAC;unfold tv at HAC;have hyl2:y<y+1:=by omega
    have hmin:min ((y:Int)+1) (y:Int)=(y:Int):=by omega
    have hycc:=HYR.out;have hyc1:(y:Int)<=(yc:Int):=by obtain ⟨g,cap',cur,e,_,_,h1,_⟩:=HYR.out.2.resolve_left (by rintro ⟨_,h⟩;omega);simp only [Value.slice.injEq] at e;omega
    clear hycc;clear cy g1 g2 t1 t2 hfirst
    gi_wp2
    refine fx (S:=(fun w'=>w'.cell? ⟨wn.heap.size,0,none⟩=some (.slice (some ⟨sb,so,none⟩) len cap)/\w'.cell? ⟨wn.heap.size,1,none⟩=some (.slice da len dc)/\w'.cell? ⟨wn.heap.size,2,none⟩=some (.slice (some ⟨wb,0,none⟩) len wc)/\w'.cell? ⟨wn.heap.size,3,none⟩=some (.func (.yield yl) #[] #[])/\w'.cell? ⟨B2,0,none⟩=some (.slice b y cap2)/\w'.cell? ⟨yb,y,none⟩=some (.int .i64 (u:Int))/\w'.cell? ⟨rb,0,none⟩=some (.slice (some ⟨R,0,none⟩) y len))) (by kernel_rfl) (by first|((first|exact hS8|exact HSK.out _ (Keep.drew _ wr)))|((try dsimp only);(first|exact hS8|exact HSK.out _ (Keep.drew _ wr)))) (fun hHeld=>?_)
    refine t_f hfn 0 ?_;refine t_f hfn 1 ?_;refine t_f hfn 2 ?_;refine t_f hfn 3 ?_;refine t_f hfn 4 ?_;refine t_f hfn 5 ?_;refine t_f hfn 6 ?_;refine t_f hfn 7 ?_;refine t_f hfn 8 ?_;refine t_f hfn 9 ?_;refine t_f hfn 10 ?_;refine t_f hfn 11 ?_;refine t_f hfn 12 ?_;refine r_f hfn 13 (fun K hK=>?_);go_simp
    gi_at_call 144
    refine (HAC.out _).mono ?_;rintro e w8 ⟨b8,O8,rfl,hk8,ho8,hr8,ht8,hf8⟩;have hS8:=HSK.out w8 ((Keep.drew _ wr).trans hk8);have HK8:=hdq hk8;have HO8:=hdq ho8;have HR8:=hdq hr8;have HT8:=hdq ht8;have HF8:=hdq hf8;clear hk8 ho8 hr8 ht8 hf8
    gi_wp2_with fail
    refine k_h hK (by first|((first|exact hS8|exact HSK.out _ (Keep.drew _ wr)))|(dsimp only;(first|exact hS8|exact HSK.out _ (Keep.drew _ wr)))) (fun hHeld=>?_)
    clear hK K;refine t_f hfn 14 ?_;refine t_f hfn 15 ?_;refine br (by kernel_rfl) ?_ _
    simp only [onlyN];clear hHeld;cases b8
    ·have HF9:=hdq (HF8.out rfl);clear HT8 HF8
     gi_wp2
     obtain ⟨preX,hX⟩:=HF9.out;exact ⟨_,results_none rfl _ _ _,⟨_,rfl⟩,O8,.inr ⟨preX,trivial,hX⟩⟩
    ·obtain ⟨pre8,hn8,hj8⟩:=HT8.out rfl;clear HT8 HF8;have HLI:Hid (LoopI J l zs O R len y y wr 0 (fun k=>O8 k\/k=R) w8):=hdq ⟨O8,pre8,y,fun _=>Iff.rfl,by rw [hn8,Nat.sub_zero,show nums ([]:List Wd)=[] from rfl,List.nil_append,<-agl zs u hwk,HZL.out],hj8,(Keep.drew _ wr).trans HK8.out,HO8.out,by rw [hzt];exact HR8.out,by omega,Nat.le_refl _⟩
     have hzw8:wr.heap.size<=w8.heap.size:=HK8.out.size;have hyj:y<=y+1:=by omega
     clear hn8 hj8 HK8 HO8 HR8
     gi_wp2_with (gi_at_call 145;refine (uo F _ (hfn _) hro _ _ _ _).mono ?_;rintro e w9 ⟨rfl,rfl⟩)
     obtain ⟨ys,hys⟩:∃ys,ys=(Wlk.along l 0 zs).take (y):=⟨_,rfl⟩;have hysl:ys.length=y:=by rw [hys,List.length_take,HYK.out];omega
     have hRb0:R<wr.heap.size:=by obtain ⟨cur,hcc,_⟩:=HRM.out.obj;exact (hltq hcc)
     obtain ⟨X5,hX5⟩:∃X5,X5=w8.alloc (.cells #[.slice (some ⟨yb,0,none⟩) (y) yc] 51):=⟨_,rfl⟩;obtain ⟨xb,hxb⟩:∃xb,xb=w8.heap.size:=⟨_,rfl⟩;have zX5:X5.heap.size=xb+1:=by rw [hX5,hxb];simp
     have hk5:∀S,Keep S w8 X5:=fun S=>by rw [hX5];exact Keep.alloc S w8 _
     have hc5:X5.cell? ⟨xb,0,none⟩=some (.slice (some ⟨yb,0,none⟩) (y) yc):=by rw [hX5,hxb,ae (han w8 _)];rfl
     have hLI5:=mj (base':=X5.heap.size) HJ.out (by omega) (by omega) (by omega) HLI.out (hk5 _)
     have hyw:W.heap.size<=yb/\yb<wl.heap.size:=⟨by have h1:=(HYO.out.lt yb rfl).1;have:=HBN.out.size;simp at h1;omega,(HYO.out.lt yb rfl).2⟩
     obtain ⟨U0,hU0⟩:∃U0:Nat->Prop,U0=fun k=>O8 k\/k=R:=⟨_,rfl⟩;rw [<-hU0] at hLI5
     have hUR:∀k,U0 k->¬(k=xb\/k=yb)/\k<X5.heap.size:=by
      exact z27
     have hslY:Sl .i64 X5 (some ⟨yb,0,none⟩) (y) yc ys:=by
      have h1:Sl .i64 wr (some ⟨yb,0,none⟩) (y+1) yc (Wlk.along l 0 zs):=Sl.of_owns HYR.out (fun z hz=>by
       obtain ⟨i,hi,rfl⟩:=List.getElem_of_mem hz;have h:=jl HC.out zs (i:=0) (by omega) i (by rw [Int.natCast_zero];exact hi)
       rw [Int.natCast_zero,gdq,geg hi,Option.getD_some] at h
       exact WalkArith.wf_i64 (by omega)) HYK.out
      have h2:=h1.cut (k:=y) (by omega)
      rw [<-hys] at h2;obtain ⟨O1,preJ,q,_,_,_,h4,_⟩:=HLI.out;exact (h2.keep h4 (fun b' off e=>by simp only [sij,Addr.mk.injEq] at e;obtain ⟨rfl,_⟩:=e;exact ⟨fun h=>by have:=(HO.out yb h).2;omega,by omega⟩)).keep (hk5 (fun _=>True)) (fun _ _ _=>trivial)
     rw [<-hX5,<-hxb];clear hX5 hk5;have HLI5:=hdq hLI5;have HYS:=hdq hys;have HYSL:=hdq hysl;have hRb:R<X5.heap.size:=by omega
     have hxbz:wr.heap.size<=xb:=by omega
     clear hLI5 hys HLI hxb
     refine jn hro (fun h=>by rw [hd] at h;cases h) (gf:=171) (lb:=#[.pointer (some ⟨xb,0,none⟩)]) rfl (hfn _) (enters_of Tryz.func171 (by kernel_rfl) rfl)
      (encs:=biv (zs:=ys)) (Rd:=fun k=>k=xb\/k=yb) (T:=BackI ys) (At:=fun _ _=>True) (S:=fun xs=>BackI ys xs/\xs.length=y) (Sp:=fun _=>True) (N:=y) (w0:=X5)
      (qf F (n-1) hfn hro hd xb (some ⟨yb,0,none⟩) (y) yc ys X5 hslY (by omega) (fun k=>k=xb\/k=yb) (fun b' off e=>by simp only [sij,Addr.mk.injEq] at e;exact .inr e.1.symm) (.inl rfl) (by rintro k (rfl|rfl)<;>omega) hc5)
      (fun _ _ _ _ _ h _=>trivial) (Keep.refl _ _) (by rintro k (rfl|rfl)<;>omega) (fun _=>rfl)
      (fun pre U X=>LoopI J l zs O R len (y) y wr pre.length U X) (fun c pre U X=>LoopX Jx c U X) (fun _ _ _ _ h hk=>mj HJ.out (by omega) (by omega) hRb h hk) (fun _ _ _ _ _ h hk=>aar HJX.out (by omega) h hk)
      U0 hUR HLI5.out
      (fun x=>{ tmps:=#[.func (.yield yl) #[] #[],.pointer (some ⟨B1,0,none⟩),.pointer (some ⟨B2,0,none⟩),undef,.pointer (some ⟨wn.heap.size,0,none⟩),.slice (some ⟨yb,0,none⟩) (y+1) yc,.pointer (some ⟨rb,0,none⟩),.int .i64 (x.1.1:Int),.int .i64 x.1.2,.slice (some ⟨sb,so,none⟩) len cap,.func (.yield yl) #[] #[],.agg #[.slice (some ⟨sb,so,none⟩) len cap,.slice da len dc,.slice (some ⟨wb,0,none⟩) len wc,.func (.yield yl) #[] #[]],.slice (some ⟨sb,so,none⟩) len cap,.slice b y cap2,.slice (some ⟨yb,0,none⟩) (y+1) yc,.slice (some ⟨sb,so,none⟩) len cap,.int .i64 (len:Int),.slice (some ⟨R,0,none⟩) 0 len,.slice b y cap2,.slice (some ⟨yb,0,none⟩) (y+1) yc,.int .i64 ((y:Int)+1),.int .i64 (y:Int),.slice b y cap2,.slice (some ⟨R,0,none⟩) y len,.slice (some ⟨yb,0,none⟩) (y+1) yc,.int .i64 ((y:Int)+1),.slice b y cap2,.int .i64 (y:Int),.bool true,.bool true,.agg #[.slice (some ⟨sb,so,none⟩) len cap,.slice da len dc,.slice (some ⟨wb,0,none⟩) len wc,.func (.yield yl) #[] #[]],.slice (some ⟨yb,0,none⟩) (y+1) yc,.slice b y cap2,.int .i64 (y:Int),.pointer (some ⟨yb,y,none⟩),.int .i64 (u:Int),.slice (some ⟨R,0,none⟩) y len,.bool true,.bool false,.bool false,.slice (some ⟨yb,0,none⟩) (y+1) yc,.slice (some ⟨yb,0,none⟩) (y+1) yc,.int .i64 ((y:Int)+1),.slice b y cap2,.int .i64 (y:Int),.int .i64 ((y:Int)),.slice (some ⟨yb,0,none⟩) (y) yc,.func (.func 171) #[] #[.pointer (some ⟨xb,0,none⟩)],.int .i64 (x.1.1:Int),.int .i64 x.1.2,undef,undef,undef,undef,undef,undef,undef,undef,undef,undef,undef,undef,undef],defers:=[] }) ?assign ?body ?done ?stop
     case assign =>
      intro l2 x X K' hK';simp only [biv]
      gi_wp2
      exact hK'
     case body =>
      rintro l2 pre x U X hTx-⟨O1,preJ,q,h1,h2,h3,h4,h5,h6,h7,h8⟩ hlt hsz2;have hlast:=hTx.last;obtain ⟨⟨⟨k,uI⟩,hx2⟩,hxe⟩:∃y,y=x:=⟨x,rfl⟩;subst hxe;simp only at hlast hx2 ⊢;rw [HYSL.out] at hlast
      obtain ⟨u,rfl⟩:∃u:Nat,uI=(u:Int):=by
       exact z30
      have hway:(Wlk.along l 0 zs).getD k 0=(u:Int):=by
       exact z33
      have hun2:u<len:=by
       exact z31
      have hku:k<=u:=by
       exact z32
      have hkm:k<y:=by omega
      obtain ⟨s,hs⟩:∃s,s=zs.getD k 0:=⟨_,rfl⟩;have hno:∀k',W.heap.size<=k'->k'<wr.heap.size->k'≠R->¬O1 k'/\k'≠R:=fun k' e1 e2 e3=>⟨fun h=>(h5 k' h).elim (fun h=>by have:=(HO.out k' h).2;omega) (fun h=>by omega),e3⟩
      have hnoR:∀k',Rd k'->¬O1 k'/\k'≠R:=fun k' e1=>by
       have hz:k'<W.heap.size:=HRW.out k' e1;exact ⟨fun h=>(h5 k' h).elim (fun h=>(HO.out k' h).1 e1) (fun h=>by omega),by omega⟩
      have hb0X:Below W0.heap.size W0 X:=(HBW.out.trans (HBR.out.mono hzW)).trans (h4.below (by omega) (fun k' hk'=>⟨fun h=>(HO.out k' h).1 (hR0 k' hk'),by omega⟩))
      obtain ⟨gb,go,rfl,hgb,hgc⟩:=HZ.out.at (by omega)
      have hgc1:=hgc k hkm;rw [<-hs] at hgc1;have hgX:X.cell? ⟨gb,go+k,none⟩=some (.int .i64 s):=by rw [hb0X.cell (p:=⟨gb,go+k,none⟩) hgb];exact hgc1
      have hwnl:W.heap.size<=wn.heap.size:=HBN.out.size;have hwlr:wl.heap.size<=wr.heap.size:=q6.size
      have HSK:Hid (∀w',Keep (fun k'=>¬O1 k'/\k'≠R) X w'->w'.cell? ⟨wn.heap.size,0,none⟩=some (.slice (some ⟨sb,so,none⟩) len cap)/\w'.cell? ⟨wn.heap.size,1,none⟩=some (.slice da len dc)/\w'.cell? ⟨wn.heap.size,2,none⟩=some (.slice (some ⟨wb,0,none⟩) len wc)/\w'.cell? ⟨wn.heap.size,3,none⟩=some (.func (.yield yl) #[] #[])/\w'.cell? ⟨B2,0,none⟩=some (.slice (some ⟨gb,go,none⟩) y cap2)/\w'.cell? ⟨gb,go+k,none⟩=some (.int .i64 s)/\w'.cell? ⟨rb,0,none⟩=some (.slice (some ⟨R,0,none⟩) y len)):=hdq fun w' hk=>by
       have g1:=(h4.trans' hk (U:=fun k'=>k'=wn.heap.size) fun k' hk' e=>by subst e;have:=hno wn.heap.size hwnl (by omega) (by omega);exact ⟨⟨fun h=>by have:=(HO.out _ h).2;omega,this.2⟩,this⟩).heap HTB.out rfl
       have g2:=(h4.trans' hk (U:=fun k'=>k'=rb) fun k' hk' e=>by have e':k'=rb:=e;rw [e'];have:=hno rb (by omega) (by omega) (fun e=>q3 e.symm);exact ⟨⟨fun h=>by have:=(HO.out _ h).2;omega,this.2⟩,this⟩).heap HRB.out rfl
       have g3:=(h4.trans' hk (U:=fun k'=>k'=B2) fun k' hk' e=>by have e':k'=B2:=e;rw [e'];have:=hnoR B2 hR2;exact ⟨⟨fun h=>(HO.out _ h).1 hR2,this.2⟩,this⟩).cell (HCC.out _ HBR.out).2 rfl
       exact ⟨by rw [ae g1];rfl,by rw [ae g1];rfl,by rw [ae g1];rfl,by rw [ae g1];rfl,g3,hk.cell hgX (hnoR gb (hR0 gb hgb)),by rw [ae g2];rfl⟩
      have hdsX:Sl .i64 X da len dc ds:=by
       exact z25
      have HAF:Hid (∀m',CallsIn (F.inRound l2) m' Tryz.prog 147 #[.agg #[.slice (some ⟨sb,so,none⟩) len cap,.slice da len dc,.slice (some ⟨wb,0,none⟩) len wc,.func (.yield yl) #[] #[]],.int .i64 (u:Int),.int .i64 s] X.drew
       fun e w'=>∃aa ak ac,e=.returned (.slice aa ak ac)/\(goes l u s).length=ak/\w'.ownsRow X.drew.heap.size 95 2 (.slice aa ak ac) ak (acells (goes l u s))/\Below X.drew.heap.size X.drew w'):=hdq fun m'=>by
       refine (HAFT.out m' u s da (some ⟨wb,0,none⟩) dc wc ds X.drew (by omega) ((HX.out.below hb0X lrf).drew) (hdsX.drew) HDV.out).inRound l2
      have HBACK:=hdq (uk HC.out (w:=zs) (k:=k) (s:=s) (u:=u) (by rw [HYK.out];omega) (by rw [HZL.out];exact hkm) hs.symm hway)
      have HPJ:Hid (nums preJ=dq l zs (k+1)):=hdq (by rw [h2];congr 1;omega)
      have HU:=hdq h1;have HKX:=hdq h4;have HO1:=hdq h5
      have HBYC:Hid (∀(w7:World) (aa:Option Addr) (ak ac:Nat),Below X.heap.size X w7->(goes l u s).length=ak->w7.ownsRow X.drew.heap.size 95 2 (.slice aa ak ac) ak (acells (goes l u s))->∀m',CallsIn (F.inRound l2) m' Tryz.prog 146 #[.agg #[.slice (some ⟨sb,so,none⟩) len cap,.slice da len dc,.slice (some ⟨wb,0,none⟩) len wc,.func (.yield yl) #[] #[]],.slice aa ak ac,.slice (some ⟨R,0,none⟩) k len] w7
       (Tout R len J Jx preJ (zs.take k) ((byA l (goes l u s)).map (zs.take k++·)) O1 w7)):=hdq fun w7 aa ak ac hb7 hak hown m'=>by
       have hgz:∀z∈goes l u s,(Lit.int .i64 z.1).wf=true/\(Lit.int .i64 z.2).wf=true:=fun z hz=>by
        obtain ⟨e1,e2,e3⟩:=(bm HC.out (by rw [HLE.out];exact hun2)).1 z (fw hz).1
        have:=(Utf.dw _).1 e1;rw [HLE.out] at e3;exact ⟨WalkArith.wf_i64 (by omega),WalkArith.wf_i64 (by omega)⟩
       have hars:=Ars.of_owns hown hgz hak;obtain ⟨K',hK'⟩:∃K':Nat->Prop,K'=fun k'=>(K k'\/X.heap.size<=k')/\k'<w7.heap.size:=⟨_,rfl⟩;have hz7:=hb7.size;have hzX:=h4.size
       have hrow:Arow K' w7 aa ak (goes l u s):=by
        exact z24
       have hKlt:∀k',K k'->k'<wr.heap.size/\k'≠R:=fun k' h=>by rw [HKD.out] at h;exact h.2
       have hK7:Keep K wr w7:=(h4.trans ((Keep.of_below hb7).mono fun k' hk' _=>hk')).mono fun k' hk' h=>by
        rw [HKD.out] at h;exact ⟨fun h'=>h.1.elim (fun e=>(HO.out k' h').1 e) (fun e=>by have:=(HO.out k' h').2;omega),h.2.2⟩
       have hall:∀i,i<len->AllAt F W.heap.size K' l len sb so cap wb 0 wc len dc yl da R J Jx (toldG l 0 zs) i:=fun i hi=>vh F hfn hro hd HC.out W.heap.size K' len sb so cap wb 0 wc len dc yl da R J Jx (toldG l 0 zs) HLE.out.symm hl6 ⟨hcp,by unfold maxLen;exact hcm⟩ ⟨hwc1,hwc2⟩ HJ.out HYD.out len i hi (by omega)
       have hroom:Room R len (zs.take k) w7:=by
        exact z28
       have hin:Tin W.heap.size K' l len sb so wb 0 R J (toldG l 0 zs) preJ (zs.take k) ((byA l (goes l u s)).map (zs.take k++·)) O1 w7:=by
        exact z22
       have hcall:=alo F hfn hro hd HC.out W.heap.size K' len sb so cap wb 0 wc len dc yl da R J Jx (toldG l 0 zs) HLE.out.symm hl6 HJ.out u hun2 (goes l u s) (fun a ha=>(fw ha).1) (fun u' _ h=>hall u' h) m' aa ak ac preJ (zs.take k) O1 w7 (by rw [List.length_take];omega) hars.2.1 hars.2.2.1 hrow hin
       rw [List.length_take,HZL.out,Nat.min_eq_left (by omega)] at hcall
       unfold tv at hcall;exact hcall.inRound l2
      have hki:(k:Int)<(y:Int):=by omega
      have hk0:(0:Int)<=(k:Int):=by omega
      have hkl:(k:Int)<=(len:Int):=by omega
      have hfnr:∀f,(F.inRound l2).fn f:=hfn;clear h1 h2 h3 h4 h5 h6 hgc hgc1 hgX hdsX hb0X hno hnoR hs hway hTx
      gi_wp2
      refine bp (S:=(fun w'=>w'.cell? ⟨wn.heap.size,0,none⟩=some (.slice (some ⟨sb,so,none⟩) len cap)/\w'.cell? ⟨wn.heap.size,1,none⟩=some (.slice da len dc)/\w'.cell? ⟨wn.heap.size,2,none⟩=some (.slice (some ⟨wb,0,none⟩) len wc)/\w'.cell? ⟨wn.heap.size,3,none⟩=some (.func (.yield yl) #[] #[])/\w'.cell? ⟨B2,0,none⟩=some (.slice (some ⟨gb,go,none⟩) y cap2)/\w'.cell? ⟨gb,go+k,none⟩=some (.int .i64 s)/\w'.cell? ⟨rb,0,none⟩=some (.slice (some ⟨R,0,none⟩) y len))) (by kernel_rfl) (by first|((first|exact hS8|exact hS7|exact HSK.out _ (Keep.drew _ X)))|((try dsimp only);(first|exact hS8|exact hS7|exact HSK.out _ (Keep.drew _ X)))) (fun hHeld=>?_)
      refine t_f hfnr 0 ?_;refine t_f hfnr 1 ?_;refine t_f hfnr 2 ?_;refine t_f hfnr 3 ?_;refine t_f hfnr 4 ?_;refine t_f hfnr 5 ?_;refine t_f hfnr 6 ?_;refine t_f hfnr 8 ?_;refine t_f hfnr 9 ?_;refine t_f hfnr 10 ?_;refine r_f hfnr 7 (fun K hK=>?_);go_simp
      gi_at_call 147
      refine (HAF.out _).mono ?_;rintro e w7 ⟨aa,ak,ac,rfl,hak,hown,hb7'⟩;have hb7:Below X.heap.size X w7:=(al (Below.refl _ _) ⟨1,rfl⟩:Below X.heap.size X X.drew).trans hb7';have hS7:=HSK.out w7 ((Keep.of_below hb7).mono fun k hk _=>hk);have HOW7:=hdq hown;have HAK7:=hdq hak;clear hown hak
      gi_wp2_with fail
      refine k_h hK (by first|((first|exact hS8|exact hS7|exact HSK.out _ (Keep.drew _ X)))|(dsimp only;(first|exact hS8|exact hS7|exact HSK.out _ (Keep.drew _ X)))) (fun hHeld=>?_)
      clear hK K;refine r_f hfnr 11 (fun K hK=>?_);go_simp
      gi_at_call 146
      refine (HBYC.out w7 aa ak ac hb7 HAK7.out HOW7.out _).mono ?_;rintro e w8x ⟨b9,O9,rfl,hk9,ho9,hr9,ht9,hf9⟩;have hS8:=HSK.out w8x (((Keep.of_below hb7).mono fun k hk _=>hk).trans (hk9.mono fun k _ h=>h));have hk9x:Keep (fun k=>¬U k) X w8x:=((Keep.of_below hb7).mono fun k hk _=>hk).trans (hk9.mono fun k _ h=>⟨fun h'=>h ((HU.out k).2 (.inl h')),fun h'=>h ((HU.out k).2 (.inr h'))⟩);have HK9:=hdq hk9x;have HO9:Hid (∀k,O9 k->O1 k\/X.heap.size<=k/\k<w8x.heap.size):=hdq fun k h=>(ho9 k h).imp id fun h=>⟨by have:=hb7.size;omega,h.2⟩
      have HR9:=hdq hr9;have HT9:=hdq ht9;have HF9:=hdq hf9;clear hk9 hk9x ho9 hr9 ht9 hf9
      gi_wp2_with fail
      refine k_h hK (by first|((first|exact hS8|exact hS7|exact HSK.out _ (Keep.drew _ X)))|(dsimp only;(first|exact hS8|exact hS7|exact HSK.out _ (Keep.drew _ X)))) (fun hHeld=>?_)
      clear hK K;refine t_f hfnr 12 ?_;refine br (by kernel_rfl) ?_ _
      clear hHeld;cases b9
      ·exact z29
      ·obtain ⟨pre9,hn9,hj9⟩:=HT9.out rfl;clear HT9 HF9;have HLN:Hid (LoopI J l zs O R len (y) y wr (pre++[(⟨(k,(u:Int)),hx2⟩:Bi ys)]).length (fun k=>O9 k\/k=R) w8x):=hdq ⟨O9,pre9,k,fun _=>Iff.rfl,by rw [hn9,HPJ.out,<-HBACK.out,List.length_append,List.length_singleton,show y-(pre.length+1)=k by omega],hj9,HKX.out.trans' HK9.out fun k' hk' h=>⟨h,fun h'=>((HU.out k').1 h').elim (fun h''=>(HO1.out k' h'').elim h.1 (fun h3=>by omega)) h.2⟩,fun k' h=>(HO9.out k' h).elim (fun h=>(HO1.out k' h).imp id fun h=>⟨h.1,by have:=HK9.out.size;omega⟩) (fun h=>.inr ⟨by have:=HKX.out.size;omega,h.2⟩),HR9.out,by rw [List.length_append,List.length_singleton];omega,by omega⟩
       clear hn9 hj9
       gi_wp2
       exact ⟨fun k=>O9 k\/k=R,HK9.out,fun k h=>h.elim (fun h=>(HO9.out k h).imp (fun h=>(HU.out k).2 (.inl h)) id) (fun h=>.inl ((HU.out k).2 (.inr h))),HLN.out⟩
     case done =>
      exact z23
     case stop =>
      exact z26

 have HREST:=hdq hrest;have hw1:IntKind.i64.wrap (y:Int)=(y:Int):=by rw [IntKind.wrap_i64];omega
 have hyc:(y:Int)<=(cap2:Int):=by omega
 have hy0:(0:Int)<=(y:Int):=by omega
 have HS2:Hid (∀c,Below wl.heap.size wl c->c.cell? ⟨B1,0,none⟩=some (.slice (some ⟨sb,so,none⟩) len cap)/\c.cell? ⟨B2,0,none⟩=some (.slice b m cap2)):=hdq fun c h=>HCC.out c (HB2.out.trans (h.mono HB2.out.size));have HZ2:Hid (∀c,Below wl.heap.size wl c->Sl .i64 c b y cap2 (zs.take y)):=hdq fun c h=>(HZ.out.below (HBW.out.trans ((HB2.out.trans (h.mono HB2.out.size)).mono hzW)) lrf).cut hym;have hbd:Below wl.heap.size wl wl.drew:=al (Below.refl _ _) ⟨1,rfl⟩;clear hrest hKr e1 e2;refine fx (S:=(fun w'=>w'.cell? ⟨B1,0,none⟩=some (.slice (some ⟨sb,so,none⟩) len cap)/\w'.cell? ⟨B2,0,none⟩=some (.slice b m cap2))) (by kernel_rfl) (by first|((first|exact hSE|exact hSwA|exact hSwB|exact hSwM|exact HS2.out _ hbd))|((try dsimp only);(first|exact hSE|exact hSwA|exact hSwB|exact hSwM|exact HS2.out _ hbd))) (fun hHeld=>?_)
 refine t_f hfn 0 ?_;refine t_f hfn 1 ?_;refine t_f hfn 3 ?_;refine t_f hfn 4 ?_;refine t_f hfn 5 ?_;refine t_f hfn 6 ?_;refine t_f hfn 7 ?_;refine r2_f hfn 2 9 (fun K hK=>?_) (fun K hK=>?_)
 ·refine qg (by rfl) _ (.tmp 16) len (by omega) (by rfl) (by rfl) (by rfl) ?_
  intro R wM hRe hrM hkM;have hbwM:Below wl.heap.size wl wM:=hbd.trans ((hkM (fun _=>True)).below hbd.size (fun _ _=>trivial));have hRl:wl.heap.size<=R:=by rw [hRe];exact hbd.size
  have hroomwM:=hrM;clear hRe;have hSwM:=HS2.out _ hbwM;refine k_h hK (by first|((first|exact hSE|exact hSwA|exact hSwB|exact hSwM|exact HS2.out _ hbd))|(dsimp only;(first|exact hSE|exact hSwA|exact hSwB|exact hSwM|exact HS2.out _ hbd))) (fun hHeld=>?_)
  clear hK K;refine r2_f hfn 8 9 (fun K hK=>?_) (fun K hK=>?_)
  ·refine jo (by rfl) (.tmp 17) (.tmp 22) (by rfl) R len (by rfl) hroomwM b y cap2 (zs.take y) (by rfl) (HZ2.out _ hbwM) hnil (by omega) ?_
   intro wA hroomwA hkA;have hbwA:Below wl.heap.size wl wA:=hbwM.trans (hkA.below hbwM.size (fun k hk=>by omega))
   have hSwA:=HS2.out _ hbwA;refine k_h hK (by first|((first|exact hSE|exact hSwA|exact hSwB|exact hSwM|exact HS2.out _ hbd))|(dsimp only;(first|exact hSE|exact hSwA|exact hSwB|exact hSwM|exact HS2.out _ hbd))) (fun hHeld=>?_)
   clear hK K;refine r_f hfn 9 (fun K hK=>?_);refine ky (by rfl) (by rfl) ?_
   intro rb wB hrbe hboxwB hkB;have hbwB:Below wl.heap.size wl wB:=hbwA.trans ((hkB (fun _=>True)).below hbwA.size (fun _ _=>trivial));have hrl:wl.heap.size<=rb:=by rw [hrbe];exact hbwA.size
   have hroomwB:=hroomwA.keep (hkB (fun _=>True)) trivial;have hne:R≠rb:=by obtain ⟨cur,hcc,_⟩:=hroomwA.obj;have:=(hltq hcc);omega
   clear hrbe;have hSwB:=HS2.out _ hbwB;have hcb:wB.cell? ⟨rb,0,none⟩=some (.slice none 0 0):=(by rw [ae hboxwB];rfl)
   have hfb:wB.frozen? ⟨rb,0,none⟩=false:=frozen_of_row wB _ 0 _ _ hboxwB;have hXE:SeqAt len y zs wl R rb (wB.setCell ⟨rb,0,none⟩ (.slice (some ⟨R,0,none⟩) y len)):=⟨hRl,hrl,hne,hroomwB.keep (Keep.setCell _ ⟨rb,0,none⟩ _ (S:=fun k=>k≠rb) (fun h=>h rfl)) hne,(by rw [heap_setCell_same _ _ _ _ _ _ hboxwB];rfl),hbwB.setCell (p:=⟨rb,0,none⟩) hrl _⟩
   have hSE:=HS2.out _ hXE.2.2.2.2.2;have HXE:=hdq hXE;clear hXE;refine k_h hK (by first|((first|exact hSE|exact hSwA|exact hSwB|exact hSwM|exact HS2.out _ hbd))|(dsimp only;(first|exact hSE|exact hSwA|exact hSwB|exact hSwM|exact HS2.out _ hbd))) (fun hHeld=>?_)
   clear hK K;refine r_f hfn 10 (fun K hK=>?_);go_simp;refine k_h hK (by first|((first|exact hSE|exact hSwA|exact hSwB|exact hSwM|exact HS2.out _ hbd))|(dsimp only;(first|exact hSE|exact hSwA|exact hSwB|exact hSwM|exact HS2.out _ hbd))) (fun hHeld=>?_)
   clear hK K;refine br (by kernel_rfl) ?_ _
   simp only [onlyN];clear hHeld;exact HREST.out _ _ _ HXE.out
  ·refine ky (by rfl) (by rfl) ?_
   intro rb wB hrbe hboxwB hkB;have hbwB:Below wl.heap.size wl wB:=hbwM.trans ((hkB (fun _=>True)).below hbwM.size (fun _ _=>trivial));have hrl:wl.heap.size<=rb:=by rw [hrbe];exact hbwM.size
   have hroomwB:=hroomwM.keep (hkB (fun _=>True)) trivial;have hne:R≠rb:=by obtain ⟨cur,hcc,_⟩:=hroomwM.obj;have:=(hltq hcc);omega
   clear hrbe;have hSwB:=HS2.out _ hbwB;refine k_h hK (by first|((first|exact hSE|exact hSwA|exact hSwB|exact hSwM|exact HS2.out _ hbd))|(dsimp only;(first|exact hSE|exact hSwA|exact hSwB|exact hSwM|exact HS2.out _ hbd))) (fun hHeld=>?_)
   clear hK K;refine r_f hfn 8 (fun K hK=>?_);refine jo (by rfl) (.tmp 17) (.tmp 22) (by rfl) R len (by rfl) hroomwB b y cap2 (zs.take y) (by rfl) (HZ2.out _ hbwB) hnil (by omega) ?_
   intro wA hroomwA hkA;have hbwA:Below wl.heap.size wl wA:=hbwB.trans (hkA.below hbwB.size (fun k hk=>by omega))
   have hboxwA:=hkA.heap hboxwB (by omega)
   have hSwA:=HS2.out _ hbwA;have hcb:wA.cell? ⟨rb,0,none⟩=some (.slice none 0 0):=(by rw [ae hboxwA];rfl)
   have hfb:wA.frozen? ⟨rb,0,none⟩=false:=frozen_of_row wA _ 0 _ _ hboxwA;have hXE:SeqAt len y zs wl R rb (wA.setCell ⟨rb,0,none⟩ (.slice (some ⟨R,0,none⟩) y len)):=⟨hRl,hrl,hne,hroomwA.keep (Keep.setCell _ ⟨rb,0,none⟩ _ (S:=fun k=>k≠rb) (fun h=>h rfl)) hne,(by rw [heap_setCell_same _ _ _ _ _ _ hboxwA];rfl),hbwA.setCell (p:=⟨rb,0,none⟩) hrl _⟩
   have hSE:=HS2.out _ hXE.2.2.2.2.2;have HXE:=hdq hXE;clear hXE;refine k_h hK (by first|((first|exact hSE|exact hSwA|exact hSwB|exact hSwM|exact HS2.out _ hbd))|(dsimp only;(first|exact hSE|exact hSwA|exact hSwB|exact hSwM|exact HS2.out _ hbd))) (fun hHeld=>?_)
   clear hK K;refine r_f hfn 10 (fun K hK=>?_);go_simp;refine k_h hK (by first|((first|exact hSE|exact hSwA|exact hSwB|exact hSwM|exact HS2.out _ hbd))|(dsimp only;(first|exact hSE|exact hSwA|exact hSwB|exact hSwM|exact HS2.out _ hbd))) (fun hHeld=>?_)
   clear hK K;refine br (by kernel_rfl) ?_ _
   simp only [onlyN];clear hHeld;exact HREST.out _ _ _ HXE.out
 ·refine ky (by rfl) (by rfl) ?_
  intro rb wB hrbe hboxwB hkB;have hbwB:Below wl.heap.size wl wB:=hbd.trans ((hkB (fun _=>True)).below hbd.size (fun _ _=>trivial));have hrl:wl.heap.size<=rb:=by rw [hrbe];exact hbd.size
  clear hrbe;have hSwB:=HS2.out _ hbwB;refine k_h hK (by first|((first|exact hSE|exact hSwA|exact hSwB|exact hSwM|exact HS2.out _ hbd))|(dsimp only;(first|exact hSE|exact hSwA|exact hSwB|exact hSwM|exact HS2.out _ hbd))) (fun hHeld=>?_)
  clear hK K;refine r_f hfn 2 (fun K hK=>?_);refine qg (by rfl) _ (.tmp 16) len (by omega) (by rfl) (by rfl) (by rfl) ?_
  intro R wM hRe hrM hkM;have hbwM:Below wl.heap.size wl wM:=hbwB.trans ((hkM (fun _=>True)).below hbwB.size (fun _ _=>trivial));have hRl:wl.heap.size<=R:=by rw [hRe];exact hbwB.size
  have hroomwM:=hrM;have hboxwM:=(hkM (fun _=>True)).heap hboxwB trivial;have hne:R≠rb:=by have:=(hltq hboxwB);omega
  clear hRe;have hSwM:=HS2.out _ hbwM;refine k_h hK (by first|((first|exact hSE|exact hSwA|exact hSwB|exact hSwM|exact HS2.out _ hbd))|(dsimp only;(first|exact hSE|exact hSwA|exact hSwB|exact hSwM|exact HS2.out _ hbd))) (fun hHeld=>?_)
  clear hK K;refine r_f hfn 8 (fun K hK=>?_);refine jo (by rfl) (.tmp 17) (.tmp 22) (by rfl) R len (by rfl) hroomwM b y cap2 (zs.take y) (by rfl) (HZ2.out _ hbwM) hnil (by omega) ?_
  intro wA hroomwA hkA;have hbwA:Below wl.heap.size wl wA:=hbwM.trans (hkA.below hbwM.size (fun k hk=>by omega))
  have hboxwA:=hkA.heap hboxwM (by omega)
  have hSwA:=HS2.out _ hbwA;have hcb:wA.cell? ⟨rb,0,none⟩=some (.slice none 0 0):=(by rw [ae hboxwA];rfl)
  have hfb:wA.frozen? ⟨rb,0,none⟩=false:=frozen_of_row wA _ 0 _ _ hboxwA;have hXE:SeqAt len y zs wl R rb (wA.setCell ⟨rb,0,none⟩ (.slice (some ⟨R,0,none⟩) y len)):=⟨hRl,hrl,hne,hroomwA.keep (Keep.setCell _ ⟨rb,0,none⟩ _ (S:=fun k=>k≠rb) (fun h=>h rfl)) hne,(by rw [heap_setCell_same _ _ _ _ _ _ hboxwA];rfl),hbwA.setCell (p:=⟨rb,0,none⟩) hrl _⟩
  have hSE:=HS2.out _ hXE.2.2.2.2.2;have HXE:=hdq hXE;clear hXE;refine k_h hK (by first|((first|exact hSE|exact hSwA|exact hSwB|exact hSwM|exact HS2.out _ hbd))|(dsimp only;(first|exact hSE|exact hSwA|exact hSwB|exact hSwM|exact HS2.out _ hbd))) (fun hHeld=>?_)
  clear hK K;refine r_f hfn 10 (fun K hK=>?_);go_simp;refine k_h hK (by first|((first|exact hSE|exact hSwA|exact hSwB|exact hSwM|exact HS2.out _ hbd))|(dsimp only;(first|exact hSE|exact hSwA|exact hSwB|exact hSwM|exact HS2.out _ hbd))) (fun hHeld=>?_)
  clear hK K;refine br (by kernel_rfl) ?_ _
  simp only [onlyN];clear hHeld;exact HREST.out _ _ _ HXE.out
end
section
theorem z34 {P:Prop} (h:P:=by
 exact (H6.out.trans (hbB.mono (by omega))).trans ((Keep.of_grownBy (S:=fun q=>q<w1.heap.size) hgr9 (fun r e h=>by have:=((H2.out.below hbB).row.lt r e).1;omega)).below (by omega) (fun _ h=>h) |>.setCell (p:=⟨w1.heap.size,0,none⟩) lrf _)):P:=h
theorem z35 {P:Prop} (h:P:=by
 intro r e;rw [HK1.out] at e;rcases hwh9 with h|h
 ·rw [h] at e;exact .inl (H7.out r e)
 ·rw [h] at e;simp only [sij] at e;exact .inr ⟨by omega,by rw [hsz9];have:=(hml9.row.lt r (by rw [h,e])).2;omega⟩):P:=h
theorem z36 {P:Prop} (h:P:=by
 rw [HK1.out];exact hml9.keep hks (fun r e=>kh hml9.row hox9 aeo e) (fun y hy r e=>kh (hml9.own y hy) hox9 ays e)):P:=h
theorem z37 {P:Prop} (h:P:=by
 rw [HK1.out];exact heap_setCell_same w9 w1.heap.size 0 _ _ (.slice a9 (k+1) c9) hox9):P:=h
open Go.RowKit Go.Shelf Tri Wlk
attribute [local go_sem] Oper.semAt_some

theorem Ml.keep {B:Nat} {w w':World} {a:Option Addr} {L c:Nat} {outs:List Wd} {S:Nat->Prop} (h:Ml B w a L c outs) (hk:Keep S w w') (h1:∀r,(Value.slice a L c).ownBlock=some r->S r) (h2:∀x∈outs,∀r,x.v.ownBlock=some r->S r):Ml B w' a L c outs :=
 ⟨fy h.row hk h1,fun x hx=>fy (h.own x hx) hk (h2 x hx),h.wfs,h.lens,h.len,h.nil⟩
theorem Ml.lower {B B':Nat} {w:World} {a:Option Addr} {L c:Nat} {outs:List Wd} (h:Ml B w a L c outs) (hB:B'<=B):Ml B' w a L c outs :=
 ⟨og h.row hB,fun x hx=>og (h.own x hx) hB,h.wfs,h.lens,h.len,h.nil⟩

theorem agq (F:Fence) (n:Nat) (h5:F.fn 109) (hro:F.round=none) (a b:Option Addr) (len cap m cap2:Nat) (w:World) :
 CallsIn F n Tryz.prog 109 #[.slice a len cap,.slice b m cap2] w fun e w'=>e=.returned (.func (.func 142) #[] #[.pointer (some ⟨w.heap.size,0,none⟩),.pointer (some ⟨w.heap.size+1,0,none⟩)])/\w'=(w.alloc (.cells #[.slice a len cap] 22)).alloc (.cells #[.slice b m cap2] 51):=by
 refine callsIn_of_wp Tryz.func109 rfl h5 ?_ hro;simp only [Tryz.ntmps109,List.size_toArray,List.length_cons,List.length_nil,Nat.reduceAdd,Nat.reduceSub,Array.replicate_succ,Array.replicate_zero,List.push_toArray,List.append_toArray,List.nil_append,List.cons_append]
 gi_wp2
 go_ret;exact ⟨rfl,rfl⟩

theorem ij {F:Fence} {n:Nat} {w:World} {ops:Array Oper} {o:Oper} {act:Act} {K:Act->World->Prop} {Q:Exit->Act->World->Prop} {E:Prop} (hw:Region.wanted o (yielded ops act.tmps)=true) (x:Operand) (a:Option Addr) (k c:Nat)
 (ho:o.op=.buildSlice 29 1 #[(0,x)]) (hx:act.eval x=.slice a k c) (h:∀g w',w'.cell? ⟨g,0,none⟩=some (.slice a k c)->Below w.heap.size w w'->K (act.put o.dst (.slice (some ⟨g,0,none⟩) 1 1)) w') :
 if Region.wanted o (yielded ops act.tmps)=true then o.wpIn F n Tryz.prog act w K Q else E:=by
 rw [if_pos hw];unfold Oper.wpIn;refine ⟨by simp [Oper.about,ho],?_⟩
 rw [Oper.semAt_plain F _ _ (by rw [ho];intro c hc;cases hc)]
 simp only [execOp,ho,List.map_toArray,List.map_cons,List.map_nil,hx];go_simp;exact h _ _ (by rw [World.cell?,han];rfl) ((Below.refl _ w).alloc lrf _)
theorem gu {F:Fence} {m:Nat} {w:World} {ops:Array Oper} {o:Oper} {act:Act} {K:Act->World->Prop} {Q:Exit->Act->World->Prop} {E:Prop} (hw:Region.wanted o (yielded ops act.tmps)=true) (s x:Operand)
 (ho:o.op=.call { callee:=.builtin .append,args:=#[s,x],argTypes:=#[29,29] }) (base:Nat) (v:Value) (n:Nat) (outs:List Wd) (hs:act.eval s=v)
 (hown:w.ownsRow base 51 1 v n (vals outs)) (g:Nat) (y:Wd) (hx:act.eval x=.slice (some ⟨g,0,none⟩) 1 1) (h0:w.cell? ⟨g,0,none⟩=some y.v)
 (N:Nat) (hN:n+1=N) (h63:N*24<=140737488355328) (hbase:base<=w.heap.size)
 (h:∀a' c' w',w'.ownsRow base 51 1 (.slice a' N c') N (vals (outs++[y]))->w.grownBy w' v.ownBlock->(a'=none->c'=0)->((Value.slice a' N c').ownBlock=v.ownBlock\/(Value.slice a' N c').ownBlock=some w.heap.size)->K (act.put o.dst (.slice a' N c')) w') :
 if Region.wanted o (yielded ops act.tmps)=true then o.wpIn F m Tryz.prog act w K Q else E:=by
 subst hN;rw [if_pos hw];obtain ⟨i0,hi,hz0,hz1,hz2⟩:=info_parts zh
 have hnews:∀j u,(vals [y])[j]?=some u->w.cell? ((⟨g,0,none⟩:Addr).add j)=some u:=fun j u hj=>by
  match j,hj with
  | 0,hj=>simp [vals] at hj;rw [<-hj,<-h0];simp [Addr.add]
  | j+1,hj=>simp [vals] at hj
 obtain ⟨v',w',hrun,r1,r2,r3⟩:=run_append_own (P:=Tryz.prog) w base 29 o.type 51 i0 (.slice none 0 0) 1 24 Tryz.underlying29 hi hz0 hz1 hz2 rfl (by decide) v n (vals outs) hown ⟨g,0,none⟩ 1 1 (vals [y]) (by simp [vals]) hnews (sk [y]) (by unfold maxLen;omega) (by omega) hbase
 have hwh:=yq (P:=Tryz.prog) (w:=w) base 29 o.type 51 i0 (.slice none 0 0) 1 24 Tryz.underlying29 hi hz0 hz1 hz2 rfl (by decide) v n (vals outs) hown ⟨g,0,none⟩ 1 1 (vals [y]) (by simp [vals]) hnews (sk [y]) (by unfold maxLen;omega) (by omega) hbase v' w' hrun
 obtain ⟨a',c',rfl,hnil⟩:=jh r1;unfold Oper.wpIn;refine ⟨?_,?_⟩
 ·simp [Oper.about,ho,resolve,Target.leads,Sem.run_pure]
 ·rw [Oper.semAt_plain F _ _ (by rw [ho];intro c hc';cases hc')]
  simp [execOp,ho,resolve,invoke,builtin,hs,hx,hrun,Result.andThen];exact h a' c' w' (by rw [aro];exact r1) r2 hnil hwh
theorem aeo:(51:TypeId)≠29:=by decide
theorem ays:(3:TypeId)≠29:=by decide
theorem kh {w:World} {B:Nat} {e t:TypeId} {size n ob:Nat} {v u:Value} {l:List Value} (h:w.ownsRow B e size v n l) (hb:Boxed w ob t u) (hne:e≠t) {r:Nat} (hr:v.ownBlock=some r):r≠ob:=by
 intro e';subst e';obtain ⟨cur,hc⟩:=fk h hr;have hb':w.heap[r]?=some (.cells #[u] t (0,0)):=hb;rw [hc] at hb';simp only [sij,Obj.cells.injEq] at hb';exact hne hb'.2.1

def OutI (N ob B:Nat) (w:World) (pre:List Wd) (O:Nat->Prop) (X:World):Prop :=
 ∃(a:Option Addr) (c:Nat) (outs:List Wd),Boxed X ob 29 (.slice a pre.length c)/\Ml B X a pre.length c outs/\nums outs=nums pre/\pre.length<=N/\O ob/\Below B w X/\(∀r,(Value.slice a pre.length c).ownBlock=some r->O r)/\∀x∈outs,∀r,x.v.ownBlock=some r->O r
def OutX (L:List (List Int)) (N ob B:Nat) (w:World) (cc c:Code) (O:Nat->Prop) (X:World):Prop :=
 c=cc/\∃(a:Option Addr) (k:Nat) (outs:List Wd),Boxed X ob 29 (.slice a N k)/\Ml B X a N k outs/\nums outs=L.take N/\O ob/\Below B w X/\(∀r,(Value.slice a N k).ownBlock=some r->O r)/\∀x∈outs,∀r,x.v.ownBlock=some r->O r
theorem apl {N ob B:Nat} {w:World} {pre:List Wd} {O:Nat->Prop} {X X':World} {base:Nat} (hB:B<=base) (hw:B<=w.heap.size) (h:OutI N ob B w pre O X) (hk:Keep (fun k=>k<base\/O k) X X'):OutI N ob B w pre O X':=by
 obtain ⟨a,c,outs,h1,h2,h3,h4,h5,h6,h7,h8⟩:=h;exact ⟨a,c,outs,hk.boxed h1 (.inr h5),h2.keep hk (fun r e=>.inr (h7 r e)) (fun x hx r e=>.inr (h8 x hx r e)),h3,h4,h5,h6.trans (hk.below (Nat.le_trans hw h6.size) (fun k h=>.inl (by omega))),h7,h8⟩
theorem apm {L:List (List Int)} {N ob B:Nat} {w:World} {cc c:Code} {O:Nat->Prop} {X X':World} {base:Nat} (hB:B<=base) (hw:B<=w.heap.size) (h:OutX L N ob B w cc c O X) (hk:Keep (fun k=>k<base\/O k) X X'):OutX L N ob B w cc c O X':=by
 obtain ⟨hc,a,k,outs,h1,h2,h3,h5,h6,h7,h8⟩:=h;exact ⟨hc,a,k,outs,hk.boxed h1 (.inr h5),h2.keep hk (fun r e=>.inr (h7 r e)) (fun x hx r e=>.inr (h8 x hx r e)),h3,h5,h6.trans (hk.below (Nat.le_trans hw h6.size) (fun k h=>.inl (by omega))),h7,h8⟩

theorem apn {l:List St} (hc:check l=true) (a b:Option Addr) (len cap m cap2:Nat) (xs:List Sw) (zs:List Int) (N:Nat) (hN:N<=300) (w:World) (hx:Ss w a len cap xs) (hxs:sts xs=l) (hz:Sl .i64 w b m cap2 zs) (hnil:b=none->cap2=0) :
 Calls Tryz.prog 63 #[.slice a len cap,.slice b m cap2,.int .i64 (N:Int)] w fun e w'=>∃a' k c' outs,e=.returned (.tuple #[.slice a' k c',.int .i64 0])/\Ml w.heap.size w' a' k c' outs/\nums outs=(ge l 0 zs).take N/\Below w.heap.size w w':=by
 refine (callsIn_wide (n:=20)).1 ?_;obtain ⟨F,hF⟩:∃F,F=Fence.wide:=⟨_,rfl⟩;have hfn:∀f,F.fn f:=by subst hF;exact fun _=>trivial
 have hro:F.round=none:=by subst hF;rfl
 have hd:F.depth=none:=by subst hF;rfl
 have HCK:Hid (∀(k:Nat) (X:World),Ss X a len cap xs->CallsIn F k Tryz.prog 26 #[.slice a len cap] X fun e w'=>e=.returned (.bool true)/\Below X.heap.size X w'):=hdq fun k X h=>by subst hF;exact callsIn_wide.2 (ey a len cap xs true X h (by rw [hxs];exact hc))
 have HCL:Hid (∀(k:Nat) (X:World) (x:Wd),WdAt x X->CallsIn F k Tryz.prog 71 #[x.v] X fun e w'=>∃a' c',e=.returned (.slice a' x.n c')/\w'.ownsRow X.heap.size 3 1 (.slice a' x.n c') x.n (ah x.zs)/\Below X.heap.size X w'):=hdq fun k X x h=>by subst hF;exact callsIn_wide.2 (qp x.a x.n x.cap x.zs X h.1 (fun e=>absurd e h.2.2) (by have:=h.2.1;omega))
 rw [<-hF];have hmx:Tryz.prog.follows .mixedOrders=true:=by kernel_rfl
 have HX:=hdq hx;have HZ:=hdq hz;have HXS:=hdq hxs;have HC:=hdq hc;have HFW:=hdq hF;have HB0:∀o,Hid (Below w.heap.size w (w.alloc o)):=fun o=>hdq ((Below.refl _ w).alloc lrf o);clear hx hz hxs hc hF;refine callsIn_of_wp_marks Tryz.func63 rfl (hfn _) ?_ hro;simp only [Tryz.ntmps63,List.size_toArray,List.length_cons,List.length_nil,Nat.reduceAdd,Nat.reduceSub,Array.replicate_succ,Array.replicate_zero,List.push_toArray,List.append_toArray,List.nil_append,List.cons_append];have hn0:decide ((N:Int)<0)=false:=decide_eq_false (by omega)
 have hn3:decide ((N:Int)>300)=false:=decide_eq_false (by omega)
 have hn00:¬(N:Int)<0:=by omega
 have hn33:¬(300:Int)<(N:Int):=by omega
 gi_wp2_with (first
  | (gi_at_call 26;refine (HCK.out _ _ (HX.out.alloc _)).mono ?_;rintro e w1 ⟨rfl,hb1⟩;have hbn:w1.cell? ⟨w.heap.size,0,none⟩=some (.int .i64 (N:Int)):=(by rw [hb1.cell (p:=⟨w.heap.size,0,none⟩) (by simp)];rw [ae (han w _)];rfl);have HB1:=hdq hb1;clear hb1)
  | (gi_at_call 109;refine (agq F _ (hfn _) hro _ _ _ _ _ _ _).mono ?_;rintro e w2 ⟨rfl,rfl⟩))
 obtain ⟨wz,hwz⟩:∃wz,wz=((w1.alloc (.cells #[.slice none 0 0] 29)).alloc (.cells #[.slice a len cap] 22)).alloc (.cells #[.slice b m cap2] 51):=⟨_,rfl⟩;have zz:wz.heap.size=w1.heap.size+1+1+1:=by rw [hwz];simp
 have hz1:w.heap.size+1<=w1.heap.size:=by have:=HB1.out.size;simpa using this
 have k1:∀S,Keep S w1 wz:=fun S=>by rw [hwz];exact ((Keep.alloc S w1 _).trans (Keep.alloc S _ _)).trans (Keep.alloc S _ _)
 have hbo:Boxed wz w1.heap.size 29 (.slice none 0 0):=by
  rw [hwz];exact ((Keep.alloc (fun _=>True) _ _).trans (Keep.alloc (fun _=>True) _ _)).boxed (Boxed.new w1 29 (.slice none 0 0)) trivial
 have hc1:wz.cell? ⟨w1.heap.size+1,0,none⟩=some (.slice a len cap):=by
  have h:=han (w1.alloc (.cells #[.slice none 0 0] 29)) (.cells #[.slice a len cap] 22);rw [World.size_alloc] at h;rw [hwz,ae ((Keep.alloc (fun _=>True) _ _).heap h trivial)];rfl
 have hc2:wz.cell? ⟨w1.heap.size+1+1,0,none⟩=some (.slice b m cap2):=by
  have h:=han ((w1.alloc (.cells #[.slice none 0 0] 29)).alloc (.cells #[.slice a len cap] 22)) (.cells #[.slice b m cap2] 51);rw [World.size_alloc,World.size_alloc] at h;rw [hwz,ae h];rfl
 have hbw1:Below w.heap.size w w1:=(HB0 _).out.trans (HB1.out.mono (by simp))
 have hbz:Below w1.heap.size w1 wz:=(k1 (fun _=>True)).below lrf (fun _ _=>trivial);have hbwz:Below w.heap.size w wz:=hbw1.trans (hbz.mono (by omega))
 have hzl:=HX.out.2.2.1;have HN:Hid (∀X,Below w1.heap.size w1 X->X.cell? ⟨w.heap.size,0,none⟩=some (.int .i64 (N:Int))):=hdq fun X h=>by rw [h.cell (p:=⟨w.heap.size,0,none⟩) (by show w.heap.size<w1.heap.size;omega)];exact hbn
 have hiter:=atl F HFW.out (20-1) HC.out a b len cap m cap2 xs zs w wz HX.out HXS.out HZ.out hnil (w1.heap.size+1) (w1.heap.size+1+1) (fun k=>k<wz.heap.size/\k≠w1.heap.size) (fun k hk=>⟨by omega,by omega⟩) ⟨by omega,by omega⟩ ⟨by omega,by omega⟩ (fun k hk=>hk.1) hbwz hc1 hc2
 rw [<-hwz];have HBW1:=hdq hbw1;clear hwz hbwz hc1 hc2 hbn k1 hbw1
 refine jn hro (fun h=>by rw [hd] at h;cases h) (gf:=142) (lb:=#[.pointer (some ⟨w1.heap.size+1,0,none⟩),.pointer (some ⟨w1.heap.size+1+1,0,none⟩)]) rfl (hfn _) (enters_of Tryz.func142 (by kernel_rfl) rfl)
  hiter (fun x X b r o h hb=>h.put o hb) (Keep.refl _ _) (fun k hk=>hk.1) (fun _=>rfl)
  (fun pre O X=>OutI N w1.heap.size w1.heap.size w1 pre O X) (fun c _ O X=>OutX (toldG l 0 zs) N w1.heap.size w1.heap.size w1 (.exit 0) c O X) (fun _ _ _ _ h hk=>apl (by omega) lrf h hk) (fun _ _ _ _ _ h hk=>apm (by omega) lrf h hk)
  (fun k=>k=w1.heap.size) (by rintro k rfl;exact ⟨fun h=>h.2 rfl,by omega⟩)
  ⟨none,0,[],hbo,Ml.start _ _,rfl,Nat.zero_le _,rfl,hbz,(fun r e=>by cases e),(fun x hx=>by cases hx)⟩
  (fun x=>{ tmps:=#[.slice a len cap,.slice b m cap2,.int .i64 (N:Int),undef,undef,.pointer (some ⟨w.heap.size,0,none⟩),.slice none 0 0,.int .i64 0,.pointer (some ⟨w1.heap.size,0,none⟩),x.v,.slice a len cap,.bool true,.bool false,.int .i64 (N:Int),.bool false,.bool false,.int .i64 (N:Int),.bool false,.bool false,.slice a len cap,.slice b m cap2,
   .func (.func 142) #[] #[.pointer (some ⟨w1.heap.size+1,0,none⟩),.pointer (some ⟨w1.heap.size+1+1,0,none⟩)],x.v,undef,undef,undef,undef,undef,undef,undef,undef,undef,undef],defers:=[] }) ?assign ?body ?done ?stop
 case assign =>
  intro l2 x X K' hK'
  gi_wp2
  exact hK'
 case body =>
  rintro l2 pre x O X hT hAt ⟨a',c',outs,h1,h2,h3,h4,h5,h6,h7,h8⟩ hlt hsz2;obtain ⟨⟨xa,xn,xc,xz⟩,hxe⟩:∃y,y=x:=⟨x,rfl⟩;have hco:=h1.cell;have hcn:=HN.out X h6;obtain ⟨k,hk⟩:∃k,k=pre.length:=⟨_,rfl⟩;rw [<-hk] at h1 h2 h4 h7 hco;have HT:=hdq hT;have HK:=hdq hk;have H1:=hdq h1;have H2:=hdq h2;have H3:=hdq h3;have H5:=hdq h5;have H6:=hdq h6;have H7:=hdq h7;have H8:=hdq h8;have hzX:wz.heap.size<=X.heap.size:=hsz2;by_cases hkN:k=N
  ·have hkb:((k:Int)==(N:Int))=true:=by simp [hkN]
   have HX9:Hid (OutX (toldG l 0 zs) N w1.heap.size w1.heap.size w1 (.exit 0) (.exit 0) O X):=hdq (by
    rw [hkN] at h1 h2 h7;refine ⟨rfl,a',c',outs,h1,h2,?_,h5,h6,h7,h8⟩;rw [h3];have hp:=List.IsPrefix.trans (show nums pre <+: nums (pre++[x]) from by rw [nums_app];exact List.prefix_append _ _) hT
    have:=List.prefix_iff_eq_take.1 hp;rw [bq,<-hk,hkN] at this
    exact this)
   clear hT hAt h1 h2 h3 h5 h6 h7 h8 hk hkN hxe
   gi_wp2
   exact ⟨O,Keep.refl _ _,fun _ h=>.inl h,HX9.out⟩
  ·have hkb:((k:Int)==(N:Int))=false:=by simp;omega
   have hkn:¬(k:Int)=(N:Int):=by omega
   have HCX:=hdq (fun (m':Nat)=>(HCL.out m' X.drew x ⟨hAt.1,hAt.2⟩).inRound l2)
   have HCO:Hid (∀W,Below X.heap.size X W->W.heap[w1.heap.size]?=some (.cells #[.slice a' k c'] 29 (0,0))/\W.cell? ⟨w1.heap.size,0,none⟩=some (.slice a' k c')):=hdq fun W hW=>by
    have h:W.heap[w1.heap.size]?=_:=(hW.block w1.heap.size (by omega)).trans h1
    exact ⟨h,by rw [ae h];rfl⟩
   have hDX:Below X.heap.size X X.drew:=al (Below.refl _ _) ⟨1,rfl⟩;have hcd:=(HCO.out _ hDX).2;have hxn:xn<=10000:=by have:=hAt.2.1;rw [<-hxe] at this;exact this
   have HXW:Hid (∀z∈xz,(Lit.int .i64 z).wf=true):=hdq (by have:=hAt.1.2.2.2.1;rw [<-hxe] at this;exact this)
   have HXL:Hid (xz.length=xn):=hdq (by have:=hAt.1.1;rw [<-hxe] at this;exact this)
   rw [<-hxe] at HCX;have HNX:Hid (nums (pre++[x])=nums pre++[xz]):=hdq (by rw [nums_app,<-hxe];rfl)
   have hk1:(pre++[x]).length=k+1:=by rw [List.length_append,List.length_singleton,hk]
   have HK1:=hdq hk1;obtain ⟨pre1,hpre1⟩:∃pre1,pre1=pre++[x]:=⟨_,rfl⟩;rw [<-hpre1] at HNX HK1 ⊢;subst hxe;have hfnr:∀f,(F.inRound l2).fn f:=hfn;have hkN':k+1<=N:=by omega
   clear hT hAt h1 h2 h3 h5 h6 h7 h8 hk1 hk hpre1 hkN HT
   gi_wp2
   refine bp (S:=(fun _=>True)) (by kernel_rfl) (by first|(trivial)|((try dsimp only);trivial)) (fun hHeld=>?_)
   refine t_f hfnr 1 ?_;refine r2_f hfnr 0 2 (fun K hK=>?_) (fun K hK=>?_)
   ·go_simp;refine k_h hK (by trivial) (fun hHeld=>?_)
    clear hK K;refine r_f hfnr 2 (fun K hK=>?_);go_simp
    gi_at_call 71
    refine (HCX.out _).mono ?_;rintro e w7 ⟨a7,c7,rfl,hown7,hb7'⟩;have hb7:Below X.heap.size X w7:=hDX.trans hb7';have hc7:=(HCO.out _ hb7).2;have HO7:=hdq hown7;clear hown7
    gi_wp2_with fail
    refine k_h hK (by trivial) (fun hHeld=>?_)
    clear hK K;refine r_f hfnr 3 (fun K hK=>?_);refine ij (by rfl) (.tmp 29) a7 xn c7 (by rfl) (by rfl) ?_
    intro gB wB hcB hbB';have hbB:Below X.heap.size X wB:=hb7.trans (hbB'.mono hb7.size);have hcBo:=(HCO.out _ hbB).2;have HOB:=hdq (af HO7.out hbB' lrf);refine k_h hK (by trivial) (fun hHeld=>?_)
    clear hK K;refine r_f hfnr 4 (fun K hK=>?_);refine gu (by rfl) (.tmp 27) (.tmp 30) (by rfl) w1.heap.size (.slice a' k c') k outs (by rfl) (H2.out.below hbB).row gB ⟨a7,xn,c7,xz⟩ (by rfl) hcB (k+1) rfl (by omega) (by have:=hbB.size;omega) ?_
    intro a9 c9 w9 hrow9 hgr9 hnil9 hwh9;have hbx9:Boxed wB w1.heap.size 29 (.slice a' k c'):=(HCO.out _ hbB).1;have hox9:Boxed w9 w1.heap.size 29 (.slice a' k c'):=(hgr9.block w1.heap.size (by have:=hbB.size;omega) (fun e=>kh (H2.out.below hbB).row hbx9 aeo e.symm rfl)).trans hbx9
    have hc9:w9.cell? ⟨w1.heap.size,0,none⟩=some (.slice a' k c'):=hox9.cell;have hf9:w9.frozen? ⟨w1.heap.size,0,none⟩=false:=hox9.frozen;have hml9:=(H2.out.below hbB).add ⟨a7,xn,c7,xz⟩ (fp HOB.out (by show w1.heap.size<=X.heap.size;omega)) HXW.out HXL.out hrow9 hgr9 hnil9
    have HE:Hid (OutI N w1.heap.size w1.heap.size w1 pre1 (fun q=>O q\/X.heap.size<=q/\q<(w9.setCell ⟨w1.heap.size,0,none⟩ (.slice a9 (k+1) c9)).heap.size) (w9.setCell ⟨w1.heap.size,0,none⟩ (.slice a9 (k+1) c9))/\Keep (fun q=>¬O q) X (w9.setCell ⟨w1.heap.size,0,none⟩ (.slice a9 (k+1) c9))):=hdq (by
     have hsz9:(w9.setCell ⟨w1.heap.size,0,none⟩ (.slice a9 (k+1) c9)).heap.size=w9.heap.size:=by simp [World.setCell]
     have hgs:=hgr9.size;have hbs:=hbB.size;have hks:Keep (fun q=>q≠w1.heap.size) w9 (w9.setCell ⟨w1.heap.size,0,none⟩ (.slice a9 (k+1) c9)):=Keep.setCell _ _ _ (fun h=>h rfl);have hbw9:Keep (fun q=>¬O q) wB w9:=Keep.of_grownBy hgr9 fun r e=>fun h=>h (H7.out r e);refine ⟨⟨a9,c9,outs++[(⟨a7,xn,c7,xz⟩:Wd)],?_,?_,?_,by rw [HK1.out];exact hkN',.inl H5.out,?_,?_,?_⟩,((Keep.of_below hbB).mono fun q hq _=>hq).trans (hbw9.trans (Keep.setCell _ _ _ (fun h=>h H5.out)))⟩
     ·exact z37
     ·exact z36
     ·rw [nums_app,H3.out,HNX.out];rfl
     ·exact z34
     ·exact z35
     ·intro y hy r e;rcases map1 hy with hy|hy
      ·exact .inl (H8.out y hy r e)
      ·rw [msg hy] at e;have h:=HOB.out.lt r e;exact .inr ⟨h.1,by rw [hsz9];omega⟩)
    clear hml9 hrow9 hgr9 hnil9 hwh9 hbx9 hox9;refine k_h hK (by trivial) (fun hHeld=>?_)
    clear hK K;refine r_f hfnr 5 (fun K hK=>?_);go_simp;refine k_h hK (by trivial) (fun hHeld=>?_)
    clear hK K;refine br (by kernel_rfl) ?_ _
    clear hHeld;exact ⟨_,HE.out.2,fun q h=>h,HE.out.1⟩
   ·go_simp
    gi_at_call 71
    refine (HCX.out _).mono ?_;rintro e w7 ⟨a7,c7,rfl,hown7,hb7'⟩;have hb7:Below X.heap.size X w7:=hDX.trans hb7';have hc7:=(HCO.out _ hb7).2;have HO7:=hdq hown7;clear hown7
    gi_wp2_with fail
    refine k_h hK (by trivial) (fun hHeld=>?_)
    clear hK K;refine r2_f hfnr 0 3 (fun K hK=>?_) (fun K hK=>?_)
    ·go_simp;refine k_h hK (by trivial) (fun hHeld=>?_)
     clear hK K;refine r_f hfnr 3 (fun K hK=>?_);refine ij (by rfl) (.tmp 29) a7 xn c7 (by rfl) (by rfl) ?_
     intro gB wB hcB hbB';have hbB:Below X.heap.size X wB:=hb7.trans (hbB'.mono hb7.size);have hcBo:=(HCO.out _ hbB).2;have HOB:=hdq (af HO7.out hbB' lrf);refine k_h hK (by trivial) (fun hHeld=>?_)
     clear hK K;refine r_f hfnr 4 (fun K hK=>?_);refine gu (by rfl) (.tmp 27) (.tmp 30) (by rfl) w1.heap.size (.slice a' k c') k outs (by rfl) (H2.out.below hbB).row gB ⟨a7,xn,c7,xz⟩ (by rfl) hcB (k+1) rfl (by omega) (by have:=hbB.size;omega) ?_
     intro a9 c9 w9 hrow9 hgr9 hnil9 hwh9;have hbx9:Boxed wB w1.heap.size 29 (.slice a' k c'):=(HCO.out _ hbB).1;have hox9:Boxed w9 w1.heap.size 29 (.slice a' k c'):=(hgr9.block w1.heap.size (by have:=hbB.size;omega) (fun e=>kh (H2.out.below hbB).row hbx9 aeo e.symm rfl)).trans hbx9
     have hc9:w9.cell? ⟨w1.heap.size,0,none⟩=some (.slice a' k c'):=hox9.cell;have hf9:w9.frozen? ⟨w1.heap.size,0,none⟩=false:=hox9.frozen;have hml9:=(H2.out.below hbB).add ⟨a7,xn,c7,xz⟩ (fp HOB.out (by show w1.heap.size<=X.heap.size;omega)) HXW.out HXL.out hrow9 hgr9 hnil9
     have HE:Hid (OutI N w1.heap.size w1.heap.size w1 pre1 (fun q=>O q\/X.heap.size<=q/\q<(w9.setCell ⟨w1.heap.size,0,none⟩ (.slice a9 (k+1) c9)).heap.size) (w9.setCell ⟨w1.heap.size,0,none⟩ (.slice a9 (k+1) c9))/\Keep (fun q=>¬O q) X (w9.setCell ⟨w1.heap.size,0,none⟩ (.slice a9 (k+1) c9))):=hdq (by
      have hsz9:(w9.setCell ⟨w1.heap.size,0,none⟩ (.slice a9 (k+1) c9)).heap.size=w9.heap.size:=by simp [World.setCell]
      have hgs:=hgr9.size;have hbs:=hbB.size;have hks:Keep (fun q=>q≠w1.heap.size) w9 (w9.setCell ⟨w1.heap.size,0,none⟩ (.slice a9 (k+1) c9)):=Keep.setCell _ _ _ (fun h=>h rfl);have hbw9:Keep (fun q=>¬O q) wB w9:=Keep.of_grownBy hgr9 fun r e=>fun h=>h (H7.out r e);refine ⟨⟨a9,c9,outs++[(⟨a7,xn,c7,xz⟩:Wd)],?_,?_,?_,by rw [HK1.out];exact hkN',.inl H5.out,?_,?_,?_⟩,((Keep.of_below hbB).mono fun q hq _=>hq).trans (hbw9.trans (Keep.setCell _ _ _ (fun h=>h H5.out)))⟩
      ·exact z37
      ·exact z36
      ·rw [nums_app,H3.out,HNX.out];rfl
      ·exact z34
      ·exact z35
      ·intro y hy r e;rcases map1 hy with hy|hy
       ·exact .inl (H8.out y hy r e)
       ·rw [msg hy] at e;have h:=HOB.out.lt r e;exact .inr ⟨h.1,by rw [hsz9];omega⟩)
     clear hml9 hrow9 hgr9 hnil9 hwh9 hbx9 hox9;refine k_h hK (by trivial) (fun hHeld=>?_)
     clear hK K;refine r_f hfnr 5 (fun K hK=>?_);go_simp;refine k_h hK (by trivial) (fun hHeld=>?_)
     clear hK K;refine br (by kernel_rfl) ?_ _
     clear hHeld;exact ⟨_,HE.out.2,fun q h=>h,HE.out.1⟩
    ·refine ij (by rfl) (.tmp 29) a7 xn c7 (by rfl) (by rfl) ?_
     intro gB wB hcB hbB';have hbB:Below X.heap.size X wB:=hb7.trans (hbB'.mono hb7.size);have hcBo:=(HCO.out _ hbB).2;have HOB:=hdq (af HO7.out hbB' lrf);refine k_h hK (by trivial) (fun hHeld=>?_)
     clear hK K;refine r_f hfnr 0 (fun K hK=>?_);go_simp;refine k_h hK (by trivial) (fun hHeld=>?_)
     clear hK K;refine r_f hfnr 4 (fun K hK=>?_);refine gu (by rfl) (.tmp 27) (.tmp 30) (by rfl) w1.heap.size (.slice a' k c') k outs (by rfl) (H2.out.below hbB).row gB ⟨a7,xn,c7,xz⟩ (by rfl) hcB (k+1) rfl (by omega) (by have:=hbB.size;omega) ?_
     intro a9 c9 w9 hrow9 hgr9 hnil9 hwh9;have hbx9:Boxed wB w1.heap.size 29 (.slice a' k c'):=(HCO.out _ hbB).1;have hox9:Boxed w9 w1.heap.size 29 (.slice a' k c'):=(hgr9.block w1.heap.size (by have:=hbB.size;omega) (fun e=>kh (H2.out.below hbB).row hbx9 aeo e.symm rfl)).trans hbx9
     have hc9:w9.cell? ⟨w1.heap.size,0,none⟩=some (.slice a' k c'):=hox9.cell;have hf9:w9.frozen? ⟨w1.heap.size,0,none⟩=false:=hox9.frozen;have hml9:=(H2.out.below hbB).add ⟨a7,xn,c7,xz⟩ (fp HOB.out (by show w1.heap.size<=X.heap.size;omega)) HXW.out HXL.out hrow9 hgr9 hnil9
     have HE:Hid (OutI N w1.heap.size w1.heap.size w1 pre1 (fun q=>O q\/X.heap.size<=q/\q<(w9.setCell ⟨w1.heap.size,0,none⟩ (.slice a9 (k+1) c9)).heap.size) (w9.setCell ⟨w1.heap.size,0,none⟩ (.slice a9 (k+1) c9))/\Keep (fun q=>¬O q) X (w9.setCell ⟨w1.heap.size,0,none⟩ (.slice a9 (k+1) c9))):=hdq (by
      have hsz9:(w9.setCell ⟨w1.heap.size,0,none⟩ (.slice a9 (k+1) c9)).heap.size=w9.heap.size:=by simp [World.setCell]
      have hgs:=hgr9.size;have hbs:=hbB.size;have hks:Keep (fun q=>q≠w1.heap.size) w9 (w9.setCell ⟨w1.heap.size,0,none⟩ (.slice a9 (k+1) c9)):=Keep.setCell _ _ _ (fun h=>h rfl);have hbw9:Keep (fun q=>¬O q) wB w9:=Keep.of_grownBy hgr9 fun r e=>fun h=>h (H7.out r e);refine ⟨⟨a9,c9,outs++[(⟨a7,xn,c7,xz⟩:Wd)],?_,?_,?_,by rw [HK1.out];exact hkN',.inl H5.out,?_,?_,?_⟩,((Keep.of_below hbB).mono fun q hq _=>hq).trans (hbw9.trans (Keep.setCell _ _ _ (fun h=>h H5.out)))⟩
      ·exact z37
      ·exact z36
      ·rw [nums_app,H3.out,HNX.out];rfl
      ·exact z34
      ·exact z35
      ·intro y hy r e;rcases map1 hy with hy|hy
       ·exact .inl (H8.out y hy r e)
       ·rw [msg hy] at e;have h:=HOB.out.lt r e;exact .inr ⟨h.1,by rw [hsz9];omega⟩)
     clear hml9 hrow9 hgr9 hnil9 hwh9 hbx9 hox9;refine k_h hK (by trivial) (fun hHeld=>?_)
     clear hK K;refine r_f hfnr 5 (fun K hK=>?_);go_simp;refine k_h hK (by trivial) (fun hHeld=>?_)
     clear hK K;refine br (by kernel_rfl) ?_ _
     clear hHeld;exact ⟨_,HE.out.2,fun q h=>h,HE.out.1⟩
 case done =>
  rintro D xsd O X hD hUD hxs1 ⟨a',c',outs,h1,h2,h3,h4,h5,h6,h7,h8⟩ hK;have hc:=h1.cell;have kD:Keep O X (X.putObj D (.deferred none)):=Keep.putObj _ _ _ hUD;have h2':=h2.keep kD h7 h8;have hb':Below w1.heap.size w1 (X.putObj D (.deferred none)):=h6.trans ((Keep.putObj (S:=fun k=>k<w1.heap.size) X D _ (by omega)).below h6.size (fun _ h=>h))
  have hnum:nums outs=(ge l 0 zs).take N:=by
   have hp:=(uh HC.out zs (i:=0) (by have:=(cp HC.out).1;omega)).take hN
   rw [<-hp,h3,hxs1,tol];rw [<-hxs1,bq];exact h4
  have HR:=hdq (And.intro (h2'.lower (B':=w.heap.size) (by omega)) (And.intro hnum (HBW1.out.trans (hb'.mono (by omega)))))
  clear h1 h2 h2' h3 h5 h6 h7 h8 kD hb' hnum hxs1
  gi_wp2
  refine ⟨by simp,.inl ⟨_,_,rfl,run_takeDeferred hK,?_⟩⟩
  exact ⟨_,results_tmp2 rfl _ _ _,a',xsd.length,c',outs,rfl,HR.out.1,HR.out.2.1,HR.out.2.2⟩
 case stop =>
  rintro D c pre O X hD hUD-⟨rfl,a',c',outs,h1,h2,h3,h5,h6,h7,h8⟩ hK;have hc:=h1.cell;have kD:Keep O X (X.putObj D (.deferred none)):=Keep.putObj _ _ _ hUD;have h2':=h2.keep kD h7 h8;have hb':Below w1.heap.size w1 (X.putObj D (.deferred none)):=h6.trans ((Keep.putObj (S:=fun k=>k<w1.heap.size) X D _ (by omega)).below h6.size (fun _ h=>h))
  have hnum:nums outs=(ge l 0 zs).take N:=by
   have hp:=(uh HC.out zs (i:=0) (by have:=(cp HC.out).1;omega)).take hN
   rw [<-hp,h3]
  have HR:=hdq (And.intro (h2'.lower (B':=w.heap.size) (by omega)) (And.intro hnum (HBW1.out.trans (hb'.mono (by omega)))))
  clear h1 h2 h2' h3 h5 h6 h7 h8 kD hb' hnum
  gi_wp2
  refine ⟨by simp,.inl ⟨_,_,rfl,run_takeDeferred hK,?_⟩⟩
  exact ⟨_,results_tmp2 rfl _ _ _,a',N,c',outs,rfl,HR.out.1,HR.out.2.1,HR.out.2.2⟩

def ToldW (w:World) (L:List (List Int)) (er:Int) (e:Ending) (w':World):Prop:=∃a' k c' outs,e=.returned (.tuple #[.slice a' k c',.int .i64 er])/\Ml w.heap.size w' a' k c' outs/\nums outs=L/\Below w.heap.size w w'
theorem atm (a b:Option Addr) (len cap m cap2:Nat) (xs:List Sw) (zs:List Int) (n:Int) (w:World) (L:List (List Int)) (er:Int) (hx:Ss w a len cap xs) (hz:Sl .i64 w b m cap2 zs) (hnil:b=none->cap2=0) (hr:fromC (sts xs) zs n=(L,er)) :
 Calls Tryz.prog 63 #[.slice a len cap,.slice b m cap2,.int .i64 n] w fun e w'=>ToldW w L er e w':=by
 have HX:=hdq hx;cases hcc:check (sts xs)
 ·have hr0:L=[]/\er=100:=by unfold fromC at hr;rw [if_pos hcc] at hr;cases hr;exact ⟨rfl,rfl⟩
  obtain ⟨rfl,rfl⟩:=hr0;have HB0:∀o,Hid (Below w.heap.size w (w.alloc o)):=fun o=>hdq ((Below.refl _ w).alloc lrf o);clear hx hr hz hnil;go_enter Tryz.func63,Tryz.ntmps63;go_wp2_with (go_at_call 26;refine (ey a len cap xs false _ (HX.out.alloc _) hcc).mono ?_;rintro e w1 ⟨rfl,hb1⟩);go_ret2;exact ⟨none,0,0,[],rfl,Ml.start _ _,rfl,(HB0 _).out.trans (hb1.mono (by simp))⟩
 ·by_cases hn0:n<0
  ·have hr0:L=[]/\er=1:=by unfold fromC at hr;rw [if_neg (by rw [hcc];exact Bool.noConfusion),if_pos (.inl hn0)] at hr;cases hr;exact ⟨rfl,rfl⟩
   obtain ⟨rfl,rfl⟩:=hr0;have HB0:∀o,Hid (Below w.heap.size w (w.alloc o)):=fun o=>hdq ((Below.refl _ w).alloc lrf o);have hd:decide (n<0)=true:=decide_eq_true hn0;clear hx hr hz hnil;go_enter Tryz.func63,Tryz.ntmps63;go_wp2_with (go_at_call 26;refine (ey a len cap xs true _ (HX.out.alloc _) hcc).mono ?_;rintro e w1 ⟨rfl,hb1⟩;have hbn:w1.cell? ⟨w.heap.size,0,none⟩=some (.int .i64 n):=(by rw [hb1.cell (p:=⟨w.heap.size,0,none⟩) (by simp)];rw [ae (han w _)];rfl);have HB1:=hdq hb1;clear hb1)
   go_ret2;exact ⟨none,0,0,[],rfl,Ml.start _ _,rfl,(HB0 _).out.trans (HB1.out.mono (by simp))⟩
  ·by_cases hn3:300<n
   ·have hr0:L=[]/\er=1:=by unfold fromC at hr;rw [if_neg (by rw [hcc];exact Bool.noConfusion),if_pos (.inr hn3)] at hr;cases hr;exact ⟨rfl,rfl⟩
    obtain ⟨rfl,rfl⟩:=hr0;have HB0:∀o,Hid (Below w.heap.size w (w.alloc o)):=fun o=>hdq ((Below.refl _ w).alloc lrf o);have hd:decide (n<0)=false:=decide_eq_false hn0;have hd3:decide (n>300)=true:=decide_eq_true hn3;clear hx hr hz hnil;go_enter Tryz.func63,Tryz.ntmps63;go_wp2_with (go_at_call 26;refine (ey a len cap xs true _ (HX.out.alloc _) hcc).mono ?_;rintro e w1 ⟨rfl,hb1⟩;have hbn:w1.cell? ⟨w.heap.size,0,none⟩=some (.int .i64 n):=(by rw [hb1.cell (p:=⟨w.heap.size,0,none⟩) (by simp)];rw [ae (han w _)];rfl);have HB1:=hdq hb1;clear hb1)
    go_ret2;exact ⟨none,0,0,[],rfl,Ml.start _ _,rfl,(HB0 _).out.trans (HB1.out.mono (by simp))⟩
   ·obtain ⟨N,rfl⟩:∃N:Nat,n=(N:Int):=⟨n.toNat,by omega⟩
    have hr0:L=(ge (sts xs) 0 zs).take N/\er=0:=by unfold fromC at hr;rw [if_neg (by rw [hcc];exact Bool.noConfusion),if_neg (by omega),Int.toNat_natCast] at hr;cases hr;exact ⟨rfl,rfl⟩
    obtain ⟨rfl,rfl⟩:=hr0;exact apn hcc a b len cap m cap2 xs zs N (by omega) w hx rfl hz hnil
theorem alp {l:List St} (h:(wds l 0).length<=300\/check l=false):fromC l [] 300=wordsC l:=by
 unfold fromC wordsC;cases hc:check l
 ·rfl
 ·rcases h with h|h
  ·rw [if_neg (by simp),if_neg (by omega),if_neg (by simp),if_neg (by omega),aoy,show (300:Int).toNat=300 from rfl,tol (by omega)]
  ·rw [hc] at h;cases h
theorem apo (a:Option Addr) (len cap:Nat) (xs:List Sw) (w:World) (L:List (List Int)) (er:Int) (hx:Ss w a len cap xs) (hr:wordsC (sts xs)=(L,er)) :
 Calls Tryz.prog 28 #[.slice a len cap] w fun e w'=>ToldW w L er e w':=by
 have HX:=hdq hx;by_cases hm:check (sts xs)=true/\300<(wds (sts xs) 0).length
 ·have hr0:L=[]/\er=81:=by unfold wordsC at hr;rw [if_neg (by rw [hm.1];exact Bool.noConfusion),if_pos hm.2] at hr;cases hr;exact ⟨rfl,rfl⟩
  obtain ⟨rfl,rfl⟩:=hr0;have hmc:manyC (sts xs)=301:=by unfold manyC;rw [if_pos hm.1];unfold mny;omega
  clear hx hr hm;go_enter Tryz.func28,Tryz.ntmps28;go_wp2_with (go_at_call 62;refine (yi a len cap xs _ 301 HX.out hmc).mono ?_;rintro e w1 ⟨rfl,hb1⟩);go_ret2;exact ⟨none,0,0,[],rfl,Ml.start _ _,rfl,hb1⟩
 ·have hmc:manyC (sts xs)<=300:=by
   unfold manyC;split
   ·rename_i h;unfold mny;have:¬300<(wds (sts xs) 0).length:=fun h'=>hm ⟨h,h'⟩;omega
   ·omega
  have hfr:fromC (sts xs) [] 300=(L,er):=by
   rw [alp,hr];cases hcc:check (sts xs)
   ·exact .inr rfl
   ·exact .inl (by have:¬300<(wds (sts xs) 0).length:=fun h'=>hm ⟨hcc,h'⟩;omega)
  obtain ⟨r,hr1⟩:∃r,manyC (sts xs)=r:=⟨_,rfl⟩;rw [hr1] at hmc;have hng:¬(300:Int)<(r:Int):=by omega
  have hdg:decide ((r:Int)>300)=false:=decide_eq_false (by omega)
  clear hx hr hm hmc;go_enter Tryz.func28,Tryz.ntmps28
  go_wp2_with (first
   | (go_at_call 62;refine (yi a len cap xs _ r HX.out hr1).mono ?_;rintro e w1 ⟨rfl,hb1⟩)
   | (go_at_call 63;refine (atm a none len cap 0 0 xs [] 300 w1 L er (HX.out.below hb1 lrf) Sl.nil (fun _=>rfl) hfr).mono ?_;rintro e w2 ⟨a',k,c',outs,rfl,h1,h2,h3⟩))
  go_ret2;exact ⟨a',k,c',outs,rfl,h1.lower hb1.size,h2,hb1.trans (h3.mono hb1.size)⟩
end
end Go.Proofs.YtkiamgcpcneggaaGreat
