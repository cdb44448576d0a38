import Derived.Test.YtkiamgcpcneggaaGreatPackQ
set_option linter.all false
set_option maxRecDepth 100000
set_option maxHeartbeats 12800000
namespace Go.Proofs.YtkiamgcpcneggaaGreat
section
open Go.RowKit

theorem Below.like {B:Nat} {w W W':World} (h:Below B w W) (e1:W'.heap=W.heap) (e2:W'.os=W.os) (e3:W'.tape=W.tape) (e4:W'.output=W.output):Below B w W' :=
 h.trans ⟨e2,e3,e4,by rw [e1];exact Nat.le_refl _,fun k _=>by rw [e1]⟩

def arx (w:World) (b:Nat) (x y:Rw):Prop:=bX w b 0 x/\bX w b 3 y
end
section
theorem z49 {P:Prop} (h:P:=by
 exact Rs.of_owns hown2 (fun x hx=>(bD.out.2.1 x (List.mem_of_mem_drop hx)).below bD.out.2.2.2.2 lrf) (by have:=bD.out.2.2.2.1;simp;omega)):P:=h
theorem z50 {P:Prop} (h:P:=by
 have e:outs.drop k=[]:=List.drop_eq_nil_of_le (by have:=bD.out.2.2.2.1;omega);show Rs _ _ _ _ _;rw [e]
 exact Rs.of_owns hown2 smp rfl):P:=h
theorem z51 {P:Prop} (h:P:=by
 intro W hW;have h:=hW.piece k (L-k) omg;rw [Nat.zero_add,tol (by have:=hW.1;simp;omega)] at h
 exact h):P:=h
open Go.RowKit

theorem YG {w:World} {base:Nat} {e:TypeId} {size b o n c:Nat} {l:List Value} (h:w.ownsRow base e size (.slice (some ⟨b,o,none⟩) n c) n l):o=0:=by
 rcases h.2 with ⟨h',_⟩|⟨g',c',cur,h',_⟩
 ·simp at h'
 ·simp only [Value.slice.injEq,sij,Addr.mk.injEq] at h';exact h'.1.2.1
theorem lg.like {w W W':World} {b:OAd} {L c j:Nat} {xs outs:List Rw} (h:lg w W b L c j xs outs) (e1:W'.heap=W.heap) (e2:W'.os=W.os) (e3:W'.tape=W.tape) (e4:W'.output=W.output):lg w W' b L c j xs outs :=
 h.below ⟨e2,e3,e4,by rw [e1];exact Nat.le_refl _,fun k _=>by rw [e1]⟩
theorem amf (a:OAd) (n cap:Nat) (xs:List Rw) (w:World) (hs:Rs w a n cap xs) (hn:n<=20000) :
 Calls Tryz.prog 78 #[.slice a n cap] w fun e w'=>Nw w w' e (nrm (aA xs)) n:=by
 have hnc:=hs.2.1;have hcm:=hs.2.2.1;unfold maxLen at hcm;have HS:=hdq hs;clear hs;go_enter Tryz.func78,Tryz.ntmps78;go_wp2;go_loopw [3,4] (fun ov ix wr=>∃(j L c:Nat) (b:OAd) (outs:List Rw),j<=n/\ix=.int .i64 (j:Int)/\ov=.slice b L c/\L<=j/\Hid (lg w wr b L c j xs outs)) (fun _ ix _=>n-(intOf ix).toNat)
 case atStart=>exact ⟨0,0,0,none,[],Nat.zero_le _,rfl,rfl,Nat.le_refl _,⟨UD _ _,by simp,by simp [aA,nrm],rfl,Below.refl _ _⟩⟩
 case round =>
  obtain ⟨j,L,c,b,outs,hj,rfl,rfl,hLj,HO⟩:=hrel;by_cases hlt:j<n
  ·obtain ⟨b1,o1,la,ln,lc,LL,ra,rn,rc,RR,C,rfl,hb1,hx1,hx2,hx3,hsl,gI,hC0,uX,hz1⟩:=HS.out.one j hlt;have hB:=HO.out.2.2.2.2;have aqW:=hB.size;have Bz:wr.cell? ⟨b1,o1+j*3,none⟩=some (.slice la ln lc):=by rw [hB.cell (p:=⟨b1,o1+j*3,none⟩) hb1];exact hx1
   have uS:wr.cell? ⟨b1,o1+j*3+1,none⟩=some (.slice ra rn rc):=by rw [hB.cell (p:=⟨b1,o1+j*3+1,none⟩) hb1];exact hx2
   have BB:wr.cell? ⟨b1,o1+j*3+2,none⟩=some (.int .u64 C):=by rw [hB.cell (p:=⟨b1,o1+j*3+2,none⟩) hb1];exact hx3
   have fF:Hid ((⟨la,ln,lc,LL,ra,rn,rc,RR,C⟩:Rw).Good w):=⟨hsl,gI,hC0,uX⟩;have HZ1:=hdq hz1;have kJ:Hid (j<xs.length):=by show j<_;rw [HS.out.1];exact hlt
   have bB:(j:Int)<(n:Int):=omg;obtain ⟨ck,hck⟩:∃b,chk ⟨LL,RR,C⟩=b:=⟨_,rfl⟩;have aC:=hdq hck;clear hsl gI hz1 hck hx1 hx2 hx3 hB;cases ck
   ·go_wp2_with fail;refine (Nn ⟨la,ln,lc,LL,ra,rn,rc,RR,C⟩ false wr (fF.out.below HO.out.2.2.2.2 lrf) aC.out).mono ?_;rintro e w1 ⟨rfl,hb⟩;have HB:=hdq hb;clear hb;go_wp2;go_roundw
    case rel =>
     have h1:=HO.out.below HB.out;refine ⟨j+1,L,c,b,outs,by omega,by go_num,rfl,by omega,⟨h1.1,h1.2.1,?_,h1.2.2.2⟩⟩;rw [h1.2.2.1,Ny (by rw [gP,HS.out.1];exact hlt) (by rw [lY,HZ1.out])];show _=qM _ ⟨LL,RR,C⟩;unfold qM;rw [if_neg (by rw [aC.out];decide)]
    case measure=>simp [intOf];omega
   ·go_wp2_with fail;refine (Nn ⟨la,ln,lc,LL,ra,rn,rc,RR,C⟩ true wr (fF.out.below HO.out.2.2.2.2 lrf) aC.out).mono ?_;rintro e w1 ⟨rfl,hb⟩;have hsz:=hb.size;have hx1:w1.cell? ⟨b1,o1+j*3,none⟩=some (.slice la ln lc):=by rw [hb.cell (p:=⟨b1,o1+j*3,none⟩) (by show b1<_;omega)];exact Bz
    have hx2:w1.cell? ⟨b1,o1+j*3+1,none⟩=some (.slice ra rn rc):=by rw [hb.cell (p:=⟨b1,o1+j*3+1,none⟩) (by show b1<_;omega)];exact uS
    have hx3:w1.cell? ⟨b1,o1+j*3+2,none⟩=some (.int .u64 C):=by rw [hb.cell (p:=⟨b1,o1+j*3+2,none⟩) (by show b1<_;omega)];exact BB
    have gV:=hdq (HO.out.below hb);have Ue:b1<w1.heap.size:=omg;clear hb Bz uS BB HO hsz aqW hb1;go_wp2;go_loopw [5] (fun kx wr'=>∃k:Nat,k<=L/\kx=.int .i64 (k:Int)/\Hid (∀y∈(aA outs).take k,bY y ⟨LL,RR,C⟩=true)/\Hid (Below w1.heap.size w1 wr')) (fun kx _=>L-(intOf kx).toNat)
    case atStart=>exact ⟨0,Nat.zero_le _,rfl,(fun y hy=>by simp at hy),Below.refl _ _⟩
    case round =>
     obtain ⟨k,hk,rfl,HK,HB⟩:=hrel;have hy1:wr.cell? ⟨b1,o1+j*3,none⟩=some (.slice la ln lc):=by rw [HB.out.cell (p:=⟨b1,o1+j*3,none⟩) Ue];exact hx1
     have hy2:wr.cell? ⟨b1,o1+j*3+1,none⟩=some (.slice ra rn rc):=by rw [HB.out.cell (p:=⟨b1,o1+j*3+1,none⟩) Ue];exact hx2
     have hy3:wr.cell? ⟨b1,o1+j*3+2,none⟩=some (.int .u64 C):=by rw [HB.out.cell (p:=⟨b1,o1+j*3+2,none⟩) Ue];exact hx3
     have Mf:Hid ((⟨la,ln,lc,LL,ra,rn,rc,RR,C⟩:Rw).Good wr):=(fF.out.below gV.out.2.2.2.2 lrf).below HB.out lrf;have hbw:b1<wr.heap.size:=bQ hy1;clear hx1 hx2 hx3;by_cases hkl:k<L
     ·obtain ⟨b2,o2,la',jA,jB,jD,iU,iV,rc',kv,C',rfl,hb2,hz1,hz2,hz3,wV,wW,Zo,Zp,hz⟩:=(gV.out.rs.below HB.out lrf).one k hkl;obtain rfl:=YG gV.out.1;simp only [Nat.zero_add] at hz1 hz2 hz3;have TP:(k:Int)<(L:Int):=omg;have HG2:Hid ((⟨la',jA,jB,jD,iU,iV,rc',kv,0⟩:Rw).Good wr):=⟨wV,wW,Int.le_refl _,by show (0:Int)<_;decide⟩;have cO:Hid ((⟨la,ln,lc,LL,ra,rn,rc,RR,0⟩:Rw).Good wr):=⟨Mf.out.1,Mf.out.2.1,Int.le_refl _,by show (0:Int)<_;decide⟩;have HZ:=hdq hz;obtain ⟨ls,hls⟩:∃q,bY ⟨jD,kv,C'⟩ ⟨LL,RR,C⟩=q:=⟨_,rfl⟩;have ry:=hdq hls;clear wV wW hz hls;cases ls
      ·go_wp2_with fail;go_still_tail 27,krf;change wpList _ _ _ _ _ _;go_wp2_with fail;refine (Vg ⟨la',jA,jB,jD,iU,iV,rc',kv,0⟩ ⟨la,ln,lc,LL,ra,rn,rc,RR,0⟩ false wr.drew (HG2.out.drawn ⟨1,rfl⟩) (cO.out.drawn ⟨1,rfl⟩) ((Ut ⟨jD,kv,C'⟩ ⟨LL,RR,C⟩).trans ry.out)).mono ?_;rintro e w3 ⟨rfl,hb3⟩;have HB3:Hid (Below wr.heap.size wr w3):=(aG (Below.refl _ wr) ⟨1,rfl⟩).trans hb3;clear hb3;have hp1:w3.cell? ⟨b2,k*3,none⟩=some (.slice la' jA jB):=(HB3.out.cell (p:=⟨b2,k*3,none⟩) hb2).trans hz1;have hp2:w3.cell? ⟨b2,k*3+1,none⟩=some (.slice iU iV rc'):=(HB3.out.cell (p:=⟨b2,k*3+1,none⟩) hb2).trans hz2;have hp3:w3.cell? ⟨b2,k*3+2,none⟩=some (.int .u64 C'):=(HB3.out.cell (p:=⟨b2,k*3+2,none⟩) hb2).trans hz3;have hq1:w3.cell? ⟨b1,o1+j*3,none⟩=some (.slice la ln lc):=(HB3.out.cell (p:=⟨b1,o1+j*3,none⟩) hbw).trans hy1;have hq2:w3.cell? ⟨b1,o1+j*3+1,none⟩=some (.slice ra rn rc):=(HB3.out.cell (p:=⟨b1,o1+j*3+1,none⟩) hbw).trans hy2;have hq3:w3.cell? ⟨b1,o1+j*3+2,none⟩=some (.int .u64 C):=(HB3.out.cell (p:=⟨b1,o1+j*3+2,none⟩) hbw).trans hy3;have eY:=hdq ((gV.out.below HB.out).below HB3.out);have dH:Hid (Sl .i64 w3 la ln lc LL):=cO.out.1.below HB3.out lrf;have uV:Hid (Sl .i64 w3 ra rn rc RR):=cO.out.2.1.below HB3.out lrf;have wX:Hid (Sl .i64 w3 la' jA jB jD):=HG2.out.1.below HB3.out lrf;have Bv:Hid (Sl .i64 w3 iU iV rc' kv):=HG2.out.2.1.below HB3.out lrf;have lV:b1<w3.heap.size:=bQ hq1;clear hz1 hz2 hz3 hy1 hy2 hy3 cO HG2 Mf hb2 hbw
       have hcase:(jD=LL/\kv=RR)\/jD≠LL\/(jD=LL/\kv≠RR):=by
        by_cases h1:jD=LL
        ·by_cases h2:kv=RR
         ·exact .inl ⟨h1,h2⟩
         ·exact .inr (.inr ⟨h1,h2⟩)
        ·exact .inr (.inl h1)
       rcases hcase with ⟨h1,h2⟩|h1|⟨h1,h2⟩
       ·have HD1:=hdq (decide_eq_true h1);have HD2:=hdq (decide_eq_true h2);have Ey:Hid ((⟨jD,kv,C'⟩:aj).like ⟨LL,RR,C⟩):=⟨h1,h2⟩;have hfr:w3.frozen? ⟨b2,k*3+2,none⟩=false:=eY.out.1.frozenAt _;clear h1 h2;go_wp2;go_quiet (first|(go_at_call_of 38 la;exact Calls.quiet_of (dR la' la jA ln jB lc jD LL true _ (wX.out.drewN _) (dH.out.drewN _) HD1.out))|(go_at_call_of 38 ra;exact Calls.quiet_of (dR iU ra iV rn rc' rc kv RR true _ (Bv.out.drewN _) (uV.out.drewN _) HD2.out)));go_wp2_with fail;generalize vR:w3.drewN nq=w4;have hr3:w4.cell? ⟨b2,k*3+2,none⟩=some (.int .u64 C'):=by rw [<-vR];exact hp3
        have hs3:w4.cell? ⟨b1,o1+j*3+2,none⟩=some (.int .u64 C):=by rw [<-vR];exact hq3
        have auX:w4.frozen? ⟨b2,k*3+2,none⟩=false:=by rw [<-vR];exact hfr
        have fA:Hid (lg w w4 (some ⟨b2,0,none⟩) L c j xs outs):=by rw [<-vR];exact eY.out.like rfl rfl rfl rfl
        clear vR hp1 hp2 hp3 hq1 hq2 hq3 hfr eY;go_still_tail 13,krf;change wpList _ _ _ _ _ _;go_wp2;go_roundw
        case rel=>exact ⟨j+1,L,c,some ⟨b2,0,none⟩,_,by omega,by go_num,rfl,by omega,(fA.out.set hkl kJ.out HZ1.out fF.out aC.out HK.out HZ.out ry.out Ey.out (show (if C<C' then C else C')=min C' C by omega)).like rfl rfl rfl rfl⟩
        case measure=>simp [intOf];omega
       ·have HD1:=hdq (decide_eq_false h1)
        have iX:Hid (k<L->bY ((aA outs).getD k aj.no) ⟨LL,RR,C⟩=false/\¬((aA outs).getD k aj.no).like ⟨LL,RR,C⟩):=fun _=>by
         rw [lY,HZ.out];exact ⟨ry.out,fun h=>h1 h.1⟩
        have kV:k<=L:=omg;have EA:=eY.out.rs.2.1;have IB:=eY.out.rs.2.2.1;unfold maxLen at IB;have LZ:k<c:=omg;have aqX:(k:Int)<=(L:Int):=omg;have ady:(0:Int)<=(k:Int):=omg;have aqY:(L:Int)<=(c:Int):=omg;have Il:¬(k:Int)=(c:Int):=omg;have adz:(k:Int)<=(c:Int):=omg;have adA:k<=c:=omg
        have sG:Hid (∀W,Rs W (some ⟨b2,0,none⟩) L c outs->Rs W (some ⟨b2,k*3,none⟩) (L-k) (c-k) (outs.drop k)):=by
         exact z51
        clear h1;go_wp2;go_quiet (first|(go_at_call_of 38 la;exact Calls.quiet_of (dR la' la jA ln jB lc jD LL false _ (wX.out.drewN _) (dH.out.drewN _) HD1.out))|fail)
        go_wp2_with (first
         | (at_builtin;refine Ay rfq (.tmp 95) (.tmp 98) rfq w3.heap.size _ 0 [] rfq (kY _) (some ⟨b2,k*3,none⟩) (L-k) (c-k) (outs.drop k) rfq ((sG.out _ ((eY.out.rs.drawn ⟨_,rfl⟩).alloc _))) (L-k) omg omg smp ?_;intro a5 c5 w2 hown2 hb2 _ iK;have B2:Below w3.heap.size w3 w2:=((aG (Below.refl _ w3) ⟨_,rfl⟩).alloc lrf _).trans hb2)
         | fail)
        simp only [List.nil_append] at hown2;have bD:=hdq (eY.out.below B2);have hx1:w2.cell? ⟨b1,o1+j*3,none⟩=some (.slice la ln lc):=(B2.cell (p:=⟨b1,o1+j*3,none⟩) lV).trans hq1;have hx2:w2.cell? ⟨b1,o1+j*3+1,none⟩=some (.slice ra rn rc):=(B2.cell (p:=⟨b1,o1+j*3+1,none⟩) lV).trans hq2;have hx3:w2.cell? ⟨b1,o1+j*3+2,none⟩=some (.int .u64 C):=(B2.cell (p:=⟨b1,o1+j*3+2,none⟩) lV).trans hq3
        have HR2:Hid (Rs w2 a5 (L-k) c5 (outs.drop k)):=by
         exact z49
        have Dc:=hdq iK;have nH:Hid ((⟨la,ln,lc,LL,ra,rn,rc,RR,C⟩:Rw).Good w2):=fF.out.below bD.out.2.2.2.2 lrf;have nU:∀o,Below w2.heap.size w2 (w2.alloc o):=fun o=>(Below.refl _ w2).alloc lrf o;have nV:∀o o',Below w2.heap.size w2 ((w2.alloc o).alloc o'):=fun o o'=>((Below.refl _ w2).alloc lrf o).alloc smp o';have vV:=hdq nU;have vW:=hdq nV;have iq:=bQ hx1;have hne:w2.heap.size≠b1:=omg;have hne1:w2.heap.size+1≠b1:=omg;clear hown2 hb2 iK hq1 hq2 hq3 B2 nU nV
        go_region_law (first
         | (refine lZ (w0:=w2) rfq (.tmp 100) (.tmp 103) rfq w2.heap.size _ 0 [] rfq (by first|exact kY w2|exact (kY w2).alloc _|exact Dm w2 _) (some ⟨b2,0,none⟩) k c (outs.take k) rfq (by first|exact (bD.out.rs.first k kV).alloc _|exact ((bD.out.rs.first k kV).alloc _).alloc _) k omg omg lrf (by first|exact Below.like (vV.out _) rfl rfl rfl rfl|exact Below.like (vW.out _ _) rfl rfl rfl rfl) ?_;intro a6 c6 w5 hown5 hb5 jY _;simp only [List.nil_append] at hown5;have hx5:w5.cell? ⟨b1,o1+j*3,none⟩=some (.slice la ln lc):=(hb5.cell (p:=⟨b1,o1+j*3,none⟩) iq).trans hx1;have hx6:w5.cell? ⟨b1,o1+j*3+1,none⟩=some (.slice ra rn rc):=(hb5.cell (p:=⟨b1,o1+j*3+1,none⟩) iq).trans hx2;have hx7:w5.cell? ⟨b1,o1+j*3+2,none⟩=some (.int .u64 C):=(hb5.cell (p:=⟨b1,o1+j*3+2,none⟩) iq).trans hx3;have hne5:w5.heap.size≠b1:=(by have:=hb5.size;omega);have jr:=hdq (nH.out.below hb5 lrf))
         | (refine lZ (w0:=w2) rfq (.tmp 104) (.tmp 109) rfq w2.heap.size _ k (outs.take k) rfq (by first|exact hown5|exact hown5.alloc _) (some ⟨_,0,none⟩) 1 1 [⟨la,ln,lc,LL,ra,rn,rc,RR,C⟩] rfq (by first|exact Rs.single jr.out ((bX.second w2 ⟨la,ln,lc,LL,ra,rn,rc,RR,C⟩ _ _).drw.grown jY (fun h=>by have h':some (w2.heap.size+1)=some w2.heap.size:=h;simp at h'))|exact Rs.single jr.out (((bX.new w2 ⟨la,ln,lc,LL,ra,rn,rc,RR,C⟩ _).alloc _).drw.grown jY (fun h=>by have h':some w2.heap.size=some (w2.heap.size+1):=h;simp at h'))|exact Rs.single (jr.out.alloc _) (bX.new w5 ⟨la,ln,lc,LL,ra,rn,rc,RR,C⟩ _)) (k+1) rfq omg lrf (by first|exact Below.like hb5 rfl rfl rfl rfl|exact Below.like (hb5.alloc hb5.size _) rfl rfl rfl rfl) ?_;intro a7 c7 w6 hown6 hb6 vX _)
         | (refine lZ (w0:=w2) rfq (.tmp 110) (.tmp 111) rfq w2.heap.size _ (k+1) (outs.take k++[⟨la,ln,lc,LL,ra,rn,rc,RR,C⟩]) rfq (by exact hown6) a5 (L-k) c5 (outs.drop k) rfq (by exact HR2.out.below hb6 lrf) (L+1) omg omg lrf (by exact Below.like hb6 rfl rfl rfl rfl) ?_;intro a8 c8 w7 bH az vY iB))
        all_goals
         have aU:=hdq (bD.out.ins kV kJ.out HZ1.out fF.out aC.out HK.out iX.out bH az);clear hown5 hown6 bH jY vX vY hb5 hb6 az iB hx1 hx2 hx3 hx5 hx6 hx7;go_wp2;go_roundw
         case rel=>exact ⟨j+1,L+1,c8,a8,_,by omega,by go_num,rfl,by omega,aU.out⟩
         case measure=>simp [intOf];omega
       ·have HD1:=hdq (decide_eq_true h1);have HD2:=hdq (decide_eq_false h2)
        have iX:Hid (k<L->bY ((aA outs).getD k aj.no) ⟨LL,RR,C⟩=false/\¬((aA outs).getD k aj.no).like ⟨LL,RR,C⟩):=fun _=>by
         rw [lY,HZ.out];exact ⟨ry.out,fun h=>h2 h.2⟩
        have kV:k<=L:=omg;have EA:=eY.out.rs.2.1;have IB:=eY.out.rs.2.2.1;unfold maxLen at IB;have LZ:k<c:=omg;have aqX:(k:Int)<=(L:Int):=omg;have ady:(0:Int)<=(k:Int):=omg;have aqY:(L:Int)<=(c:Int):=omg;have Il:¬(k:Int)=(c:Int):=omg;have adz:(k:Int)<=(c:Int):=omg;have adA:k<=c:=omg
        have sG:Hid (∀W,Rs W (some ⟨b2,0,none⟩) L c outs->Rs W (some ⟨b2,k*3,none⟩) (L-k) (c-k) (outs.drop k)):=by
         exact z51
        clear h1 h2;go_wp2;go_quiet (first|(go_at_call_of 38 la;exact Calls.quiet_of (dR la' la jA ln jB lc jD LL true _ (wX.out.drewN _) (dH.out.drewN _) HD1.out))|(go_at_call_of 38 ra;exact Calls.quiet_of (dR iU ra iV rn rc' rc kv RR false _ (Bv.out.drewN _) (uV.out.drewN _) HD2.out)))
        go_wp2_with (first
         | (at_builtin;refine Ay rfq (.tmp 95) (.tmp 98) rfq w3.heap.size _ 0 [] rfq (kY _) (some ⟨b2,k*3,none⟩) (L-k) (c-k) (outs.drop k) rfq ((sG.out _ ((eY.out.rs.drawn ⟨_,rfl⟩).alloc _))) (L-k) omg omg smp ?_;intro a5 c5 w2 hown2 hb2 _ iK;have B2:Below w3.heap.size w3 w2:=((aG (Below.refl _ w3) ⟨_,rfl⟩).alloc lrf _).trans hb2)
         | fail)
        simp only [List.nil_append] at hown2;have bD:=hdq (eY.out.below B2);have hx1:w2.cell? ⟨b1,o1+j*3,none⟩=some (.slice la ln lc):=(B2.cell (p:=⟨b1,o1+j*3,none⟩) lV).trans hq1;have hx2:w2.cell? ⟨b1,o1+j*3+1,none⟩=some (.slice ra rn rc):=(B2.cell (p:=⟨b1,o1+j*3+1,none⟩) lV).trans hq2;have hx3:w2.cell? ⟨b1,o1+j*3+2,none⟩=some (.int .u64 C):=(B2.cell (p:=⟨b1,o1+j*3+2,none⟩) lV).trans hq3
        have HR2:Hid (Rs w2 a5 (L-k) c5 (outs.drop k)):=by
         exact z49
        have Dc:=hdq iK;have nH:Hid ((⟨la,ln,lc,LL,ra,rn,rc,RR,C⟩:Rw).Good w2):=fF.out.below bD.out.2.2.2.2 lrf;have nU:∀o,Below w2.heap.size w2 (w2.alloc o):=fun o=>(Below.refl _ w2).alloc lrf o;have nV:∀o o',Below w2.heap.size w2 ((w2.alloc o).alloc o'):=fun o o'=>((Below.refl _ w2).alloc lrf o).alloc smp o';have vV:=hdq nU;have vW:=hdq nV;have iq:=bQ hx1;have hne:w2.heap.size≠b1:=omg;have hne1:w2.heap.size+1≠b1:=omg;clear hown2 hb2 iK hq1 hq2 hq3 B2 nU nV
        go_region_law (first
         | (refine lZ (w0:=w2) rfq (.tmp 100) (.tmp 103) rfq w2.heap.size _ 0 [] rfq (by first|exact kY w2|exact (kY w2).alloc _|exact Dm w2 _) (some ⟨b2,0,none⟩) k c (outs.take k) rfq (by first|exact (bD.out.rs.first k kV).alloc _|exact ((bD.out.rs.first k kV).alloc _).alloc _) k omg omg lrf (by first|exact Below.like (vV.out _) rfl rfl rfl rfl|exact Below.like (vW.out _ _) rfl rfl rfl rfl) ?_;intro a6 c6 w5 hown5 hb5 jY _;simp only [List.nil_append] at hown5;have hx5:w5.cell? ⟨b1,o1+j*3,none⟩=some (.slice la ln lc):=(hb5.cell (p:=⟨b1,o1+j*3,none⟩) iq).trans hx1;have hx6:w5.cell? ⟨b1,o1+j*3+1,none⟩=some (.slice ra rn rc):=(hb5.cell (p:=⟨b1,o1+j*3+1,none⟩) iq).trans hx2;have hx7:w5.cell? ⟨b1,o1+j*3+2,none⟩=some (.int .u64 C):=(hb5.cell (p:=⟨b1,o1+j*3+2,none⟩) iq).trans hx3;have hne5:w5.heap.size≠b1:=(by have:=hb5.size;omega);have jr:=hdq (nH.out.below hb5 lrf))
         | (refine lZ (w0:=w2) rfq (.tmp 104) (.tmp 109) rfq w2.heap.size _ k (outs.take k) rfq (by first|exact hown5|exact hown5.alloc _) (some ⟨_,0,none⟩) 1 1 [⟨la,ln,lc,LL,ra,rn,rc,RR,C⟩] rfq (by first|exact Rs.single jr.out ((bX.second w2 ⟨la,ln,lc,LL,ra,rn,rc,RR,C⟩ _ _).drw.grown jY (fun h=>by have h':some (w2.heap.size+1)=some w2.heap.size:=h;simp at h'))|exact Rs.single jr.out (((bX.new w2 ⟨la,ln,lc,LL,ra,rn,rc,RR,C⟩ _).alloc _).drw.grown jY (fun h=>by have h':some w2.heap.size=some (w2.heap.size+1):=h;simp at h'))|exact Rs.single (jr.out.alloc _) (bX.new w5 ⟨la,ln,lc,LL,ra,rn,rc,RR,C⟩ _)) (k+1) rfq omg lrf (by first|exact Below.like hb5 rfl rfl rfl rfl|exact Below.like (hb5.alloc hb5.size _) rfl rfl rfl rfl) ?_;intro a7 c7 w6 hown6 hb6 vX _)
         | (refine lZ (w0:=w2) rfq (.tmp 110) (.tmp 111) rfq w2.heap.size _ (k+1) (outs.take k++[⟨la,ln,lc,LL,ra,rn,rc,RR,C⟩]) rfq (by exact hown6) a5 (L-k) c5 (outs.drop k) rfq (by exact HR2.out.below hb6 lrf) (L+1) omg omg lrf (by exact Below.like hb6 rfl rfl rfl rfl) ?_;intro a8 c8 w7 bH az vY iB))
        all_goals
         have aU:=hdq (bD.out.ins kV kJ.out HZ1.out fF.out aC.out HK.out iX.out bH az);clear hown5 hown6 bH jY vX vY hb5 hb6 az iB hx1 hx2 hx3 hx5 hx6 hx7;go_wp2;go_roundw
         case rel=>exact ⟨j+1,L+1,c8,a8,_,by omega,by go_num,rfl,by omega,aU.out⟩
         case measure=>simp [intOf];omega
      ·go_wp2_with fail;go_still_tail 27,krf;change wpList _ _ _ _ _ _;go_wp2_with fail;refine (Vg ⟨la',jA,jB,jD,iU,iV,rc',kv,0⟩ ⟨la,ln,lc,LL,ra,rn,rc,RR,0⟩ true wr.drew (HG2.out.drawn ⟨1,rfl⟩) (cO.out.drawn ⟨1,rfl⟩) ((Ut ⟨jD,kv,C'⟩ ⟨LL,RR,C⟩).trans ry.out)).mono ?_;rintro e w3 ⟨rfl,hb3⟩;have HB3:Hid (Below wr.heap.size wr w3):=(aG (Below.refl _ wr) ⟨1,rfl⟩).trans hb3;clear hb3;go_wp2;go_roundw
       case rel =>
        refine ⟨k+1,by omega,by go_num,?_,HB.out.trans (HB3.out.mono HB.out.size)⟩;intro y hy;have hkr:k<(aA outs).length:=by rw [gP,gV.out.2.2.2.1];exact hkl
        rw [tsa hkr] at hy;rcases map1 hy with hy|hy
        ·exact HK.out y hy
        ·rw [msg hy];have h1:=lY outs k;rw [HZ.out,gdq,geg hkr,Option.getD_some] at h1;rw [h1];exact ry.out
       case measure=>simp [intOf];omega
     ·obtain rfl:k=L:=omg;have mU:decide ((k:Int)<(k:Int))=false:=smp;have iX:Hid (k<k->bY ((aA outs).getD k aj.no) ⟨LL,RR,C⟩=false/\¬((aA outs).getD k aj.no).like ⟨LL,RR,C⟩):=fun h=>absurd h omg;have kV:k<=k:=Nat.le_refl _;have eY:=hdq (gV.out.below HB.out);have EA:=eY.out.rs.2.1;have IB:=eY.out.rs.2.2.1;unfold maxLen at IB;have hq1:=hy1;have hq2:=hy2;have hq3:=hy3;have lV:=hbw;have adz:(k:Int)<=(c:Int):=omg;have ady:(0:Int)<=(k:Int):=omg;clear hy1 hy2 hy3 Mf hbw hkl;obtain ⟨b9,c9,hbe,fO⟩:=qI gV.out.1;cases hbe;rcases b with _|⟨g,o,spot⟩
      ·obtain rfl:c=0:=fO rfl;obtain rfl:k=0:=omg;clear fO;go_wp2;go_quiet (fail);go_wp2;go_quiet (fail)
       go_wp2_with (first
        | (at_builtin;refine Ay rfq (.tmp 95) (.tmp 98) rfq wr.heap.size _ 0 [] rfq (kY _) none 0 _ [] rfq Rs.nil 0 omg omg smp ?_;intro a5 c5 w2 hown2 hb2 _ iK;have B2:Below wr.heap.size wr w2:=((aG (Below.refl _ wr) ⟨_,rfl⟩).alloc lrf _).trans hb2)
        | fail)
       simp only [List.nil_append] at hown2;have bD:=hdq (eY.out.below B2);have hx1:w2.cell? ⟨b1,o1+j*3,none⟩=some (.slice la ln lc):=(B2.cell (p:=⟨b1,o1+j*3,none⟩) lV).trans hq1;have hx2:w2.cell? ⟨b1,o1+j*3+1,none⟩=some (.slice ra rn rc):=(B2.cell (p:=⟨b1,o1+j*3+1,none⟩) lV).trans hq2;have hx3:w2.cell? ⟨b1,o1+j*3+2,none⟩=some (.int .u64 C):=(B2.cell (p:=⟨b1,o1+j*3+2,none⟩) lV).trans hq3
       have HR2:Hid (Rs w2 a5 0 c5 (outs.drop 0)):=by
        have e:outs.drop 0=[]:=List.drop_eq_nil_of_le (by have:=bD.out.2.2.2.1;omega);show Rs _ _ _ _ _;rw [e];exact Rs.of_owns hown2 smp rfl
       have Dc:=hdq iK;have nH:Hid ((⟨la,ln,lc,LL,ra,rn,rc,RR,C⟩:Rw).Good w2):=fF.out.below bD.out.2.2.2.2 lrf;have nU:∀o,Below w2.heap.size w2 (w2.alloc o):=fun o=>(Below.refl _ w2).alloc lrf o;have nV:∀o o',Below w2.heap.size w2 ((w2.alloc o).alloc o'):=fun o o'=>((Below.refl _ w2).alloc lrf o).alloc smp o';have vV:=hdq nU;have vW:=hdq nV;have iq:=bQ hx1;have hne:w2.heap.size≠b1:=omg;have hne1:w2.heap.size+1≠b1:=omg;clear hown2 hb2 iK hq1 hq2 hq3 B2 nU nV
       go_region_law (first
        | (refine lZ (w0:=w2) rfq (.tmp 100) (.tmp 103) rfq w2.heap.size _ 0 [] rfq (by first|exact kY w2|exact (kY w2).alloc _|exact Dm w2 _) none 0 0 (outs.take 0) rfq (by first|exact (bD.out.rs.first 0 kV).alloc _|exact ((bD.out.rs.first 0 kV).alloc _).alloc _) 0 omg omg lrf (by first|exact Below.like (vV.out _) rfl rfl rfl rfl|exact Below.like (vW.out _ _) rfl rfl rfl rfl) ?_;intro a6 c6 w5 hown5 hb5 jY _;simp only [List.nil_append] at hown5;have hx5:w5.cell? ⟨b1,o1+j*3,none⟩=some (.slice la ln lc):=(hb5.cell (p:=⟨b1,o1+j*3,none⟩) iq).trans hx1;have hx6:w5.cell? ⟨b1,o1+j*3+1,none⟩=some (.slice ra rn rc):=(hb5.cell (p:=⟨b1,o1+j*3+1,none⟩) iq).trans hx2;have hx7:w5.cell? ⟨b1,o1+j*3+2,none⟩=some (.int .u64 C):=(hb5.cell (p:=⟨b1,o1+j*3+2,none⟩) iq).trans hx3;have hne5:w5.heap.size≠b1:=(by have:=hb5.size;omega);have jr:=hdq (nH.out.below hb5 lrf))
        | (refine lZ (w0:=w2) rfq (.tmp 104) (.tmp 109) rfq w2.heap.size _ 0 (outs.take 0) rfq (by first|exact hown5|exact hown5.alloc _) (some ⟨_,0,none⟩) 1 1 [⟨la,ln,lc,LL,ra,rn,rc,RR,C⟩] rfq (by first|exact Rs.single jr.out ((bX.second w2 ⟨la,ln,lc,LL,ra,rn,rc,RR,C⟩ _ _).drw.grown jY (fun h=>by have h':some (w2.heap.size+1)=some w2.heap.size:=h;simp at h'))|exact Rs.single jr.out (((bX.new w2 ⟨la,ln,lc,LL,ra,rn,rc,RR,C⟩ _).alloc _).drw.grown jY (fun h=>by have h':some w2.heap.size=some (w2.heap.size+1):=h;simp at h'))|exact Rs.single (jr.out.alloc _) (bX.new w5 ⟨la,ln,lc,LL,ra,rn,rc,RR,C⟩ _)) (0+1) rfq omg lrf (by first|exact Below.like hb5 rfl rfl rfl rfl|exact Below.like (hb5.alloc hb5.size _) rfl rfl rfl rfl) ?_;intro a7 c7 w6 hown6 hb6 vX _)
        | (refine lZ (w0:=w2) rfq (.tmp 110) (.tmp 111) rfq w2.heap.size _ (0+1) (outs.take 0++[⟨la,ln,lc,LL,ra,rn,rc,RR,C⟩]) rfq (by exact hown6) a5 0 c5 (outs.drop 0) rfq (by exact HR2.out.below hb6 lrf) (0+1) omg omg lrf (by exact Below.like hb6 rfl rfl rfl rfl) ?_;intro a8 c8 w7 bH az vY iB))
       all_goals
        have aU:=hdq (bD.out.ins kV kJ.out HZ1.out fF.out aC.out HK.out iX.out bH az);clear hown5 hown6 bH jY vX vY hb5 hb6 az iB hx1 hx2 hx3 hx5 hx6 hx7;go_wp2;go_roundw
        case rel=>exact ⟨j+1,0+1,c8,a8,_,by omega,by go_num,rfl,by omega,aU.out⟩
        case measure=>simp [intOf];omega
      ·have hspot:spot=none:=by
        rcases gV.out.1.2 with ⟨h',_⟩|⟨g',c',cur,h',_⟩
        ·simp at h'
        ·simp only [Value.slice.injEq,sij,Addr.mk.injEq] at h';exact h'.1.2.2
       subst hspot;obtain rfl:=YG gV.out.1;clear fO;by_cases hkc:k=c
       ·subst hkc;go_wp2;go_quiet (fail);go_wp2;go_quiet (fail)
        go_wp2_with (first
         | (at_builtin;refine Ay rfq (.tmp 95) (.tmp 98) rfq wr.heap.size _ 0 [] rfq (kY _) _ 0 _ [] rfq (Rs.empty (by unfold maxLen;omega)) 0 omg omg smp ?_;intro a5 c5 w2 hown2 hb2 _ iK;have B2:Below wr.heap.size wr w2:=((aG (Below.refl _ wr) ⟨_,rfl⟩).alloc lrf _).trans hb2)
         | fail)
        simp only [List.nil_append] at hown2;have bD:=hdq (eY.out.below B2);have hx1:w2.cell? ⟨b1,o1+j*3,none⟩=some (.slice la ln lc):=(B2.cell (p:=⟨b1,o1+j*3,none⟩) lV).trans hq1;have hx2:w2.cell? ⟨b1,o1+j*3+1,none⟩=some (.slice ra rn rc):=(B2.cell (p:=⟨b1,o1+j*3+1,none⟩) lV).trans hq2;have hx3:w2.cell? ⟨b1,o1+j*3+2,none⟩=some (.int .u64 C):=(B2.cell (p:=⟨b1,o1+j*3+2,none⟩) lV).trans hq3
        have HR2:Hid (Rs w2 a5 0 c5 (outs.drop k)):=by
         exact z50
        have Dc:=hdq iK;have nH:Hid ((⟨la,ln,lc,LL,ra,rn,rc,RR,C⟩:Rw).Good w2):=fF.out.below bD.out.2.2.2.2 lrf;have nU:∀o,Below w2.heap.size w2 (w2.alloc o):=fun o=>(Below.refl _ w2).alloc lrf o;have nV:∀o o',Below w2.heap.size w2 ((w2.alloc o).alloc o'):=fun o o'=>((Below.refl _ w2).alloc lrf o).alloc smp o';have vV:=hdq nU;have vW:=hdq nV;have iq:=bQ hx1;have hne:w2.heap.size≠b1:=omg;have hne1:w2.heap.size+1≠b1:=omg;clear hown2 hb2 iK hq1 hq2 hq3 B2 nU nV
        go_region_law (first
         | (refine lZ (w0:=w2) rfq (.tmp 100) (.tmp 103) rfq w2.heap.size _ 0 [] rfq (by first|exact kY w2|exact (kY w2).alloc _|exact Dm w2 _) (some ⟨g,0,none⟩) k k (outs.take k) rfq (by first|exact (bD.out.rs.first k kV).alloc _|exact ((bD.out.rs.first k kV).alloc _).alloc _) k omg omg lrf (by first|exact Below.like (vV.out _) rfl rfl rfl rfl|exact Below.like (vW.out _ _) rfl rfl rfl rfl) ?_;intro a6 c6 w5 hown5 hb5 jY _;simp only [List.nil_append] at hown5;have hx5:w5.cell? ⟨b1,o1+j*3,none⟩=some (.slice la ln lc):=(hb5.cell (p:=⟨b1,o1+j*3,none⟩) iq).trans hx1;have hx6:w5.cell? ⟨b1,o1+j*3+1,none⟩=some (.slice ra rn rc):=(hb5.cell (p:=⟨b1,o1+j*3+1,none⟩) iq).trans hx2;have hx7:w5.cell? ⟨b1,o1+j*3+2,none⟩=some (.int .u64 C):=(hb5.cell (p:=⟨b1,o1+j*3+2,none⟩) iq).trans hx3;have hne5:w5.heap.size≠b1:=(by have:=hb5.size;omega);have jr:=hdq (nH.out.below hb5 lrf))
         | (refine lZ (w0:=w2) rfq (.tmp 104) (.tmp 109) rfq w2.heap.size _ k (outs.take k) rfq (by first|exact hown5|exact hown5.alloc _) (some ⟨_,0,none⟩) 1 1 [⟨la,ln,lc,LL,ra,rn,rc,RR,C⟩] rfq (by first|exact Rs.single jr.out ((bX.second w2 ⟨la,ln,lc,LL,ra,rn,rc,RR,C⟩ _ _).drw.grown jY (fun h=>by have h':some (w2.heap.size+1)=some w2.heap.size:=h;simp at h'))|exact Rs.single jr.out (((bX.new w2 ⟨la,ln,lc,LL,ra,rn,rc,RR,C⟩ _).alloc _).drw.grown jY (fun h=>by have h':some w2.heap.size=some (w2.heap.size+1):=h;simp at h'))|exact Rs.single (jr.out.alloc _) (bX.new w5 ⟨la,ln,lc,LL,ra,rn,rc,RR,C⟩ _)) (k+1) rfq omg lrf (by first|exact Below.like hb5 rfl rfl rfl rfl|exact Below.like (hb5.alloc hb5.size _) rfl rfl rfl rfl) ?_;intro a7 c7 w6 hown6 hb6 vX _)
         | (refine lZ (w0:=w2) rfq (.tmp 110) (.tmp 111) rfq w2.heap.size _ (k+1) (outs.take k++[⟨la,ln,lc,LL,ra,rn,rc,RR,C⟩]) rfq (by exact hown6) a5 0 c5 (outs.drop k) rfq (by exact HR2.out.below hb6 lrf) (k+1) omg omg lrf (by exact Below.like hb6 rfl rfl rfl rfl) ?_;intro a8 c8 w7 bH az vY iB))
        all_goals
         have aU:=hdq (bD.out.ins kV kJ.out HZ1.out fF.out aC.out HK.out iX.out bH az);clear hown5 hown6 bH jY vX vY hb5 hb6 az iB hx1 hx2 hx3 hx5 hx6 hx7;go_wp2;go_roundw
         case rel=>exact ⟨j+1,k+1,c8,a8,_,by omega,by go_num,rfl,by omega,aU.out⟩
         case measure=>simp [intOf];omega
       ·have LZ:k<c:=omg;have Il:¬(k:Int)=(c:Int):=omg;have adA:k<=c:=omg;go_wp2;go_quiet (fail);go_wp2;go_quiet (fail)
        go_wp2_with (first
         | (at_builtin;refine Ay rfq (.tmp 95) (.tmp 98) rfq wr.heap.size _ 0 [] rfq (kY _) _ 0 _ [] rfq (Rs.empty (by unfold maxLen;omega)) 0 omg omg smp ?_;intro a5 c5 w2 hown2 hb2 _ iK;have B2:Below wr.heap.size wr w2:=((aG (Below.refl _ wr) ⟨_,rfl⟩).alloc lrf _).trans hb2)
         | fail)
        simp only [List.nil_append] at hown2;have bD:=hdq (eY.out.below B2);have hx1:w2.cell? ⟨b1,o1+j*3,none⟩=some (.slice la ln lc):=(B2.cell (p:=⟨b1,o1+j*3,none⟩) lV).trans hq1;have hx2:w2.cell? ⟨b1,o1+j*3+1,none⟩=some (.slice ra rn rc):=(B2.cell (p:=⟨b1,o1+j*3+1,none⟩) lV).trans hq2;have hx3:w2.cell? ⟨b1,o1+j*3+2,none⟩=some (.int .u64 C):=(B2.cell (p:=⟨b1,o1+j*3+2,none⟩) lV).trans hq3
        have HR2:Hid (Rs w2 a5 0 c5 (outs.drop k)):=by
         exact z50
        have Dc:=hdq iK;have nH:Hid ((⟨la,ln,lc,LL,ra,rn,rc,RR,C⟩:Rw).Good w2):=fF.out.below bD.out.2.2.2.2 lrf;have nU:∀o,Below w2.heap.size w2 (w2.alloc o):=fun o=>(Below.refl _ w2).alloc lrf o;have nV:∀o o',Below w2.heap.size w2 ((w2.alloc o).alloc o'):=fun o o'=>((Below.refl _ w2).alloc lrf o).alloc smp o';have vV:=hdq nU;have vW:=hdq nV;have iq:=bQ hx1;have hne:w2.heap.size≠b1:=omg;have hne1:w2.heap.size+1≠b1:=omg;clear hown2 hb2 iK hq1 hq2 hq3 B2 nU nV
        go_region_law (first
         | (refine lZ (w0:=w2) rfq (.tmp 100) (.tmp 103) rfq w2.heap.size _ 0 [] rfq (by first|exact kY w2|exact (kY w2).alloc _|exact Dm w2 _) (some ⟨g,0,none⟩) k c (outs.take k) rfq (by first|exact (bD.out.rs.first k kV).alloc _|exact ((bD.out.rs.first k kV).alloc _).alloc _) k omg omg lrf (by first|exact Below.like (vV.out _) rfl rfl rfl rfl|exact Below.like (vW.out _ _) rfl rfl rfl rfl) ?_;intro a6 c6 w5 hown5 hb5 jY _;simp only [List.nil_append] at hown5;have hx5:w5.cell? ⟨b1,o1+j*3,none⟩=some (.slice la ln lc):=(hb5.cell (p:=⟨b1,o1+j*3,none⟩) iq).trans hx1;have hx6:w5.cell? ⟨b1,o1+j*3+1,none⟩=some (.slice ra rn rc):=(hb5.cell (p:=⟨b1,o1+j*3+1,none⟩) iq).trans hx2;have hx7:w5.cell? ⟨b1,o1+j*3+2,none⟩=some (.int .u64 C):=(hb5.cell (p:=⟨b1,o1+j*3+2,none⟩) iq).trans hx3;have hne5:w5.heap.size≠b1:=(by have:=hb5.size;omega);have jr:=hdq (nH.out.below hb5 lrf))
         | (refine lZ (w0:=w2) rfq (.tmp 104) (.tmp 109) rfq w2.heap.size _ k (outs.take k) rfq (by first|exact hown5|exact hown5.alloc _) (some ⟨_,0,none⟩) 1 1 [⟨la,ln,lc,LL,ra,rn,rc,RR,C⟩] rfq (by first|exact Rs.single jr.out ((bX.second w2 ⟨la,ln,lc,LL,ra,rn,rc,RR,C⟩ _ _).drw.grown jY (fun h=>by have h':some (w2.heap.size+1)=some w2.heap.size:=h;simp at h'))|exact Rs.single jr.out (((bX.new w2 ⟨la,ln,lc,LL,ra,rn,rc,RR,C⟩ _).alloc _).drw.grown jY (fun h=>by have h':some w2.heap.size=some (w2.heap.size+1):=h;simp at h'))|exact Rs.single (jr.out.alloc _) (bX.new w5 ⟨la,ln,lc,LL,ra,rn,rc,RR,C⟩ _)) (k+1) rfq omg lrf (by first|exact Below.like hb5 rfl rfl rfl rfl|exact Below.like (hb5.alloc hb5.size _) rfl rfl rfl rfl) ?_;intro a7 c7 w6 hown6 hb6 vX _)
         | (refine lZ (w0:=w2) rfq (.tmp 110) (.tmp 111) rfq w2.heap.size _ (k+1) (outs.take k++[⟨la,ln,lc,LL,ra,rn,rc,RR,C⟩]) rfq (by exact hown6) a5 0 c5 (outs.drop k) rfq (by exact HR2.out.below hb6 lrf) (k+1) omg omg lrf (by exact Below.like hb6 rfl rfl rfl rfl) ?_;intro a8 c8 w7 bH az vY iB))
        all_goals
         have aU:=hdq (bD.out.ins kV kJ.out HZ1.out fF.out aC.out HK.out iX.out bH az);clear hown5 hown6 bH jY vX vY hb5 hb6 az iB hx1 hx2 hx3 hx5 hx6 hx7;go_wp2;go_roundw
         case rel=>exact ⟨j+1,k+1,c8,a8,_,by omega,by go_num,rfl,by omega,aU.out⟩
         case measure=>simp [intOf];omega
  ·obtain rfl:j=n:=omg
   have hfin:aA outs=nrm (aA xs):=by
    rw [HO.out.2.2.1,tol (by rw [gP,HS.out.1];omega)]
   have zy:=hdq hfin;obtain ⟨b9,c9,hbe,fO⟩:=qI HO.out.1;cases hbe;have HN9:=hdq fO;clear hfin fO;go_wp2;go_ret;exact ⟨b,L,c,outs,rfl,HO.out.rs,zy.out,hLj,HN9.out,HO.out.2.2.2.2⟩

end
end Go.Proofs.YtkiamgcpcneggaaGreat
