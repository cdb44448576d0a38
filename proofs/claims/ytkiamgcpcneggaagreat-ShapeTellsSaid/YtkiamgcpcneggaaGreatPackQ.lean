import Derived.Test.YtkiamgcpcneggaaGreatPackAS
import Derived.StillTailTactics
import Derived.Deep.RegionHeld3
import Derived.Test.YtkiamgcpcneggaaGreatPackJ
set_option linter.all false
set_option maxRecDepth 100000
set_option maxHeartbeats 12800000
namespace Go.Proofs.YtkiamgcpcneggaaGreat
section
open Go.RowKit

theorem agL {xs ys:List Rw} {j:Nat} (h:(aA xs).take j=(aA ys).take j) (hx:j<xs.length) (hy:j<ys.length) (e:(xs.getD j Rw.no).r=(ys.getD j Rw.no).r) :
 (aA xs).take (j+1)=(aA ys).take (j+1):=by
 have h1:j<(aA xs).length:=by rw [gP];exact hx
 have h2:j<(aA ys).length:=by rw [gP];exact hy
 rw [tsa h1,tsa h2,h];rw [<-lY,<-lY] at e;simp [h1,h2] at e;rw [e]

theorem Nv (a b:OAd) (n m cap cap2:Nat) (xs ys:List Rw) (r:Bool) (w:World) (ha:Rs w a n cap xs) (hb:Rs w b m cap2 ys) (h:decide (aA xs=aA ys)=r) :
 Calls Tryz.prog 55 #[.slice a n cap,.slice b m cap2] w fun e w'=>e=.returned (.bool r)/\∃q,w'=w.drewN q:=by
 have hnc:=ha.2.1;have hcm:=ha.2.2.1;unfold maxLen at hcm;have hmc:=hb.2.1;have hcm2:=hb.2.2.1;unfold maxLen at hcm2;have HA:=hdq ha;have HB:=hdq hb;have HR:=hdq h;clear ha hb h;by_cases hnm:n=m
 ·subst hnm;go_enter Tryz.func55,Tryz.ntmps55;go_wp2;go_loopw [5] (fun ix wr=>∃j:Nat,j<=n/\ix=.int .i64 (j:Int)/\Hid ((aA xs).take j=(aA ys).take j)/\Hid (∃q,wr=w.drewN q)) (fun ix _=>n-(intOf ix).toNat)
  case atStart=>exact ⟨0,Nat.zero_le _,rfl,rfl,⟨0,rfl⟩⟩
  case round =>
   obtain ⟨j,hj,rfl,HT,HQ⟩:=hrel;by_cases hlt:j<n
   ·obtain ⟨b1,o1,la,ln,lc,L,ra,rn,rc,R,C,rfl,_,hx1,hx2,hx3,hsl,gI,_,_,hz1⟩:=(HA.out.drawn HQ.out).one j hlt;obtain ⟨b2,o2,la',jA,jB,L',iU,iV,rc',R',C',rfl,_,hy1,hy2,hy3,wV,wW,_,_,hz2⟩:=(HB.out.drawn HQ.out).one j hlt;have dH:=hdq hsl;have uV:=hdq gI;have wX:=hdq wV;have Bv:=hdq wW;have HZ1:=hdq hz1;have HZ2:=hdq hz2;have bB:(j:Int)<(n:Int):=omg;clear hsl gI wV wW hz1 hz2;by_cases he:L=L'/\R=R'/\C=C'
    ·obtain ⟨he1,he2,rfl⟩:=he;have HD1:Hid (decide (L=L')=true):=hdq (decide_eq_true he1);have HD2:Hid (decide (R=R')=true):=hdq (decide_eq_true he2);have HE:Hid (L=L'/\R=R'):=⟨he1,he2⟩;clear he1 he2;go_wp2;go_quiet (first|(go_at_call_of 38 la;exact Calls.quiet_of (dR la la' ln jA lc jB L L' true _ (dH.out.drewN _) (wX.out.drewN _) HD1.out))|(go_at_call_of 38 ra;exact Calls.quiet_of (dR ra iU rn iV rc rc' R R' true _ (uV.out.drewN _) (Bv.out.drewN _) HD2.out)));go_wp2;go_roundw
     case rel=>exact ⟨j+1,by omega,by go_num,agL HT.out (by rw [HA.out.1];exact hlt) (by rw [HB.out.1];exact hlt) (by rw [HZ1.out,HZ2.out];simp [Rw.r,HE.out]),(by obtain ⟨q,hq⟩:=HQ.out;exact ⟨_,by rw [hq,World.drewN_drewN]⟩)⟩
     case measure=>simp [intOf];omega
    ·have hrf:r=false:=by
      rw [<-HR.out,decide_eq_false_iff_not];intro h;apply he;have h1:=lY xs j;have h2:=lY ys j;rw [h,h2,HZ1.out,HZ2.out] at h1;simp only [Rw.r,aj.mk.injEq] at h1;exact ⟨h1.1.symm,h1.2.1.symm,h1.2.2.symm⟩
     have hcase:L≠L'\/(L=L'/\R≠R')\/(L=L'/\R=R'/\C≠C'):=by
      by_cases h1:L=L'
      ·by_cases h2:R=R'
       ·exact .inr (.inr ⟨h1,h2,fun h=>he ⟨h1,h2,h⟩⟩)
       ·exact .inr (.inl ⟨h1,h2⟩)
      ·exact .inl h1
     have PS:=hdq hrf;clear he hrf HR;rcases hcase with h1|⟨h1,h2⟩|⟨h1,h2,h3⟩
     ·have HD1:Hid (decide (L=L')=false):=hdq (decide_eq_false h1);clear h1;go_wp2;go_quiet (first|(go_at_call_of 38 la;exact Calls.quiet_of (dR la la' ln jA lc jB L L' false _ (dH.out.drewN _) (wX.out.drewN _) HD1.out))|fail);go_wp2;go_ret;exact ⟨by rw [PS.out];rfl,(by obtain ⟨q,hq⟩:=HQ.out;exact ⟨_,by rw [hq,World.drewN_drewN]⟩)⟩
     ·have HD1:Hid (decide (L=L')=true):=hdq (decide_eq_true h1);have HD2:Hid (decide (R=R')=false):=hdq (decide_eq_false h2);clear h1 h2;go_wp2;go_quiet (first|(go_at_call_of 38 la;exact Calls.quiet_of (dR la la' ln jA lc jB L L' true _ (dH.out.drewN _) (wX.out.drewN _) HD1.out))|(go_at_call_of 38 ra;exact Calls.quiet_of (dR ra iU rn iV rc rc' R R' false _ (uV.out.drewN _) (Bv.out.drewN _) HD2.out)));go_wp2;go_ret;exact ⟨by rw [PS.out];rfl,(by obtain ⟨q,hq⟩:=HQ.out;exact ⟨_,by rw [hq,World.drewN_drewN]⟩)⟩
     ·have HD1:Hid (decide (L=L')=true):=hdq (decide_eq_true h1);have HD2:Hid (decide (R=R')=true):=hdq (decide_eq_true h2);have h3':(C==C')=false:=by simpa using h3
      have arU:(C != C')=true:=by simpa using h3
      clear h1 h2;go_wp2;go_quiet (first|(go_at_call_of 38 la;exact Calls.quiet_of (dR la la' ln jA lc jB L L' true _ (dH.out.drewN _) (wX.out.drewN _) HD1.out))|(go_at_call_of 38 ra;exact Calls.quiet_of (dR ra iU rn iV rc rc' R R' true _ (uV.out.drewN _) (Bv.out.drewN _) HD2.out)));go_wp2;go_ret;exact ⟨by rw [PS.out];rfl,(by obtain ⟨q,hq⟩:=HQ.out;exact ⟨_,by rw [hq,World.drewN_drewN]⟩)⟩
   ·have hfin:r=true:=by
     rw [<-HR.out,decide_eq_true_iff];have h:=HT.out
     rwa [tol (by rw [gP,HA.out.1];omega),tol (by rw [gP,HB.out.1];omega)] at h
    have HF:=hdq hfin;clear hfin HR;go_wp2;go_ret;exact ⟨by rw [HF.out];rfl,HQ.out⟩
 ·have hfin:r=false:=by
   rw [<-HR.out,decide_eq_false_iff_not];intro h;have:=congrArg List.length h;rw [gP,gP,HA.out.1,HB.out.1] at this;exact hnm this
  have h1:((n:Int)==(m:Int))=false:=by simp;omega
  have h2:((n:Int) != (m:Int))=true:=by simp;omega
  subst hfin;clear HR;go_enter Tryz.func55,Tryz.ntmps55;go_wp2;go_ret;exact ⟨rfl,0,rfl⟩

def yC (xs:List Rw):Prop:=∀x∈xs,x.ln<=100/\x.rn<=100

theorem yC.snoc {xs:List Rw} {j:Nat} (h:yC (xs.take j)) (hj:j<xs.length) (hx:(xs.getD j Rw.no).ln<=100/\(xs.getD j Rw.no).rn<=100):yC (xs.take (j+1)):=by
 intro x hm;rw [tsa hj] at hm;rcases map1 hm with hm|hm
 ·exact h x hm
 ·rw [msg hm];simpa [hj] using hx

theorem agM (a:OAd) (n cap:Nat) (xs:List Rw) (most:Nat) (_hmost:most<=1000) (w:World) (ha:Rs w a n cap xs) :
 Calls Tryz.prog 18 #[.slice a n cap,.int .i64 (most:Int)] w fun e w'=>(e=.returned (.bool false)\/(e=.returned (.bool true)/\yC xs/\n<=most))/\w'=w:=by
 have hnc:=ha.2.1;have hcm:=ha.2.2.1;unfold maxLen at hcm;have HA:=hdq ha;clear ha;go_enter Tryz.func18,Tryz.ntmps18;go_wp2;go_loopw [5] (fun ix wr=>∃j:Nat,j<=n/\ix=.int .i64 (j:Int)/\Hid (yC (xs.take j))/\Hid (wr=w)) (fun ix _=>n-(intOf ix).toNat)
 case atStart=>exact ⟨0,Nat.zero_le _,rfl,(fun x hx=>by simp at hx),rfl⟩
 case round =>
  obtain ⟨j,hj,rfl,HT,HW⟩:=hrel;obtain rfl:=HW.out;clear HW;by_cases hlt:j<n
  ·obtain ⟨b1,o1,la,ln,lc,L,ra,rn,rc,R,C,rfl,_,hx1,hx2,hx3,_,_,_,_,hz1⟩:=HA.out.one j hlt;have HZ1:=hdq hz1;have bB:(j:Int)<(n:Int):=omg;clear hz1;by_cases h1:100<ln
   ·have uO:(100:Int)<(ln:Int):=omg;go_wp2;go_ret;exact ⟨.inl rfl,rfl⟩
   have uO:¬(100:Int)<(ln:Int):=omg;by_cases h2:100<rn
   ·have JX:(100:Int)<(rn:Int):=omg;go_wp2;go_ret;exact ⟨.inl rfl,rfl⟩
   have JX:¬(100:Int)<(rn:Int):=omg;go_wp2;go_roundw
   case rel=>exact ⟨j+1,by omega,by go_num,HT.out.snoc (by rw [HA.out.1];exact hlt) (by rw [HZ1.out];exact ⟨by show ln<=100;omega,by show rn<=100;omega⟩),(by first|exact (trivial:True)|rfl)⟩
   case measure=>simp [intOf];omega
  ·have hfin:yC xs:=by
    have h:=HT.out
    rwa [tol (by rw [HA.out.1];omega)] at h
   have HF:=hdq hfin;clear hfin;by_cases hm:n<=most
   ·have Eg:(n:Int)<=(most:Int):=omg;go_wp2;go_ret;exact ⟨.inr ⟨rfl,HF.out,hm⟩,rfl⟩
   ·have Eg:¬(n:Int)<=(most:Int):=omg;go_wp2;go_ret;exact ⟨by first|exact .inl rfl|rfl,rfl⟩

end
section
open Go.RowKit

def Nw (w w':World) (e:Ending) (l:List aj) (most:Nat):Prop :=
 ∃a' n' c' outs,e=.returned (.slice a' n' c')/\Rs w' a' n' c' outs/\aA outs=l/\n'<=most/\(a'=none->c'=0)/\Below w.heap.size w w'

def lg (w wr:World) (a:OAd) (L c j:Nat) (xs outs:List Rw):Prop :=
 wr.ownsRow w.heap.size 74 3 (.slice a L c) L (aZ outs)/\(∀x∈outs,x.Good w)/\aA outs=nrm ((aA xs).take j)/\outs.length=L/\Below w.heap.size w wr
theorem lg.rs {w wr:World} {a:OAd} {L c j:Nat} {xs outs:List Rw} (h:lg w wr a L c j xs outs):Rs wr a L c outs :=
 Rs.of_owns h.1 (fun x hx=>(h.2.1 x hx).below h.2.2.2.2 lrf) h.2.2.2.1
theorem lg.below {w wr wr':World} {a:OAd} {L c j:Nat} {xs outs:List Rw} (h:lg w wr a L c j xs outs) (hb:Below wr.heap.size wr wr'):lg w wr' a L c j xs outs :=
 ⟨ownsRow_below h.1 hb lrf,h.2.1,h.2.2.1,h.2.2.2.1,h.2.2.2.2.trans (hb.mono h.2.2.2.2.size)⟩

theorem Ny {l:List aj} {j:Nat} {r:aj} (hj:j<l.length) (hr:l.getD j aj.no=r):nrm (l.take (j+1))=qM (nrm (l.take j)) r:=by
 rw [tsa hj,ael]
 congr 1
 rw [<-hr];simp [hj]

theorem lg.ins {w w2 w7:World} {b:OAd} {L c j:Nat} {xs outs:List Rw} (h:lg w w2 b L c j xs outs) {k:Nat} {x:Rw} (hk:k<=L) (hj:j<xs.length) (hx:xs.getD j Rw.no=x) (hg:x.Good w) (hc:chk x.r=true)
 (hK:∀y∈(aA outs).take k,bY y x.r=true) (hn:k<L->bY ((aA outs).getD k aj.no) x.r=false/\¬((aA outs).getD k aj.no).like x.r) {a8:OAd} {c8:Nat}
 (ho:w7.ownsRow w2.heap.size 74 3 (.slice a8 (L+1) c8) (L+1) (aZ (outs.take k++[x]++outs.drop k))) (hb:Below w2.heap.size w2 w7):lg w w7 a8 (L+1) c8 (j+1) xs (outs.take k++[x]++outs.drop k):=by
 obtain ⟨h1,h2,h3,h4,h5⟩:=h;refine ⟨lW ho h5.size,fun y hy=>?_,?_,?_,h5.trans (hb.mono h5.size)⟩
 ·rcases map1 hy with hy|hy
  ·rcases map1 hy with hy|hy
   ·exact h2 y (List.mem_of_mem_take hy)
   ·rw [msg hy];exact hg
  ·exact h2 y (List.mem_of_mem_drop hy)
 ·have hr:(aA xs).getD j aj.no=x.r:=by rw [lY,hx]
  rw [Ny (by rw [gP];exact hj) hr,<-h3];unfold qM;have hl:(aA outs).length=L:=by rw [gP,h4]
  rw [if_pos hc,ME (aA outs) k (by rw [hl];exact hk) hK (fun hkl=>(hn (by rw [hl] at hkl;exact hkl)).1),if_neg (fun hh=>(hn (by rw [<-hl];exact hh.1)).2 hh.2)];simp [aA,List.map_take,List.map_drop]
 ·simp [h4];omega

theorem Vw:∀(xs:List Rw) (k:Nat) (y:Rw),k<xs.length->y.l=(xs.getD k Rw.no).l->y.rt=(xs.getD k Rw.no).rt->aZ (xs.set k y)=(aZ xs).set (k*3+2) y.c
 | [],k,y,h,_,_=>by simp at h
 | x::xs,0,y,_,h1,h2=>by
   simp only [List.getD_cons_zero] at h1 h2;rw [List.set_cons_zero,qN,qN];simp [Rw.cells,h1,h2]
 | x::xs,k+1,y,h,h1,h2=>by
   rw [List.set_cons_succ,qN,qN,Vw xs k y (by simpa using h) (by simpa using h1) (by simpa using h2),List.set_append_right _ _ (by simp [Rw.cells];omega)]
   congr 2
   simp [Rw.cells];omega

theorem lg.set {w w2:World} {g L c j:Nat} {xs outs:List Rw} (h:lg w w2 (some ⟨g,0,none⟩) L c j xs outs) {k:Nat} {x y:Rw} (hk:k<L) (hj:j<xs.length) (hx:xs.getD j Rw.no=x) (hg:x.Good w) (hc:chk x.r=true)
 (hK:∀y∈(aA outs).take k,bY y x.r=true) (hy:outs.getD k Rw.no=y) (hn:bY y.r x.r=false) (hl:y.r.like x.r) {m:Int} (hme:m=min y.C x.C) :
 lg w (w2.setCell ⟨g,k*3+2,none⟩ (.int .u64 m)) (some ⟨g,0,none⟩) L c (j+1) xs (outs.set k ⟨y.la,y.ln,y.lc,y.L,y.ra,y.rn,y.rc,y.R,m⟩):=by
 subst hme;obtain ⟨h1,h2,h3,h4,h5⟩:=h
 have hyg:y.Good w:=by
  rw [<-hy,gdq,geg omg];exact h2 _ (List.getElem_mem _)
 have hm:0<=min y.C x.C/\min y.C x.C<18446744073709551616:=by
  have:=hyg.2.2;have:=hg.2.2;omega
 have hgw:w.heap.size<=g:=by
  rcases h1.2 with ⟨h',_⟩|⟨g',c',cur,h',hb',_⟩
  ·simp at h'
  ·simp only [Value.slice.injEq,sij,Addr.mk.injEq] at h';omega
 refine ⟨?_,fun z hz=>?_,?_,by simp [h4],h5.setCell (p:=⟨g,k*3+2,none⟩) hgw _⟩
 ·rw [Vw outs k _ omg (by rw [hy];rfl) (by rw [hy];rfl)];exact (h1.stored (k*3+2) _).1
 ·rcases List.mem_or_eq_of_mem_set hz with hz|hz
  ·exact h2 z hz
  ·rw [hz];exact ⟨hyg.1,hyg.2.1,hm⟩
 ·have hr:(aA xs).getD j aj.no=x.r:=by rw [lY,hx]
  have Bo:(aA outs).getD k aj.no=y.r:=by rw [lY,hy]
  have hlen:(aA outs).length=L:=by rw [gP,h4]
  rw [Ny (by rw [gP];exact hj) hr,<-h3];unfold qM;rw [if_pos hc,ME (aA outs) k omg hK (fun _=>by rw [Bo];exact hn),if_pos ⟨by omega,by rw [Bo];exact hl⟩,Bo];simp [aA,List.map_set,Rw.r]


end
end Go.Proofs.YtkiamgcpcneggaaGreat
