import Derived.Test.YtkiamgcpcneggaaGreatPackA
set_option linter.all false
set_option maxRecDepth 100000
set_option maxHeartbeats 12800000
namespace Go.Proofs.YtkiamgcpcneggaaGreat
section

structure aj where
 L:LIn
 R:LIn
 C:Int
theorem aj.ext' {a b:aj} (h1:a.L=b.L) (h2:a.R=b.R) (h3:a.C=b.C):a=b:=by cases a;cases b;simp_all
instance:DecidableEq aj:=fun a b=>decidable_of_iff (a.L=b.L/\a.R=b.R/\a.C=b.C) ⟨fun h=>aj.ext' h.1 h.2.1 h.2.2,fun h=>h▸⟨rfl,rfl,rfl⟩⟩
def aj.no:aj:=⟨[],[],0⟩
def aj.like (a b:aj):Prop:=a.L=b.L/\a.R=b.R
theorem aj.like.symm {a b:aj} (h:a.like b):b.like a:=⟨h.1.symm,h.2.symm⟩
theorem aj.like.trans {a b c:aj} (h:a.like b) (h':b.like c):a.like c:=⟨h.1.trans h'.1,h.2.trans h'.2⟩
instance (a b:aj):Decidable (a.like b):=inferInstanceAs (Decidable (_/\_))

def gZ (l:LIn):Bool:=l.all Utf.good&&decide (l.length<=8)
def chk (r:aj):Bool:=gZ r.L&&gZ r.R&&decide (r.C<18446744073709551615)&&!decide (r.L=r.R)

def bY (a b:aj):Bool:=if a.L=b.L then lessL a.R b.R else lessL a.L b.L
def eF (a b:aj):Bool:=if a.L=b.L then (if a.R=b.R then decide (a.C<b.C) else lessL a.R b.R) else lessL a.L b.L

theorem Ut (a b:aj):eF ⟨a.L,a.R,0⟩ ⟨b.L,b.R,0⟩=bY a b:=by
 unfold eF bY;by_cases h1:a.L=b.L
 ·by_cases h2:a.R=b.R
  ·simp [h1,h2,kW]
  ·simp [h1,h2]
 ·simp [h1]
theorem Mt (a:aj):bY a a=false:=by simp [bY,kW]
theorem Uu {a b:aj} (h:a.like b):bY a b=false:=by simp [bY,h.1,h.2,kW]
theorem Uv {a a' b b':aj} (h:a.like a') (h':b.like b'):bY a b=bY a' b':=by simp [bY,h.1,h.2,h'.1,h'.2]
theorem Mv {a b c:aj} (h1:bY a b=true) (h2:bY b c=true):bY a c=true:=by
 unfold bY at *;by_cases e1:a.L=b.L
 ·by_cases e2:b.L=c.L
  ·rw [if_pos e1] at h1;rw [if_pos e2] at h2;rw [if_pos (e1.trans e2)];exact qK h1 h2
  ·rw [if_neg e2] at h2;rw [if_neg (by rw [e1];exact e2),e1];exact h2
 ·by_cases e2:b.L=c.L
  ·rw [if_neg e1] at h1;rw [if_neg (by rw [<-e2];exact e1),<-e2];exact h1
  ·rw [if_neg e1] at h1;rw [if_neg e2] at h2;have h3:=qK h1 h2;rw [if_neg (by intro e;rw [e,kW] at h3;cases h3)];exact h3
theorem aeg {a b:aj} (h:bY a b=true):bY b a=false:=by
 cases h':bY b a with
 | false=>rfl
 | true=>have:=Mv h h';rw [Mt] at this;cases this
theorem Mw {a b:aj} (h1:bY a b=false) (h2:bY b a=false):a.like b:=by
 unfold bY at *;by_cases e:a.L=b.L
 ·rw [if_pos e] at h1;rw [if_pos e.symm] at h2;exact ⟨e,uB h1 h2⟩
 ·rw [if_neg e] at h1;rw [if_neg (fun h=>e h.symm)] at h2;exact absurd (uB h1 h2) e
theorem Mx (a b:aj):eF a b=(bY a b||(decide (a.like b)&&decide (a.C<b.C))):=by
 unfold eF bY aj.like;by_cases e1:a.L=b.L
 ·by_cases e2:a.R=b.R
  ·simp [e1,e2,kW]
  ·simp [e1,e2]
 ·simp [e1]
theorem aeh (a:aj):eF a a=false:=by simp [eF]
theorem Uw {a b c:aj} (h1:eF a b=true) (h2:eF b c=true):eF a c=true:=by
 rw [Mx] at *;simp only [Bool.or_eq_true,Bool.and_eq_true,decide_eq_true_eq] at *;rcases h1 with h1|⟨h1,h1'⟩
 ·rcases h2 with h2|⟨h2,h2'⟩
  ·exact .inl (Mv h1 h2)
  ·left;rw [<-Uv (a:=a) ⟨rfl,rfl⟩ h2];exact h1
 ·rcases h2 with h2|⟨h2,h2'⟩
  ·left;rw [Uv h1 (b':=c) ⟨rfl,rfl⟩];exact h2
  ·right;exact ⟨h1.trans h2,by omega⟩
theorem aei {a b:aj} (h1:eF a b=false) (h2:eF b a=false):a=b:=by
 rw [Mx] at *;simp only [Bool.or_eq_false_iff,Bool.and_eq_false_iff,decide_eq_false_iff_not] at *;have hl:=Mw h1.1 h2.1;refine aj.ext' hl.1 hl.2 ?_;rcases h1.2 with h|h
 ·exact absurd hl h
 ·rcases h2.2 with h' | h'
  ·exact absurd hl.symm h'
  ·omega
def vZ (n:List aj):Prop:=n.Pairwise fun a b=>bY a b=true
def jZ (l n:List aj):Prop :=
 vZ n/\(∀r∈n,r∈l/\chk r=true)/\∀r∈l,chk r=true->∃s∈n,s.like r/\s.C<=r.C

theorem vZ.one {n:List aj} (h:vZ n) {a b:aj} (ha:a∈n) (hb:b∈n) (hab:a.like b):a=b:=by
 obtain ⟨i,hi,rfl⟩:=List.mem_iff_getElem.1 ha;obtain ⟨j,hj,rfl⟩:=List.mem_iff_getElem.1 hb;rcases Nat.lt_trichotomy i j with h1|h1|h1
 ·have:=List.pairwise_iff_getElem.1 h i j hi hj h1;rw [Uu hab] at this;cases this
 ·subst h1;rfl
 ·have:=List.pairwise_iff_getElem.1 h j i hj hi h1;rw [Uu hab.symm] at this;cases this
theorem Ux:∀{l l':List aj},vZ l->vZ l'->(∀x,x∈l↔x∈l')->l=l'
 | [],[],_,_,_=>rfl
 | [],y::ys,_,_,h=>by have:=(h y).2 smp;simp at this
 | x::xs,[],_,_,h=>by have:=(h x).1 smp;simp at this
 | x::xs,y::ys,h1,h2,h=>by
   have a1:=List.pairwise_cons.1 h1;have a2:=List.pairwise_cons.1 h2
   have e:x=y:=by
    rcases List.mem_cons.1 ((h x).1 smp) with e|hx
    ·exact e
    ·rcases List.mem_cons.1 ((h y).2 smp) with e|hy
     ·exact e.symm
     ·have:=aeg (a1.1 y hy);rw [a2.1 x hx] at this;cases this
   subst e
   have:xs=ys:=Ux a1.2 a2.2 fun z=>by
    constructor
    ·intro hz;rcases List.mem_cons.1 ((h z).1 (by simp [hz])) with e|h'
     ·subst e;have:=a1.1 z hz;rw [Mt] at this;cases this
     ·exact h'
    ·intro hz;rcases List.mem_cons.1 ((h z).2 (by simp [hz])) with e|h'
     ·subst e;have:=a2.1 z hz;rw [Mt] at this;cases this
     ·exact h'
   rw [this]
theorem jZ.sub {l l' n n':List aj} (h:jZ l n) (h':jZ l' n') (hl:∀r∈l,chk r=true->∃s∈l',chk s=true/\s.like r/\s.C<=r.C) (hl':∀r∈l',chk r=true->∃s∈l,chk s=true/\s.like r/\s.C<=r.C):∀r∈n,r∈n':=by
 intro r hr;obtain ⟨hrl,hrc⟩:=h.2.1 r hr;obtain ⟨s,hs,hsc,gI,tH⟩:=hl r hrl hrc;obtain ⟨t,ht,hts,htC⟩:=h'.2.2 s hs hsc;obtain ⟨htl,htc⟩:=h'.2.1 t ht;obtain ⟨u,hu,huc,hut,huC⟩:=hl' t htl htc;obtain ⟨v,hv,hvu,hvC⟩:=h.2.2 u hu huc;have e:=h.1.one hv hr (((hvu.trans hut).trans hts).trans gI);subst e;have:t=v:=aj.ext' (hts.trans gI).1 (hts.trans gI).2 omg;rw [<-this];exact ht
theorem jZ.same {l l' n n':List aj} (h:jZ l n) (h':jZ l' n') (hl:∀r∈l,chk r=true->∃s∈l',chk s=true/\s.like r/\s.C<=r.C) (hl':∀r∈l',chk r=true->∃s∈l,chk s=true/\s.like r/\s.C<=r.C):n=n' :=
 Ux h.1 h'.1 fun r=>⟨h.sub h' hl hl' r,h'.sub h hl' hl r⟩
theorem jZ.uniq {l l' n n':List aj} (h:jZ l n) (h':jZ l' n') (hl:∀r,r∈l↔r∈l'):n=n' :=
 h.same h' (fun r hr hc=>⟨r,(hl r).1 hr,hc,⟨rfl,rfl⟩,Int.le_refl _⟩) (fun r hr hc=>⟨r,(hl r).2 hr,hc,⟨rfl,rfl⟩,Int.le_refl _⟩)

def kX:List aj->aj->List aj
 | [],r=>[r]
 | s::n,r=>if bY s r=true then s::kX n r else if s.like r then ⟨s.L,s.R,min s.C r.C⟩::n else r::s::n
def qM (o:List aj) (r:aj):List aj:=if chk r=true then kX o r else o
def nrm (l:List aj):List aj:=l.foldl qM []

theorem MB {r x:aj}:∀{n:List aj},x∈kX n r->x=r\/x∈n
 | [],h=>by simp [kX] at h;exact .inl h
 | s::n,h=>by
   unfold kX at h;split at h
   ·rcases List.mem_cons.1 h with e|h
    ·right;simp [e]
    ·rcases MB h with e|h
     ·exact .inl e
     ·right;simp [h]
   ·split at h
    ·rename_i hl;rcases List.mem_cons.1 h with e|h
     ·by_cases hc:s.C<=r.C
      ·right;rw [e,Int.min_eq_left hc];simp
      ·left;rw [e,Int.min_eq_right omg];exact aj.ext' hl.1 hl.2 rfl
     ·right;simp [h]
    ·rcases List.mem_cons.1 h with e|h
     ·exact .inl e
     ·right;exact h
theorem MC {r:aj}:∀(n:List aj),(∃s∈kX n r,s.like r/\s.C<=r.C)/\∀x∈n,∃s∈kX n r,s.like x/\s.C<=x.C
 | []=>⟨⟨r,by simp [kX],⟨rfl,rfl⟩,Int.le_refl _⟩,by simp⟩
 | s::n=>by
   have ih:=MC (r:=r) n;unfold kX;split
   ·refine ⟨?_,fun x hx=>?_⟩
    ·obtain ⟨t,ht,h⟩:=ih.1;exact ⟨t,by simp [ht],h⟩
    ·rcases List.mem_cons.1 hx with e|hx
     ·exact ⟨s,by simp,by rw [e];exact ⟨rfl,rfl⟩,by rw [e];exact Int.le_refl _⟩
     ·obtain ⟨t,ht,h⟩:=ih.2 x hx;exact ⟨t,by simp [ht],h⟩
   ·split
    ·rename_i hl;refine ⟨⟨⟨s.L,s.R,min s.C r.C⟩,by simp,hl,Int.min_le_right _ _⟩,fun x hx=>?_⟩;rcases List.mem_cons.1 hx with e|hx
     ·exact ⟨⟨s.L,s.R,min s.C r.C⟩,by simp,by rw [e];exact ⟨rfl,rfl⟩,by rw [e];exact Int.min_le_left _ _⟩
     ·exact ⟨x,by simp [hx],⟨rfl,rfl⟩,Int.le_refl _⟩
    ·refine ⟨⟨r,by simp,⟨rfl,rfl⟩,Int.le_refl _⟩,fun x hx=>⟨x,by simp at hx ⊢;exact .inr hx,⟨rfl,rfl⟩,Int.le_refl _⟩⟩
theorem Uy {r:aj}:∀{n:List aj},vZ n->vZ (kX n r)
 | [],_=>by simp [kX,vZ]
 | s::n,h=>by
   have h':=List.pairwise_cons.1 h;unfold kX;split
   ·rename_i hs;refine List.pairwise_cons.2 ⟨fun x hx=>?_,Uy h'.2⟩;rcases MB hx with e|hx
    ·rw [e];exact hs
    ·exact h'.1 x hx
   ·rename_i hs;split
    ·exact List.pairwise_cons.2 ⟨fun x hx=>h'.1 x hx,h'.2⟩
    ·rename_i hl
     have hrs:bY r s=true:=by
      cases hq:bY r s with
      | true=>rfl
      | false=>exact absurd (Mw (by simpa using hs) hq) hl
     refine List.pairwise_cons.2 ⟨fun x hx=>?_,h⟩;rcases List.mem_cons.1 hx with e|hx
     ·rw [e];exact hrs
     ·exact Mv hrs (h'.1 x hx)
theorem aej {l n:List aj} (h:jZ l n) (r:aj):jZ (l++[r]) (qM n r):=by
 unfold qM;by_cases hc:chk r=true
 ·rw [if_pos hc];refine ⟨Uy h.1,fun x hx=>?_,fun x hx kI=>?_⟩
  ·rcases MB hx with e|hx
   ·rw [e];exact ⟨by simp,hc⟩
   ·have:=h.2.1 x hx;exact ⟨by simp [this.1],this.2⟩
  ·rcases map1 hx with hx|hx
   ·obtain ⟨s,hs,hsx,tH⟩:=h.2.2 x hx kI;obtain ⟨t,ht,hts,htC⟩:=(MC (r:=r) n).2 s hs;exact ⟨t,ht,hts.trans hsx,by omega⟩
   ·rw [msg hx];exact (MC n).1
 ·rw [if_neg hc];refine ⟨h.1,fun x hx=>?_,fun x hx kI=>?_⟩
  ·have:=h.2.1 x hx;exact ⟨by simp [this.1],this.2⟩
  ·rcases map1 hx with hx|hx
   ·exact h.2.2 x hx kI
   ·rw [msg hx] at kI;exact absurd kI hc
theorem Uz:∀(d l n:List aj),jZ l n->jZ (l++d) (d.foldl qM n)
 | [],l,n,h=>by simpa using h
 | r::d,l,n,h=>by
   have:=Uz d (l++[r]) (qM n r) (aej h r);simpa using this
theorem aek (l:List aj):jZ l (nrm l):=by
 have:=Uz l [] [] ⟨List.Pairwise.nil,by simp,by simp⟩;simpa [nrm] using this
theorem jZ.eq {l n:List aj} (h:jZ l n):n=nrm l:=h.uniq (aek l) fun _=>Iff.rfl
theorem ael (l:List aj) (r:aj):nrm (l++[r])=qM (nrm l) r:=by simp [nrm]
def aj.turn (r:aj):aj:=⟨r.R,r.L,r.C⟩
theorem ME {r:aj}:∀(n:List aj) (k:Nat),k<=n.length->(∀x∈n.take k,bY x r=true)->(k<n.length->bY (n.getD k aj.no) r=false) ->
 kX n r=if k<n.length/\(n.getD k aj.no).like r then n.set k ⟨(n.getD k aj.no).L,(n.getD k aj.no).R,min (n.getD k aj.no).C r.C⟩ else n.take k++r::n.drop k
 | [],k,hk,_,_=>by
   obtain rfl:k=0:=by simpa using hk
   simp [kX]
 | s::n,0,_,_,h=>by
   have h0:bY s r=false:=h smp;unfold kX;simp only [h0,Bool.false_eq_true,if_false,List.length_cons,List.getD_cons_zero,List.set_cons_zero,List.take_zero,List.drop_zero,List.nil_append];by_cases hl:s.like r
   ·rw [if_pos hl,if_pos ⟨by omega,hl⟩]
   ·rw [if_neg hl,if_neg (fun h=>hl h.2)]
 | s::n,k+1,hk,ha,h=>by
   have hs:bY s r=true:=ha s smp;have ih:=ME n k (by simpa using hk) (fun x hx=>ha x (by simp [hx])) (fun hk'=>by have:=h (by simpa using hk');simpa using this);unfold kX;rw [if_pos hs,ih];simp only [List.length_cons,List.getD_cons_succ,List.set_cons_succ,List.take_succ_cons,List.drop_succ_cons,List.cons_append,Nat.add_lt_add_iff_right];split<;>rfl

end
section
namespace Num

def dig (c:Nat):LIn:=if c<10 then [48+(c:Int)] else dig (c/10)++[48+((c%10:Nat):Int)]
termination_by c
decreasing_by omega
def val (l:LIn):Nat:=l.foldl (fun a d=>a*10+(d-48).toNat) 0
def read (b:LIn):Option Nat:=if dig (val b)=b/\val b<18446744073709551615 then some (val b) else none
def lessL:LIn->LIn->Bool
 | _,[]=>false
 | [],_::_=>true
 | a::x,b::y=>decide (a<b)||(a==b&&lessL x y)
end Num
end
section
namespace Spec

def plain (l:LIn):Bool:=l.all (fun c=>decide (c≠9)&&decide (c≠10)&&decide (c≠32))&&!decide (l=[95])
def fit (r:aj):Bool:=chk r&&plain r.L&&plain r.R
def field (l:LIn):LIn:=if l=[] then [95] else Utf.put l
def write (r:aj):LIn:=[82,69,80,32]++field r.L++[32]++field r.R++[32]++Num.dig r.C.toNat

open Classical in
noncomputable def signs (zs:LIn):Option (LIn):=if h:∃l,Utf.Un zs (some l) then some h.choose else none
noncomputable def side (f:LIn):Option (LIn):=if f=[95] then some [] else signs f

def both (a b c:Int):List aj:=[⟨[a],[b],c⟩,⟨[b],[a],c⟩]
def MH (c:Int):Nat->Int->LIn->List aj
 | _,_,[]=>[]
 | row,p,x::l=>if x=124 then MH c 0 x l else (if 1<=row/\x≠p then both p x c else [])++MH c (row+1) x l
def MI:Nat->LIn->Bool
 | _,[]=>true
 | row,x::l=>if x=124 then MI 0 l else decide (row+1<=12)&&decide (x≠95)&&MI (row+1) l
def aeo (c a:Int) (l:LIn):List aj:=l.flatMap fun b=>if a≠b then [⟨[a],[b],c⟩] else []
def aep (c:Int) (l:LIn):List aj:=l.flatMap fun a=>aeo c a l
def aeq (l:LIn):Bool:=decide (l.length<=12)&&l.all fun x=>decide (x≠95)

structure Sp where
 e:Int
 base:LIn
 rules:List aj
def Sp.no (e:Int):Sp:=⟨e,[],[]⟩

def costs:LLI->Option (LIn)
 | []=>some []
 | f::fs=>match Num.read f with
   | none=>none
   | some c=>match costs fs with
     | none=>none
     | some l=>some ((c:Int)::l)
def told (ok:Bool) (rs:List aj):Sp:=if ok=true/\rs.all fit=true then ⟨0,[],rs⟩ else Sp.no 60
def last (f:LIn) (k:Int->Sp):Sp:=match Num.read f with
 | none=>Sp.no 50
 | some c=>k c
noncomputable def rep (f:LLI):Sp:=match side (f.getD 1 []),side (f.getD 2 []) with
 | some a,some b=>last (f.getD 3 []) fun c=>told true [⟨a,b,c⟩]
 | _,_=>Sp.no 10
noncomputable def key (f:LLI):Sp:=match signs (f.getD 1 []) with
 | some a=>last (f.getD 2 []) fun c=>told (MI 0 a) (MH c 0 0 a)
 | none=>Sp.no 10
noncomputable def map (f:LLI):Sp:=match signs (f.getD 1 []) with
 | some a=>last (f.getD 2 []) fun c=>told (aeq a) (aep c a)
 | none=>Sp.no 10
def base (f:LLI):Sp:=match costs (f.drop 1) with
 | some l=>⟨0,l,[]⟩
 | none=>Sp.no 50
def UE:LIn:=[66,65,83,69]
def aer:LIn:=[82,69,80]
def aes:LIn:=[75,69,89]
def aet:LIn:=[77,65,80]
noncomputable def aeu (f:LLI):Sp :=
 if f.getD 0 []=UE then (if f.length=5 then base f else Sp.no 71)
 else if f.getD 0 []=aer then (if f.length=4 then rep f else Sp.no 71)
 else if f.getD 0 []=aes then (if f.length=3 then key f else Sp.no 71)
 else if f.getD 0 []=aet then (if f.length=3 then map f else Sp.no 71)
 else Sp.no 70
noncomputable def read (l:LIn):Sp:=if Line.bare l=true then Sp.no 0 else aeu (Line.fields l)

theorem fit_parts {r:aj} (h:fit r=true):chk r=true/\plain r.L=true/\plain r.R=true:=by
 unfold fit at h;simp only [Bool.and_eq_true] at h;exact ⟨h.1.1,h.1.2,h.2⟩
end Spec
end
section
namespace File

structure Cst where
 base:LIn
 rules:List aj
def Cst.zero:Cst:=⟨[0,0,0,0],[]⟩
structure Got where
 c:Cst
 at_:Int
 e:Int

noncomputable def readA (i:Nat) (had:Bool) (base:LIn) (rs:List aj):LLI->Got
 | []=>⟨⟨base,rs⟩,-1,0⟩
 | l::ls =>
   if (Spec.read l).e≠0 then ⟨Cst.zero,(i:Int),(Spec.read l).e⟩
   else if (Spec.read l).base≠[]/\had=true then ⟨Cst.zero,(i:Int),80⟩
   else if 200<(nrm (rs++(Spec.read l).rules)).length then ⟨Cst.zero,(i:Int),81⟩
   else readA (i+1) (had||!decide ((Spec.read l).base=[])) (if (Spec.read l).base=[] then base else (Spec.read l).base) (nrm (rs++(Spec.read l).rules)) ls
noncomputable def read (b:LIn):Got:=readA 0 false [1,1,1,1] [] (Line.split b)

noncomputable def flat (ls:LLI):List aj:=ls.flatMap fun l=>(Spec.read l).rules
noncomputable def bs (ls:LLI):LLI:=ls.flatMap fun l=>if (Spec.read l).base=[] then [] else [(Spec.read l).base]
def Ok (had:Bool) (rs:List aj) (ls:LLI):Prop :=
 (∀l∈ls,(Spec.read l).e=0)/\(if had=true then 1 else 0)+(bs ls).length<=1/\(nrm (rs++flat ls)).length<=200

def check (c:Cst):Bool:=c.base.all (fun x=>decide (x<18446744073709551615))&&decide (c.rules.length<=200)&&c.rules.all Spec.fit&&decide (nrm c.rules=c.rules)
def aev (b:LIn):LIn:=Spec.UE++b.flatMap fun x=>32::Num.dig x.toNat
def lines (c:Cst):LLI:=aev c.base::c.rules.map Spec.write
def write (c:Cst):LIn:=(lines c).flatMap fun l=>l++[10]

theorem aew {c:Cst} (h:check c=true):(∀x∈c.base,x<18446744073709551615)/\c.rules.length<=200/\(∀r∈c.rules,Spec.fit r=true)/\nrm c.rules=c.rules:=by
 unfold check at h;simp only [Bool.and_eq_true,decide_eq_true_eq,List.all_eq_true] at h;exact ⟨h.1.1.1,h.1.1.2,h.1.2,h.2⟩
theorem ones:([1,1,1,1]:LIn).length=4/\∀x∈([1,1,1,1]:LIn),0<=x/\x<18446744073709551615:=⟨rfl,by simp⟩
def held (n:List aj) (r:aj):Bool:=n.any fun s=>decide (s.like r)&&decide (s.C<=r.C)
end File
end
section
namespace Var

def enc (n:Nat):LIn:=if n<128 then [(n:Int)] else (128+((n%128:Nat):Int))::enc (n/128)
termination_by n
decreasing_by omega
theorem afv {n:Nat} (h:n<128):enc n=[(n:Int)]:=by rw [enc,if_pos h]
theorem afw {n:Nat} (h:128<=n):enc n=(128+((n%128:Nat):Int))::enc (n/128):=by rw [enc,if_neg omg]

theorem enc_ne (n:Nat):enc n≠[]:=by
 rcases Nat.lt_or_ge n 128 with h|h
 ·rw [afv h];simp
 ·rw [afw h];simp
def val:LIn->Nat
 | []=>0
 | x::xs=>x.toNat%128+128*val xs
def upTo:Nat->LIn->LIn
 | 0,_=>[]
 | _+1,[]=>[]
 | k+1,x::xs=>if x<128 then [x] else x::upTo k xs
def num (b:LIn):Nat:=val (upTo 10 b)%18446744073709551616
def take (b:LIn):Option (Nat × LIn):=if enc (num b)=b.take (enc (num b)).length then some (num b,b.drop (enc (num b)).length) else none
end Var
end
section
namespace Img

structure Im where
 sts:List Tri.St
 c:File.Cst
def Im.no:Im:=⟨[],File.Cst.zero⟩

def UZ (i:Int):Int->List (Int × Int)->List Nat
 | _,[]=>[]
 | p,a::r=>(a.1-p-1).toNat::(a.2-i-1).toNat::UZ i a.1 r
def afx (s:Tri.St):Nat:=2*s.arcs.length+(if s.final=true then 1 else 0)
def afy (i:Int) (s:Tri.St):List Nat:=afx s::UZ i (-1) s.arcs
def Va:Int->List Tri.St->List Nat
 | _,[]=>[]
 | i,s::r=>afy i s++Va (i+1) r
def Vb (l:LIn):List Nat:=l.length::l.map Int.toNat
def afz (r:aj):List Nat:=Vb r.L++(Vb r.R++[r.C.toNat])
def afA (l:List aj):List Nat:=l.flatMap afz
def afB (c:File.Cst):List Nat:=c.base.map Int.toNat++c.rules.length::afA c.rules
def nums (x:Im):List Nat:=x.sts.length::Va 0 x.sts++afB x.c
def flat (l:List Nat):LIn:=l.flatMap Var.enc
def body (x:Im):LIn:=flat (nums x)
def take (M:Nat) (b:LIn):Option (Nat × LIn) :=
 match Var.take b with
 | some (n,r)=>if n<=M then some (n,r) else none
 | none=>none
def Plain (c:File.Cst):Prop:=c.base.length=4/\(∀z∈c.base,0<=z/\z<18446744073709551616)/\∀x∈c.rules,0<=x.C

def Ok (x:Im):Prop:=Tri.check x.sts=true/\File.check x.c=true
end Img
end
section
namespace Crc

def pol:Nat:=3988292384
def ones:Nat:=4294967295
def step (s:Nat):Nat:=(s/2) ^^^ (if s%2=1 then pol else 0)
def steps:Nat->Nat->Nat
 | 0,s=>s
 | k+1,s=>steps k (step s)

theorem step_lt {s:Nat} (h:s<4294967296):step s<4294967296:=by
 unfold step;have h1:s/2<2^32:=omg;have h2:(if s%2=1 then pol else 0)<2^32:=by split<;>simp [pol]
 exact Nat.xor_lt_two_pow h1 h2
def num:LIn->Nat
 | []=>0
 | x::xs=>x.toNat+256*num xs
def raw (s:Nat) (l:LIn):Nat:=l.foldl (fun s x=>steps 8 (s ^^^ x.toNat)) s
def sum (l:LIn):Nat:=raw ones l ^^^ ones
def le4 (s:Nat):LIn:=[((s%256:Nat):Int),((s/256%256:Nat):Int),((s/65536%256:Nat):Int),((s/16777216%256:Nat):Int)]
def lock (l:LIn):LIn:=l++le4 (sum l)
def opn (l:LIn):Option (LIn):=if 4<=l.length/\lock (l.take (l.length-4))=l then some (l.take (l.length-4)) else none
def rest:Nat:=steps 32 ones
end Crc
end
section
namespace Img

open Classical in
noncomputable def write (x:Im):Sum (LIn) Int:=if Tri.check x.sts=true then if File.check x.c=true then .inl (Crc.lock (body x)) else .inr 60 else .inr 100
def afC (b:LIn) (x:Im):Prop:=Plain x.c/\Ok x/\Crc.lock (body x)=b
open Classical in
noncomputable def read (b:LIn):Sum Im Int:=if h:∃x,afC b x then .inl h.choose else if Crc.opn b=none then .inr 140 else .inr 150
end Img
end
section
namespace Spec

end Spec
end
end Go.Proofs.YtkiamgcpcneggaaGreat
