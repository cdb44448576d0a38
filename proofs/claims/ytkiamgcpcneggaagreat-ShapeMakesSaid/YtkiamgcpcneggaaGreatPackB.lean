import Derived.Test.YtkiamgcpcneggaaGreatPackA
set_option linter.all false
set_option maxRecDepth 100000
set_option maxHeartbeats 12800000
namespace Go.Proofs.YtkiamgcpcneggaaGreat
section

structure Rul where
 L:List Int
 R:List Int
 C:Int
theorem Rul.ext' {a b:Rul} (h1:a.L=b.L) (h2:a.R=b.R) (h3:a.C=b.C):a=b:=by cases a;cases b;simp_all
instance:DecidableEq Rul:=fun a b=>decidable_of_iff (a.L=b.L/\a.R=b.R/\a.C=b.C) ⟨fun h=>Rul.ext' h.1 h.2.1 h.2.2,fun h=>h▸⟨rfl,rfl,rfl⟩⟩
def Rul.no:Rul:=⟨[],[],0⟩
def Rul.like (a b:Rul):Prop:=a.L=b.L/\a.R=b.R
theorem Rul.like.symm {a b:Rul} (h:a.like b):b.like a:=⟨h.1.symm,h.2.symm⟩
theorem Rul.like.trans {a b c:Rul} (h:a.like b) (h':b.like c):a.like c:=⟨h.1.trans h'.1,h.2.trans h'.2⟩
instance (a b:Rul):Decidable (a.like b):=inferInstanceAs (Decidable (_/\_))

def goodL (l:List Int):Bool:=l.all Utf.good&&decide (l.length<=8)
def chk (r:Rul):Bool:=goodL r.L&&goodL r.R&&decide (r.C<18446744073709551615)&&!decide (r.L=r.R)

def lessS (a b:Rul):Bool:=if a.L=b.L then lessL a.R b.R else lessL a.L b.L
def lessR (a b:Rul):Bool:=if a.L=b.L then (if a.R=b.R then decide (a.C<b.C) else lessL a.R b.R) else lessL a.L b.L

theorem mo (a:Rul):lessS a a=false:=by simp [lessS,cd]
theorem zf {a b:Rul} (h:a.like b):lessS a b=false:=by simp [lessS,h.1,h.2,cd]
theorem vq {a a' b b':Rul} (h:a.like a') (h':b.like b'):lessS a b=lessS a' b':=by simp [lessS,h.1,h.2,h'.1,h'.2]
theorem ot {a b c:Rul} (h1:lessS a b=true) (h2:lessS b c=true):lessS a c=true:=by
 unfold lessS at *;by_cases e1:a.L=b.L
 ·by_cases e2:b.L=c.L
  ·rw [if_pos e1] at h1;rw [if_pos e2] at h2;rw [if_pos (e1.trans e2)];exact di h1 h2
  ·rw [if_neg e2] at h2;rw [if_neg (by rw [e1];exact e2),e1];exact h2
 ·by_cases e2:b.L=c.L
  ·rw [if_neg e1] at h1;rw [if_neg (by rw [<-e2];exact e1),<-e2];exact h1
  ·rw [if_neg e1] at h1;rw [if_neg e2] at h2;have h3:=di h1 h2;rw [if_neg (by intro e;rw [e,cd] at h3;cases h3)];exact h3
theorem ahs {a b:Rul} (h:lessS a b=true):lessS b a=false:=by
 cases h':lessS b a with
 | false=>rfl
 | true=>have:=ot h h';rw [mo] at this;cases this
theorem ou {a b:Rul} (h1:lessS a b=false) (h2:lessS b a=false):a.like b:=by
 unfold lessS at *;by_cases e:a.L=b.L
 ·rw [if_pos e] at h1;rw [if_pos e.symm] at h2;exact ⟨e,ev h1 h2⟩
 ·rw [if_neg e] at h1;rw [if_neg (fun h=>e h.symm)] at h2;exact absurd (ev h1 h2) e
theorem tf (a b:Rul):lessR a b=(lessS a b||(decide (a.like b)&&decide (a.C<b.C))):=by
 unfold lessR lessS Rul.like;by_cases e1:a.L=b.L
 ·by_cases e2:a.R=b.R
  ·simp [e1,e2,cd]
  ·simp [e1,e2]
 ·simp [e1]
theorem aet (a:Rul):lessR a a=false:=by simp [lessR]
theorem vr {a b c:Rul} (h1:lessR a b=true) (h2:lessR b c=true):lessR a c=true:=by
 rw [tf] at *;simp only [Bool.or_eq_true,Bool.and_eq_true,decide_eq_true_eq] at *;rcases h1 with h1|⟨h1,h1'⟩
 ·rcases h2 with h2|⟨h2,h2'⟩
  ·exact .inl (ot h1 h2)
  ·left;rw [<-vq (a:=a) ⟨rfl,rfl⟩ h2];exact h1
 ·rcases h2 with h2|⟨h2,h2'⟩
  ·left;rw [vq h1 (b':=c) ⟨rfl,rfl⟩];exact h2
  ·right;exact ⟨h1.trans h2,by omega⟩
theorem aht {a b:Rul} (h1:lessR a b=false) (h2:lessR b a=false):a=b:=by
 rw [tf] at *;simp only [Bool.or_eq_false_iff,Bool.and_eq_false_iff,decide_eq_false_iff_not] at *;have hl:=ou h1.1 h2.1;refine Rul.ext' hl.1 hl.2 ?_;rcases h1.2 with h|h
 ·exact absurd hl h
 ·rcases h2.2 with h' | h'
  ·exact absurd hl.symm h'
  ·omega
def RiseR (n:List Rul):Prop:=n.Pairwise fun a b=>lessS a b=true
def IsNorm (l n:List Rul):Prop :=
 RiseR n/\(∀r∈n,r∈l/\chk r=true)/\∀r∈l,chk r=true->∃s∈n,s.like r/\s.C<=r.C

theorem RiseR.one {n:List Rul} (h:RiseR n) {a b:Rul} (ha:a∈n) (hb:b∈n) (hab:a.like b):a=b:=by
 obtain ⟨i,hi,rfl⟩:=List.mem_iff_getElem.1 ha;obtain ⟨j,hj,rfl⟩:=List.mem_iff_getElem.1 hb;rcases Nat.lt_trichotomy i j with h1|h1|h1
 ·have:=List.pairwise_iff_getElem.1 h i j hi hj h1;rw [zf hab] at this;cases this
 ·subst h1;rfl
 ·have:=List.pairwise_iff_getElem.1 h j i hj hi h1;rw [zf hab.symm] at this;cases this
theorem tg:∀{l l':List Rul},RiseR l->RiseR l'->(∀x,x∈l↔x∈l')->l=l'
 | [],[],_,_,_=>rfl
 | [],y::ys,_,_,h=>by have:=(h y).2 (by simp);simp at this
 | x::xs,[],_,_,h=>by have:=(h x).1 (by simp);simp at this
 | x::xs,y::ys,h1,h2,h=>by
   have a1:=List.pairwise_cons.1 h1;have a2:=List.pairwise_cons.1 h2
   have e:x=y:=by
    rcases List.mem_cons.1 ((h x).1 (by simp)) with e|hx
    ·exact e
    ·rcases List.mem_cons.1 ((h y).2 (by simp)) with e|hy
     ·exact e.symm
     ·have:=ahs (a1.1 y hy);rw [a2.1 x hx] at this;cases this
   subst e
   have:xs=ys:=tg a1.2 a2.2 fun z=>by
    constructor
    ·intro hz;rcases List.mem_cons.1 ((h z).1 (by simp [hz])) with e|h'
     ·subst e;have:=a1.1 z hz;rw [mo] at this;cases this
     ·exact h'
    ·intro hz;rcases List.mem_cons.1 ((h z).2 (by simp [hz])) with e|h'
     ·subst e;have:=a2.1 z hz;rw [mo] at this;cases this
     ·exact h'
   rw [this]
theorem IsNorm.sub {l l' n n':List Rul} (h:IsNorm l n) (h':IsNorm l' n') (hl:∀r∈l,chk r=true->∃s∈l',chk s=true/\s.like r/\s.C<=r.C) (hl':∀r∈l',chk r=true->∃s∈l,chk s=true/\s.like r/\s.C<=r.C):∀r∈n,r∈n':=by
 intro r hr;obtain ⟨hrl,hrc⟩:=h.2.1 r hr;obtain ⟨s,hs,hsc,hsr,hsC⟩:=hl r hrl hrc;obtain ⟨t,ht,hts,htC⟩:=h'.2.2 s hs hsc;obtain ⟨htl,htc⟩:=h'.2.1 t ht;obtain ⟨u,hu,huc,hut,huC⟩:=hl' t htl htc;obtain ⟨v,hv,hvu,hvC⟩:=h.2.2 u hu huc;have e:=h.1.one hv hr (((hvu.trans hut).trans hts).trans hsr);subst e;have:t=v:=Rul.ext' (hts.trans hsr).1 (hts.trans hsr).2 (by omega)
 rw [<-this];exact ht
theorem IsNorm.same {l l' n n':List Rul} (h:IsNorm l n) (h':IsNorm l' n') (hl:∀r∈l,chk r=true->∃s∈l',chk s=true/\s.like r/\s.C<=r.C) (hl':∀r∈l',chk r=true->∃s∈l,chk s=true/\s.like r/\s.C<=r.C):n=n' :=
 tg h.1 h'.1 fun r=>⟨h.sub h' hl hl' r,h'.sub h hl' hl r⟩
theorem IsNorm.uniq {l l' n n':List Rul} (h:IsNorm l n) (h':IsNorm l' n') (hl:∀r,r∈l↔r∈l'):n=n' :=
 h.same h' (fun r hr hc=>⟨r,(hl r).1 hr,hc,⟨rfl,rfl⟩,Int.le_refl _⟩) (fun r hr hc=>⟨r,(hl r).2 hr,hc,⟨rfl,rfl⟩,Int.le_refl _⟩)

def insR:List Rul->Rul->List Rul
 | [],r=>[r]
 | s::n,r=>if lessS s r=true then s::insR n r else if s.like r then ⟨s.L,s.R,min s.C r.C⟩::n else r::s::n
def stepR (o:List Rul) (r:Rul):List Rul:=if chk r=true then insR o r else o
def nrm (l:List Rul):List Rul:=l.foldl stepR []

theorem xo {r x:Rul}:∀{n:List Rul},x∈insR n r->x=r\/x∈n
 | [],h=>by simp [insR] at h;exact .inl h
 | s::n,h=>by
   unfold insR at h;split at h
   ·rcases List.mem_cons.1 h with e|h
    ·right;simp [e]
    ·rcases xo h with e|h
     ·exact .inl e
     ·right;simp [h]
   ·split at h
    ·rename_i hl;rcases List.mem_cons.1 h with e|h
     ·by_cases hc:s.C<=r.C
      ·right;rw [e,Int.min_eq_left hc];simp
      ·left;rw [e,Int.min_eq_right (by omega)];exact Rul.ext' hl.1 hl.2 rfl
     ·right;simp [h]
    ·rcases List.mem_cons.1 h with e|h
     ·exact .inl e
     ·right;exact h
theorem xp {r:Rul}:∀(n:List Rul),(∃s∈insR n r,s.like r/\s.C<=r.C)/\∀x∈n,∃s∈insR n r,s.like x/\s.C<=x.C
 | []=>⟨⟨r,by simp [insR],⟨rfl,rfl⟩,Int.le_refl _⟩,by simp⟩
 | s::n=>by
   have ih:=xp (r:=r) n;unfold insR;split
   ·refine ⟨?_,fun x hx=>?_⟩
    ·obtain ⟨t,ht,h⟩:=ih.1;exact ⟨t,by simp [ht],h⟩
    ·rcases List.mem_cons.1 hx with e|hx
     ·exact ⟨s,by simp,by rw [e];exact ⟨rfl,rfl⟩,by rw [e];exact Int.le_refl _⟩
     ·obtain ⟨t,ht,h⟩:=ih.2 x hx;exact ⟨t,by simp [ht],h⟩
   ·split
    ·rename_i hl;refine ⟨⟨⟨s.L,s.R,min s.C r.C⟩,by simp,hl,Int.min_le_right _ _⟩,fun x hx=>?_⟩
     rcases List.mem_cons.1 hx with e|hx
     ·exact ⟨⟨s.L,s.R,min s.C r.C⟩,by simp,by rw [e];exact ⟨rfl,rfl⟩,by rw [e];exact Int.min_le_left _ _⟩
     ·exact ⟨x,by simp [hx],⟨rfl,rfl⟩,Int.le_refl _⟩
    ·refine ⟨⟨r,by simp,⟨rfl,rfl⟩,Int.le_refl _⟩,fun x hx=>⟨x,by simp at hx ⊢;exact .inr hx,⟨rfl,rfl⟩,Int.le_refl _⟩⟩
theorem acd {r:Rul}:∀{n:List Rul},RiseR n->RiseR (insR n r)
 | [],_=>by simp [insR,RiseR]
 | s::n,h=>by
   have h':=List.pairwise_cons.1 h;unfold insR;split
   ·rename_i hs;refine List.pairwise_cons.2 ⟨fun x hx=>?_,acd h'.2⟩;rcases xo hx with e|hx
    ·rw [e];exact hs
    ·exact h'.1 x hx
   ·rename_i hs;split
    ·exact List.pairwise_cons.2 ⟨fun x hx=>h'.1 x hx,h'.2⟩
    ·rename_i hl
     have hrs:lessS r s=true:=by
      cases hq:lessS r s with
      | true=>rfl
      | false=>exact absurd (ou (by simpa using hs) hq) hl
     refine List.pairwise_cons.2 ⟨fun x hx=>?_,h⟩;rcases List.mem_cons.1 hx with e|hx
     ·rw [e];exact hrs
     ·exact ot hrs (h'.1 x hx)
theorem ahu {l n:List Rul} (h:IsNorm l n) (r:Rul):IsNorm (l++[r]) (stepR n r):=by
 unfold stepR;by_cases hc:chk r=true
 ·rw [if_pos hc];refine ⟨acd h.1,fun x hx=>?_,fun x hx hxc=>?_⟩
  ·rcases xo hx with e|hx
   ·rw [e];exact ⟨by simp,hc⟩
   ·have:=h.2.1 x hx;exact ⟨by simp [this.1],this.2⟩
  ·rcases map1 hx with hx|hx
   ·obtain ⟨s,hs,hsx,hsC⟩:=h.2.2 x hx hxc;obtain ⟨t,ht,hts,htC⟩:=(xp (r:=r) n).2 s hs;exact ⟨t,ht,hts.trans hsx,by omega⟩
   ·rw [msg hx];exact (xp n).1
 ·rw [if_neg hc];refine ⟨h.1,fun x hx=>?_,fun x hx hxc=>?_⟩
  ·have:=h.2.1 x hx;exact ⟨by simp [this.1],this.2⟩
  ·rcases map1 hx with hx|hx
   ·exact h.2.2 x hx hxc
   ·rw [msg hx] at hxc;exact absurd hxc hc
theorem th:∀(d l n:List Rul),IsNorm l n->IsNorm (l++d) (d.foldl stepR n)
 | [],l,n,h=>by simpa using h
 | r::d,l,n,h=>by
   have:=th d (l++[r]) (stepR n r) (ahu h r);simpa using this
theorem aka (l:List Rul):IsNorm l (nrm l):=by
 have:=th l [] [] ⟨List.Pairwise.nil,by simp,by simp⟩
 simpa [nrm] using this
theorem IsNorm.eq {l n:List Rul} (h:IsNorm l n):n=nrm l:=h.uniq (aka l) fun _=>Iff.rfl
theorem ark (l:List Rul) (r:Rul):nrm (l++[r])=stepR (nrm l) r:=by simp [nrm]
def Rul.turn (r:Rul):Rul:=⟨r.R,r.L,r.C⟩
theorem abe {r:Rul}:∀(n:List Rul) (k:Nat),k<=n.length->(∀x∈n.take k,lessS x r=true)->(k<n.length->lessS (n.getD k Rul.no) r=false) ->
 insR n r=if k<n.length/\(n.getD k Rul.no).like r then n.set k ⟨(n.getD k Rul.no).L,(n.getD k Rul.no).R,min (n.getD k Rul.no).C r.C⟩ else n.take k++r::n.drop k
 | [],k,hk,_,_=>by
   obtain rfl:k=0:=by simpa using hk
   simp [insR]
 | s::n,0,_,_,h=>by
   have h0:lessS s r=false:=h (by simp)
   unfold insR;simp only [h0,Bool.false_eq_true,if_false,List.length_cons,List.getD_cons_zero,List.set_cons_zero,List.take_zero,List.drop_zero,List.nil_append];by_cases hl:s.like r
   ·rw [if_pos hl,if_pos ⟨by omega,hl⟩]
   ·rw [if_neg hl,if_neg (fun h=>hl h.2)]
 | s::n,k+1,hk,ha,h=>by
   have hs:lessS s r=true:=ha s (by simp)
   have ih:=abe n k (by simpa using hk) (fun x hx=>ha x (by simp [hx])) (fun hk'=>by have:=h (by simpa using hk');simpa using this)
   unfold insR;rw [if_pos hs,ih];simp only [List.length_cons,List.getD_cons_succ,List.set_cons_succ,List.take_succ_cons,List.drop_succ_cons,List.cons_append,Nat.add_lt_add_iff_right];split<;>rfl

end
section
namespace Num

def dig (c:Nat):List Int:=if c<10 then [48+(c:Int)] else dig (c/10)++[48+((c%10:Nat):Int)]
termination_by c
decreasing_by omega
theorem acf {c:Nat} (h:c<10):dig c=[48+(c:Int)]:=by rw [dig,if_pos h]
theorem avo {c:Nat} (h:10<=c):dig c=dig (c/10)++[48+((c%10:Nat):Int)]:=by rw [dig,if_neg (by omega)]
theorem arl {c d:Nat} (h:c≠0) (hd:d<10):dig (10*c+d)=dig c++[48+(d:Int)]:=by
 rw [avo (by omega),show (10*c+d)/10=c from by omega,show (10*c+d)%10=d from by omega]

def val (l:List Int):Nat:=l.foldl (fun a d=>a*10+(d-48).toNat) 0
theorem val_snoc (l:List Int) (d:Int):val (l++[d])=val l*10+(d-48).toNat:=by simp [val,List.foldl_append]
theorem avp (d:Int):val [d]=(d-48).toNat:=by simp [val]
theorem ams {l:List Int} (h:l≠[]) (d:Int):(l++[d]).getD 0 0=l.getD 0 0:=by
 cases l with
 | nil=>exact absurd rfl h
 | cons a l=>rfl
theorem ajc:∀(n:Nat) (b:List Int),b.length=n->b≠[]->(∀d∈b,48<=d/\d<=57)->(b.length=1\/b.getD 0 0≠48)->dig (val b)=b
 | 0,b,hn,h0,_,_=>absurd (List.eq_nil_of_length_eq_zero hn) h0
 | n+1,b,hn,h0,hd,hh=>by
   have hb:b=b.dropLast++[b.getLast h0]:=(List.dropLast_concat_getLast h0).symm;obtain ⟨a,ha⟩:∃a,a=b.dropLast:=⟨_,rfl⟩;obtain ⟨d,hdd⟩:∃d,d=b.getLast h0:=⟨_,rfl⟩;rw [<-ha,<-hdd] at hb;have hdr:=hd d (by rw [hb];simp)
   by_cases hae:a=[]
   ·rw [hb,hae,List.nil_append,avp,acf (by omega)]
    congr 1;omega
   ·have hal:a.length=n:=by have:=congrArg List.length hb;simp at this;omega
    have hh2:a.getD 0 0≠48:=by
     rcases hh with h|h
     ·have:=List.length_pos_iff.2 hae;omega
     ·rw [hb,ams hae] at h;exact h
    have ih:=ajc n a hal hae (fun e he=>hd e (by rw [hb];simp [he])) (.inr hh2)
    have hv:val a≠0:=by
     intro h;rw [h,acf (by omega)] at ih
     apply hh2;rw [<-ih];rfl
    rw [hb,val_snoc,show val a*10+(d-48).toNat=10*val a+(d-48).toNat from by omega,arl hv (by omega),ih]
    congr 2;omega

def read (b:List Int):Option Nat:=if dig (val b)=b/\val b<18446744073709551615 then some (val b) else none
theorem read_of {b:List Int} (h0:b≠[]) (h1:∀d∈b,48<=d/\d<=57) (h2:b.length=1\/b.getD 0 0≠48) (h3:val b<18446744073709551615):read b=some (val b):=by
 unfold read;rw [if_pos ⟨ajc _ b rfl h0 h1 h2,h3⟩]
def lessL:List Int->List Int->Bool
 | _,[]=>false
 | [],_::_=>true
 | a::x,b::y=>decide (a<b)||(a==b&&lessL x y)
end Num
end
section
namespace Spec

def plain (l:List Int):Bool:=l.all (fun c=>decide (c≠9)&&decide (c≠10)&&decide (c≠32))&&!decide (l=[95])
def fit (r:Rul):Bool:=chk r&&plain r.L&&plain r.R
def field (l:List Int):List Int:=if l=[] then [95] else Utf.put l
def write (r:Rul):List Int:=[82,69,80,32]++field r.L++[32]++field r.R++[32]++Num.dig r.C.toNat

open Classical in
noncomputable def signs (zs:List Int):Option (List Int):=if h:∃l,Utf.IsRead zs (some l) then some h.choose else none
noncomputable def side (f:List Int):Option (List Int):=if f=[95] then some [] else signs f

def both (a b c:Int):List Rul:=[⟨[a],[b],c⟩,⟨[b],[a],c⟩]
def keysG (c:Int):Nat->Int->List Int->List Rul
 | _,_,[]=>[]
 | row,p,x::l=>if x=124 then keysG c 0 x l else (if 1<=row/\x≠p then both p x c else [])++keysG c (row+1) x l
def keysOk:Nat->List Int->Bool
 | _,[]=>true
 | row,x::l=>if x=124 then keysOk 0 l else decide (row+1<=12)&&decide (x≠95)&&keysOk (row+1) l
def mapsA (c a:Int) (l:List Int):List Rul:=l.flatMap fun b=>if a≠b then [⟨[a],[b],c⟩] else []
def mapsG (c:Int) (l:List Int):List Rul:=l.flatMap fun a=>mapsA c a l
def mapsOk (l:List Int):Bool:=decide (l.length<=12)&&l.all fun x=>decide (x≠95)

structure Sp where
 e:Int
 base:List Int
 rules:List Rul
def Sp.no (e:Int):Sp:=⟨e,[],[]⟩

def costs:List (List Int)->Option (List Int)
 | []=>some []
 | f::fs=>match Num.read f with
   | none=>none
   | some c=>match costs fs with
     | none=>none
     | some l=>some ((c:Int)::l)
def told (ok:Bool) (rs:List Rul):Sp:=if ok=true/\rs.all fit=true then ⟨0,[],rs⟩ else Sp.no 60
def last (f:List Int) (k:Int->Sp):Sp:=match Num.read f with
 | none=>Sp.no 50
 | some c=>k c
noncomputable def rep (f:List (List Int)):Sp:=match side (f.getD 1 []),side (f.getD 2 []) with
 | some a,some b=>last (f.getD 3 []) fun c=>told true [⟨a,b,c⟩]
 | _,_=>Sp.no 10
noncomputable def key (f:List (List Int)):Sp:=match signs (f.getD 1 []) with
 | some a=>last (f.getD 2 []) fun c=>told (keysOk 0 a) (keysG c 0 0 a)
 | none=>Sp.no 10
noncomputable def map (f:List (List Int)):Sp:=match signs (f.getD 1 []) with
 | some a=>last (f.getD 2 []) fun c=>told (mapsOk a) (mapsG c a)
 | none=>Sp.no 10
def base (f:List (List Int)):Sp:=match costs (f.drop 1) with
 | some l=>⟨0,l,[]⟩
 | none=>Sp.no 50
def wBASE:List Int:=[66,65,83,69]
def wREP:List Int:=[82,69,80]
def wKEY:List Int:=[75,69,89]
def wMAP:List Int:=[77,65,80]
noncomputable def byWord (f:List (List Int)):Sp :=
 if f.getD 0 []=wBASE then (if f.length=5 then base f else Sp.no 71)
 else if f.getD 0 []=wREP then (if f.length=4 then rep f else Sp.no 71)
 else if f.getD 0 []=wKEY then (if f.length=3 then key f else Sp.no 71)
 else if f.getD 0 []=wMAP then (if f.length=3 then map f else Sp.no 71)
 else Sp.no 70
noncomputable def read (l:List Int):Sp:=if Line.bare l=true then Sp.no 0 else byWord (Line.fields l)

theorem fit_parts {r:Rul} (h:fit r=true):chk r=true/\plain r.L=true/\plain r.R=true:=by
 unfold fit at h;simp only [Bool.and_eq_true] at h;exact ⟨h.1.1,h.1.2,h.2⟩
theorem amt {r:Rul} (h:chk r=true):Utf.allGood r.L=true/\Utf.allGood r.R=true/\r.C<18446744073709551615:=by
 unfold chk goodL at h;simp only [Bool.and_eq_true,decide_eq_true_eq] at h;exact ⟨h.1.1.1.1,h.1.1.2.1,h.1.2⟩
end Spec
end
section
namespace File

structure Cst where
 base:List Int
 rules:List Rul
def Cst.zero:Cst:=⟨[0,0,0,0],[]⟩
structure Got where
 c:Cst
 at_:Int
 e:Int

noncomputable def readA (i:Nat) (had:Bool) (base:List Int) (rs:List Rul):List (List Int)->Got
 | []=>⟨⟨base,rs⟩,-1,0⟩
 | l::ls =>
   if (Spec.read l).e≠0 then ⟨Cst.zero,(i:Int),(Spec.read l).e⟩
   else if (Spec.read l).base≠[]/\had=true then ⟨Cst.zero,(i:Int),80⟩
   else if 200<(nrm (rs++(Spec.read l).rules)).length then ⟨Cst.zero,(i:Int),81⟩
   else readA (i+1) (had||!decide ((Spec.read l).base=[])) (if (Spec.read l).base=[] then base else (Spec.read l).base) (nrm (rs++(Spec.read l).rules)) ls
noncomputable def read (b:List Int):Got:=readA 0 false [1,1,1,1] [] (Line.split b)

noncomputable def flat (ls:List (List Int)):List Rul:=ls.flatMap fun l=>(Spec.read l).rules
noncomputable def bs (ls:List (List Int)):List (List Int):=ls.flatMap fun l=>if (Spec.read l).base=[] then [] else [(Spec.read l).base]
theorem flat_app (a b:List (List Int)):flat (a++b)=flat a++flat b:=by simp [flat]
theorem flat_cons (a:List Int) (b:List (List Int)):flat (a::b)=(Spec.read a).rules++flat b:=by simp [flat]
def Ok (had:Bool) (rs:List Rul) (ls:List (List Int)):Prop :=
 (∀l∈ls,(Spec.read l).e=0)/\(if had=true then 1 else 0)+(bs ls).length<=1/\(nrm (rs++flat ls)).length<=200

def check (c:Cst):Bool:=c.base.all (fun x=>decide (x<18446744073709551615))&&decide (c.rules.length<=200)&&c.rules.all Spec.fit&&decide (nrm c.rules=c.rules)
def baseLine (b:List Int):List Int:=Spec.wBASE++b.flatMap fun x=>32::Num.dig x.toNat
def lines (c:Cst):List (List Int):=baseLine c.base::c.rules.map Spec.write
def write (c:Cst):List Int:=(lines c).flatMap fun l=>l++[10]

theorem gw {c:Cst} (h:check c=true):(∀x∈c.base,x<18446744073709551615)/\c.rules.length<=200/\(∀r∈c.rules,Spec.fit r=true)/\nrm c.rules=c.rules:=by
 unfold check at h;simp only [Bool.and_eq_true,decide_eq_true_eq,List.all_eq_true] at h;exact ⟨h.1.1.1,h.1.1.2,h.1.2,h.2⟩
theorem ones:([1,1,1,1]:List Int).length=4/\∀x∈([1,1,1,1]:List Int),0<=x/\x<18446744073709551615:=⟨rfl,by simp⟩
def held (n:List Rul) (r:Rul):Bool:=n.any fun s=>decide (s.like r)&&decide (s.C<=r.C)
end File
end
section
namespace Var

def enc (n:Nat):List Int:=if n<128 then [(n:Int)] else (128+((n%128:Nat):Int))::enc (n/128)
termination_by n
decreasing_by omega
theorem gj {n:Nat} (h:n<128):enc n=[(n:Int)]:=by rw [enc,if_pos h]
theorem js {n:Nat} (h:128<=n):enc n=(128+((n%128:Nat):Int))::enc (n/128):=by rw [enc,if_neg (by omega)]

theorem abk {P:Nat->Prop} (h0:∀n,n<128->P n) (h1:∀n,128<=n->P (n/128)->P n) (n:Nat):P n:=by
 induction n using Nat.strongRecOn with
 | ind n ih =>
   rcases Nat.lt_or_ge n 128 with h|h
   ·exact h0 n h
   ·exact h1 n h (ih _ (by omega))

theorem zq (n:Nat):∀d∈enc n,(Lit.int .u8 d).wf=true:=by
 induction n using abk with
 | h0 n h=>intro d hd;rw [gj h,List.mem_singleton] at hd;subst hd;exact WalkArith.wf_u8 ⟨by omega,by omega⟩
 | h1 n h ih =>
   intro d hd;rw [js h] at hd;rcases List.mem_cons.1 hd with rfl|hd
   ·exact WalkArith.wf_u8 ⟨by omega,by omega⟩
   ·exact ih d hd
theorem enc_ne (n:Nat):enc n≠[]:=by
 rcases Nat.lt_or_ge n 128 with h|h
 ·rw [gj h];simp
 ·rw [js h];simp
theorem kr (n:Nat):0<(enc n).length:=List.length_pos_iff.2 (enc_ne n)
theorem avw (k:Nat):∀n,n<128^(k+1)->(enc n).length<=k+1:=by
 induction k with
 | zero=>intro n h;rw [gj (by simpa using h)];simp
 | succ k ih =>
   intro n h;rcases Nat.lt_or_ge n 128 with h1|h1
   ·rw [gj h1];simp
   ·rw [js h1,List.length_cons];have:n/128<128^(k+1):=by rw [Nat.div_lt_iff_lt_mul (by omega)];rw [Nat.pow_succ] at h;exact h
    have:=ih _ this;omega
theorem ic {n:Nat} (h:n<18446744073709551616):(enc n).length<=10:=avw 9 n (by omega)
def val:List Int->Nat
 | []=>0
 | x::xs=>x.toNat%128+128*val xs
theorem avx (n:Nat):val (enc n)=n:=by
 induction n using abk with
 | h0 n h=>rw [gj h];simp [val];omega
 | h1 n h ih=>rw [js h,val,ih];omega
theorem val_snoc (l:List Int) (x:Int):val (l++[x])=val l+128^l.length*(x.toNat%128):=by
 induction l with
 | nil=>simp [val]
 | cons y l ih =>
   rw [List.cons_append,val,ih,val,List.length_cons,Nat.pow_succ,Nat.mul_add,Nat.add_assoc]
   congr 1
   congr 1
   rw [<-Nat.mul_assoc,Nat.mul_comm 128 (128^l.length)]
theorem val_take {l:List Int} {i:Nat} (h:i<l.length):val (l.take (i+1))=val (l.take i)+128^i*((l.getD i 0).toNat%128):=by
 rw [tsa h,val_snoc,List.length_take,Nat.min_eq_left (by omega)]
 simp [h]

def upTo:Nat->List Int->List Int
 | 0,_=>[]
 | _+1,[]=>[]
 | k+1,x::xs=>if x<128 then [x] else x::upTo k xs
theorem ane:∀(i k:Nat) (b:List Int),(∀x∈b.take i,128<=x)->i<b.length->b.getD i 0<128->i<k->upTo k b=b.take (i+1):=by
 intro i
 induction i with
 | zero =>
   intro k b _ h1 h2 h3
   match k,b,h3 with
   | k+1,x::b,_=>simp at h2;simp [upTo,h2]
   | k+1,[],_=>simp at h1
 | succ i ih =>
   intro k b h0 h1 h2 h3
   match k,b,h3 with
   | k+1,[],_=>simp at h1
   | k+1,x::b,_ =>
     have hx:=h0 x (by simp)
     have:¬x<128:=by omega
     rw [upTo,if_neg this,ih k b (fun y hy=>h0 y (by simp [hy])) (by simpa using h1) (by simpa using h2) (by omega)]
     simp
theorem aru:∀(i k:Nat) (b:List Int),(∀x∈b.take i,128<=x)->(i=b.length\/i=k)->i<=k->upTo k b=b.take i:=by
 intro i
 induction i with
 | zero =>
   intro k b _ h1 _
   match k,b with
   | 0,_=>simp [upTo]
   | k+1,[]=>simp [upTo]
   | k+1,x::b=>simp at h1
 | succ i ih =>
   intro k b h0 h1 h2
   match k,b with
   | 0,_=>omega
   | k+1,[]=>simp [upTo]
   | k+1,x::b =>
     have hx:=h0 x (by simp)
     have:¬x<128:=by omega
     rw [upTo,if_neg this,ih k b (fun y hy=>h0 y (by simp [hy])) (by simpa using h1) (by omega)]
     simp
theorem arv (n:Nat):∀(k:Nat) (r:List Int),(enc n).length<=k->upTo k (enc n++r)=enc n:=by
 induction n using abk with
 | h0 n h =>
   intro k r hk;rw [gj h] at *
   match k,hk with
   | k+1,_=>have:(n:Int)<128:=by omega
            simp [upTo,this]
 | h1 n h ih =>
   intro k r hk;rw [js h] at *
   match k,hk with
   | k+1,hk =>
     rw [List.cons_append,upTo,if_neg (by omega),ih k r (by simpa using hk)]

def num (b:List Int):Nat:=val (upTo 10 b)%18446744073709551616
def take (b:List Int):Option (Nat × List Int):=if enc (num b)=b.take (enc (num b)).length then some (num b,b.drop (enc (num b)).length) else none
theorem anf (b:List Int):num b<18446744073709551616:=Nat.mod_lt _ (by omega)

theorem num_enc {n:Nat} (h:n<18446744073709551616) (r:List Int):num (enc n++r)=n:=by
 rw [num,arv n 10 r (ic h),avx,Nat.mod_eq_of_lt h]
theorem fv {n:Nat} (h:n<18446744073709551616) (r:List Int):take (enc n++r)=some (n,r):=by
 have hn:=num_enc h r;rw [take,hn,if_pos (by simp)]
 simp
theorem dr {b:List Int} {n:Nat} {r:List Int} (h:take b=some (n,r)):b=enc n++r/\n<18446744073709551616:=by
 rw [take] at h;split at h
 ·rename_i h1;simp only [sij,Prod.mk.injEq] at h;obtain ⟨rfl,rfl⟩:=h;refine ⟨?_,anf b⟩
  conv=>lhs;rw [<-List.take_append_drop (enc (num b)).length b]
  rw [<-h1]
 ·cases h
theorem avy {b:List Int} (h:enc (num b)≠b.take (enc (num b)).length):take b=none:=by rw [take,if_neg h]
theorem avz {b:List Int} (h:enc (num b)=b.take (enc (num b)).length):take b=some (num b,b.drop (enc (num b)).length):=by rw [take,if_pos h]

theorem awa {b:List Int} {k:Nat} (h0:∀x∈b.take k,128<=x) (h1:k<b.length) (h2:b.getD k 0<128) (h3:k<=9) :
 num b=val (b.take (k+1))%18446744073709551616:=by
 rw [num,ane k 10 b h0 h1 h2 (by omega)]
end Var
end
section
namespace Img

structure Im where
 sts:List Tri.St
 c:File.Cst
def Im.no:Im:=⟨[],File.Cst.zero⟩

def arcNums (i:Int):Int->List (Int × Int)->List Nat
 | _,[]=>[]
 | p,a::r=>(a.1-p-1).toNat::(a.2-i-1).toNat::arcNums i a.1 r
def headNum (s:Tri.St):Nat:=2*s.arcs.length+(if s.final=true then 1 else 0)
def stNums (i:Int) (s:Tri.St):List Nat:=headNum s::arcNums i (-1) s.arcs
def stsNums:Int->List Tri.St->List Nat
 | _,[]=>[]
 | i,s::r=>stNums i s++stsNums (i+1) r
def sideNums (l:List Int):List Nat:=l.length::l.map Int.toNat
def ruleNums (r:Rul):List Nat:=sideNums r.L++(sideNums r.R++[r.C.toNat])
def rulesNums (l:List Rul):List Nat:=l.flatMap ruleNums
def costNums (c:File.Cst):List Nat:=c.base.map Int.toNat++c.rules.length::rulesNums c.rules
def nums (x:Im):List Nat:=x.sts.length::stsNums 0 x.sts++costNums x.c
def flat (l:List Nat):List Int:=l.flatMap Var.enc
def body (x:Im):List Int:=flat (nums x)
theorem flat_cons (n:Nat) (l:List Nat):flat (n::l)=Var.enc n++flat l:=by simp [flat]
theorem flat_app (a b:List Nat):flat (a++b)=flat a++flat b:=by simp [flat]
theorem xu (n:Nat):flat [n]=Var.enc n:=by simp [flat]
theorem awb (l:List Nat):∀z∈flat l,(Lit.int .u8 z).wf=true:=by
 intro z hz;simp only [flat,List.mem_flatMap] at hz;obtain ⟨n,_,hz⟩:=hz;exact Var.zq n z hz

def take (M:Nat) (b:List Int):Option (Nat × List Int) :=
 match Var.take b with
 | some (n,r)=>if n<=M then some (n,r) else none
 | none=>none
def pArcs (M:Nat) (i:Int):Nat->Int->List Int->Option (List (Int × Int) × List Int)
 | 0,_,b=>some ([],b)
 | k+1,p,b =>
   match take M b with
   | none=>none
   | some (s,r) =>
     match take M r with
     | none=>none
     | some (t,q) =>
       match pArcs M i k (p+1+(s:Int)) q with
       | none=>none
       | some (l,z)=>some ((p+1+(s:Int),i+1+(t:Int))::l,z)
def pState (M:Nat) (i:Int) (b:List Int):Option (Tri.St × List Int) :=
 match take M b with
 | none=>none
 | some (n,r) =>
   match pArcs M i (n/2) (-1) r with
   | none=>none
   | some (l,z)=>some (⟨decide (n%2=1),l⟩,z)
def pStates (M:Nat):Nat->Int->List Int->Option (List Tri.St × List Int)
 | 0,_,b=>some ([],b)
 | k+1,i,b =>
   match pState M i b with
   | none=>none
   | some (s,r) =>
     match pStates M k (i+1) r with
     | none=>none
     | some (l,z)=>some (s::l,z)
def pInts (M:Nat):Nat->List Int->Option (List Int × List Int)
 | 0,b=>some ([],b)
 | k+1,b =>
   match take M b with
   | none=>none
   | some (s,r) =>
     match pInts M k r with
     | none=>none
     | some (l,z)=>some ((s:Int)::l,z)
def pSide (M:Nat) (b:List Int):Option (List Int × List Int) :=
 match take M b with
 | none=>none
 | some (n,r)=>pInts M n r
def pRule (M:Nat) (b:List Int):Option (Rul × List Int) :=
 match pSide M b with
 | none=>none
 | some (L,q) =>
   match pSide M q with
   | none=>none
   | some (R,q2) =>
     match Var.take q2 with
     | none=>none
     | some (c,z)=>some (⟨L,R,(c:Int)⟩,z)
def pRules (M:Nat):Nat->List Int->Option (List Rul × List Int)
 | 0,b=>some ([],b)
 | k+1,b =>
   match pRule M b with
   | none=>none
   | some (x,r) =>
     match pRules M k r with
     | none=>none
     | some (l,z)=>some (x::l,z)
def pFour:Nat->List Int->Option (List Int × List Int)
 | 0,b=>some ([],b)
 | k+1,b =>
   match Var.take b with
   | none=>none
   | some (s,r) =>
     match pFour k r with
     | none=>none
     | some (l,z)=>some ((s:Int)::l,z)
def pCosts (M:Nat) (b:List Int):Option (File.Cst × List Int) :=
 match pFour 4 b with
 | none=>none
 | some (l,r) =>
   match take M r with
   | none=>none
   | some (n,q) =>
     match pRules M n q with
     | none=>none
     | some (rs,z)=>some (⟨l,rs⟩,z)
def pBody (M:Nat) (b:List Int):Option (Im × List Int) :=
 match take M b with
 | none=>none
 | some (n,r) =>
   match pStates M n 0 r with
   | none=>none
   | some (ss,q) =>
     match pCosts M q with
     | none=>none
     | some (c,z)=>some (⟨ss,c⟩,z)

theorem ex {M n:Nat} (h:n<=M) (hn:n<18446744073709551616) (r:List Int):take M (Var.enc n++r)=some (n,r):=by
 rw [take,Var.fv hn];simp [h]

theorem mn {z:Int} (h:Utf.good z=true):0<=z/\z<=1114111:=by
 unfold Utf.good at h;simp at h;omega

theorem acl {M n i:Nat} (hM:1114111<=M) (hn:n<=6001):∀(l:List (Int × Int)) (p:Option Int),Tri.arcsOk n i p l=true->(∀q,p=some q->0<=q)->∀r,
 pArcs M (i:Int) l.length (p.getD (-1)) (flat (arcNums (i:Int) (p.getD (-1)) l)++r)=some (l,r)
 | [],_,_,_,r=>by simp [pArcs,arcNums,flat]
 | a::l,p,h,hp,r=>by
   unfold Tri.arcsOk at h;simp only [Bool.and_eq_true,decide_eq_true_eq] at h;obtain ⟨⟨⟨⟨h1,h2⟩,h3⟩,h4⟩,h5⟩:=h;have hg:=mn h1
   have hlt:p.getD (-1)<a.1:=by
    cases p with
    | none=>simp;omega
    | some q=>simpa [Tri.behind] using h4
   have hp1:-1<=p.getD (-1):=by
    cases p with
    | none=>simp
    | some q=>have:=hp q rfl;simp;omega
   have ih:=acl hM hn l (some a.1) h5 (fun q hq=>by cases hq;exact hg.1) r
   simp only [Option.getD_some] at ih;rw [List.length_cons,pArcs,arcNums,flat_cons,flat_cons,List.append_assoc,List.append_assoc,ex (by omega) (by omega)]
   simp only;rw [ex (by omega) (by omega)]
   simp only;rw [show p.getD (-1)+1+((a.1-p.getD (-1)-1).toNat:Int)=a.1 from by omega,show (i:Int)+1+((a.2-(i:Int)-1).toNat:Int)=a.2 from by omega,ih]

theorem ms {n i:Nat}:∀(l:List (Int × Int)) (p:Option Int),Tri.arcsOk n i p l=true->(∀q,p=some q->0<=q/\q<=1114111)->(l.length:Int)<=1114111-p.getD (-1)
 | [],p,_,hp=>by
   cases p with
   | none=>simp
   | some q=>have:=hp q rfl;simp;omega
 | a::l,p,h,hp=>by
   unfold Tri.arcsOk at h;simp only [Bool.and_eq_true,decide_eq_true_eq] at h;obtain ⟨⟨⟨⟨h1,h2⟩,h3⟩,h4⟩,h5⟩:=h;have hg:=mn h1;have ih:=ms l (some a.1) h5 (fun q hq=>by cases hq;exact hg)
   simp only [Option.getD_some] at ih
   have hlt:p.getD (-1)<a.1:=by
    cases p with
    | none=>simp;omega
    | some q=>simpa [Tri.behind] using h4
   simp only [List.length_cons];omega

def Fits (M:Nat) (l:List Tri.St):Prop:=∀s∈l,2*s.arcs.length+1<=M

theorem akj {M n i:Nat} {s:Tri.St} (hM:1114111<=M) (hn:n<=6001) (h:Tri.arcsOk n i none s.arcs=true) (hf:2*s.arcs.length+1<=M) (r:List Int) :
 pState M (i:Int) (flat (stNums (i:Int) s)++r)=some (s,r):=by
 have hl:=ms _ _ h (by intro q hq;cases hq)
 simp only [Option.getD_none] at hl;have hh:headNum s<=2*s.arcs.length+1:=by unfold headNum;split<;>omega
 rw [pState,stNums,flat_cons,List.append_assoc,ex (by omega) (by omega)]
 simp only;have h1:headNum s/2=s.arcs.length:=by unfold headNum;split<;>omega
 have h2:decide (headNum s%2=1)=s.final:=by unfold headNum;cases s.final<;>simp<;>omega
 have h3:=acl hM hn s.arcs none h (by intro q hq;cases hq) r
 simp only [Option.getD_none] at h3;rw [h1,h3,h2]

theorem vx {M n:Nat} (hM:1114111<=M) (hn:n<=6001):∀(l:List Tri.St) (i:Nat),Tri.checkA n i l=true->Fits M l->∀r,pStates M l.length (i:Int) (flat (stsNums (i:Int) l)++r)=some (l,r)
 | [],i,_,_,r=>by simp [pStates,stsNums,flat]
 | s::l,i,h,hf,r=>by
   unfold Tri.checkA at h;simp only [Bool.and_eq_true] at h;have ih:=vx hM hn l (i+1) h.2 (fun x hx=>hf x (by simp [hx])) r
   rw [Int.natCast_add,Int.natCast_one] at ih;rw [List.length_cons,pStates,stsNums,flat_app,List.append_assoc,akj hM hn h.1 (hf s (by simp))]
   simp only;rw [ih]

theorem acm {M:Nat}:∀(l:List Int),(∀z∈l,0<=z/\z.toNat<=M/\z<18446744073709551616)->∀r,pInts M l.length (flat (l.map Int.toNat)++r)=some (l,r)
 | [],_,r=>by simp [pInts,flat]
 | z::l,h,r=>by
   have hz:=h z (by simp)
   rw [List.length_cons,pInts,List.map_cons,flat_cons,List.append_assoc,ex hz.2.1 (by omega)]
   simp only;rw [acm l (fun x hx=>h x (by simp [hx])) r]
   simp only;rw [show ((z.toNat:Nat):Int)=z from by omega]

theorem ip {l:List Int} (h:Utf.allGood l=true):∀z∈l,0<=z/\z<=1114111:=by
 intro z hz;unfold Utf.allGood at h;exact mn (List.all_eq_true.1 h z hz)

theorem acn {M:Nat} {l:List Int} (hM:1114111<=M) (h:Utf.allGood l=true) (h8:l.length<=8) (r:List Int):pSide M (flat (sideNums l)++r)=some (l,r):=by
 rw [pSide,sideNums,flat_cons,List.append_assoc,ex (by omega) (by omega)]
 simp only;exact acm l (fun z hz=>by have:=ip h z hz;omega) r

theorem qx {r:Rul} (h:Spec.fit r=true):Utf.allGood r.L=true/\Utf.allGood r.R=true/\r.L.length<=8/\r.R.length<=8/\r.C<18446744073709551615:=by
 have h1:=(Spec.fit_parts h).1;have h2:=Spec.amt h1;unfold chk goodL at h1;simp only [Bool.and_eq_true,decide_eq_true_eq] at h1;exact ⟨h2.1,h2.2.1,by omega,by omega,h2.2.2⟩

theorem ang {M:Nat} {x:Rul} (hM:1114111<=M) (h:Spec.fit x=true) (h0:0<=x.C) (r:List Int):pRule M (flat (ruleNums x)++r)=some (x,r):=by
 obtain ⟨h1,h2,h3,h4,h5⟩:=qx h;rw [pRule,ruleNums,flat_app,flat_app,List.append_assoc,List.append_assoc,acn hM h1 h3];simp only;rw [acn hM h2 h4];simp only;rw [xu,Var.fv (by omega)]
 simp only;rw [show ((x.C.toNat:Nat):Int)=x.C from by omega]

theorem zr {M:Nat} (hM:1114111<=M):∀(l:List Rul),(∀x∈l,Spec.fit x=true/\0<=x.C)->∀r,pRules M l.length (flat (rulesNums l)++r)=some (l,r)
 | [],_,r=>by simp [pRules,rulesNums,flat]
 | x::l,h,r=>by
   rw [List.length_cons,pRules,rulesNums,List.flatMap_cons,flat_app,List.append_assoc,ang hM (h x (by simp)).1 (h x (by simp)).2]
   simp only;rw [show l.flatMap ruleNums=rulesNums l from rfl,zr hM l (fun y hy=>h y (by simp [hy])) r]

theorem tx:∀(l:List Int),(∀z∈l,0<=z/\z<18446744073709551616)->∀r,pFour l.length (flat (l.map Int.toNat)++r)=some (l,r)
 | [],_,r=>by simp [pFour,flat]
 | z::l,h,r=>by
   have hz:=h z (by simp)
   rw [List.length_cons,pFour,List.map_cons,flat_cons,List.append_assoc,Var.fv (by omega)]
   simp only;rw [tx l (fun x hx=>h x (by simp [hx])) r]
   simp only;rw [show ((z.toNat:Nat):Int)=z from by omega]

def Plain (c:File.Cst):Prop:=c.base.length=4/\(∀z∈c.base,0<=z/\z<18446744073709551616)/\∀x∈c.rules,0<=x.C

theorem akk {M:Nat} {c:File.Cst} (hM:1114111<=M) (hp:Plain c) (h:File.check c=true) (r:List Int):pCosts M (flat (costNums c)++r)=some (c,r):=by
 obtain ⟨h1,h2,h3,_⟩:=File.gw h;rw [pCosts,costNums,flat_app,List.append_assoc];have h4:=tx c.base hp.2.1 (flat (c.rules.length::rulesNums c.rules)++r);rw [hp.1] at h4;rw [h4];simp only;rw [flat_cons,List.append_assoc,ex (by omega) (by omega)]
 simp only;rw [zr hM c.rules (fun x hx=>⟨h3 x hx,hp.2.2 x hx⟩) r]

def Ok (x:Im):Prop:=Tri.check x.sts=true/\File.check x.c=true
theorem li {l:List Tri.St} (h:Tri.check l=true):Tri.checkA l.length 0 l=true/\1<=l.length/\l.length<=6001:=by
 unfold Tri.check at h;simp only [Bool.and_eq_true,decide_eq_true_eq] at h;exact ⟨h.1.1,h.1.2,h.2⟩
theorem zt {n:Nat}:∀(l:List Tri.St) (i:Nat),Tri.checkA n i l=true->∀s∈l,∃k,Tri.arcsOk n k none s.arcs=true
 | [],_,_,s,hs=>by cases hs
 | t::l,i,h,s,hs=>by
   unfold Tri.checkA at h;simp only [Bool.and_eq_true] at h;rcases List.mem_cons.1 hs with rfl|hs
   ·exact ⟨i,h.1⟩
   ·exact zt l (i+1) h.2 s hs
theorem afc {l:List Tri.St} (h:Tri.check l=true):∀s∈l,s.arcs.length<=1114112:=by
 intro s hs;obtain ⟨k,hk⟩:=zt l 0 (li h).1 s hs;have:=ms _ _ hk (by intro q hq;cases hq)
 simp only [Option.getD_none] at this;omega
theorem afd {M:Nat} {l:List Tri.St} (hM:2228225<=M) (h:Tri.check l=true):Fits M l:=by
 intro s hs;have:=afc h s hs;omega

theorem aco {M:Nat} {x:Im} (hM:1114111<=M) (hf:Fits M x.sts) (hp:Plain x.c) (h:Ok x) (r:List Int):pBody M (body x++r)=some (x,r):=by
 obtain ⟨h1,h2,h3⟩:=li h.1;rw [body,nums,List.cons_append,flat_cons,flat_app,pBody,List.append_assoc,List.append_assoc,ex (by omega) (by omega)]
 simp only;have h4:=vx hM h3 x.sts 0 h1 hf (flat (costNums x.c)++r);rw [Int.natCast_zero] at h4;rw [h4];simp only;rw [akk hM hp h.2 r]

theorem akl {x y:Im} (hx:Ok x) (hy:Ok y) (hpx:Plain x.c) (hpy:Plain y.c) {r:List Int} (h:body x=body y++r):x=y/\r=[]:=by
 have h1:=aco (M:=3000000) (by omega) (afd (by omega) hx.1) hpx hx []
 have h2:=aco (M:=3000000) (by omega) (afd (by omega) hy.1) hpy hy r
 rw [List.append_nil,h,h2] at h1;cases h1;exact ⟨rfl,rfl⟩
theorem arw {x y:Im} (hx:Ok x) (hy:Ok y) (hpx:Plain x.c) (hpy:Plain y.c) (h:body x=body y):x=y :=
 (akl hx hy hpx hpy (r:=[]) (by rw [h,List.append_nil])).1

end Img
end
section
namespace Crc

def pol:Nat:=3988292384
def ones:Nat:=4294967295
def step (s:Nat):Nat:=(s/2) ^^^ (if s%2=1 then pol else 0)
def steps:Nat->Nat->Nat
 | 0,s=>s
 | k+1,s=>steps k (step s)

theorem anh (j k:Nat):∀a,steps (j+k) a=steps k (steps j a):=by
 induction j with
 | zero=>intro a;simp [steps]
 | succ j ih=>intro a;rw [Nat.succ_add];simp only [steps];exact ih _
theorem step_lt {s:Nat} (h:s<4294967296):step s<4294967296:=by
 unfold step;have h1:s/2<2^32:=by omega
 have h2:(if s%2=1 then pol else 0)<2^32:=by split<;>simp [pol]
 exact Nat.xor_lt_two_pow h1 h2
theorem arx (k:Nat):∀s,s<4294967296->steps k s<4294967296:=by
 induction k with
 | zero=>intro s h;exact h
 | succ k ih=>intro s h;exact ih _ (step_lt h)
def num:List Int->Nat
 | []=>0
 | x::xs=>x.toNat+256*num xs
def raw (s:Nat) (l:List Int):Nat:=l.foldl (fun s x=>steps 8 (s ^^^ x.toNat)) s
def sum (l:List Int):Nat:=raw ones l ^^^ ones
def Bytes (l:List Int):Prop:=∀z∈l,0<=z/\z<=255

theorem axs (l:List Int):∀s,s<4294967296->Bytes l->raw s l<4294967296:=by
 induction l with
 | nil=>intro s h _;exact h
 | cons x l ih =>
   intro s h hb;have hx:=hb x (by simp)
   refine ih _ (arx 8 _ ?_) (fun z hz=>hb z (by simp [hz]))
   exact Nat.xor_lt_two_pow (n:=32) h (by omega)
theorem ary (s:Nat) (a:List Int) (x:Int):raw s (a++[x])=steps 8 (raw s a ^^^ x.toNat):=by simp [raw,List.foldl_append]
theorem ani {l:List Int} (h:Bytes l):sum l<4294967296:=Nat.xor_lt_two_pow (n:=32) (axs l _ (by decide) h) (by decide)

def le4 (s:Nat):List Int:=[((s%256:Nat):Int),((s/256%256:Nat):Int),((s/65536%256:Nat):Int),((s/16777216%256:Nat):Int)]
theorem acp (s:Nat):Bytes (le4 s):=by
 intro z hz;simp only [le4,List.mem_cons,List.not_mem_nil,or_false] at hz;omega
def lock (l:List Int):List Int:=l++le4 (sum l)
def opn (l:List Int):Option (List Int):=if 4<=l.length/\lock (l.take (l.length-4))=l then some (l.take (l.length-4)) else none
theorem kz (l:List Int):(lock l).length=l.length+4:=by simp [lock,le4]
theorem akm {l:List Int} (h:Bytes l):Bytes (lock l):=by
 intro z hz;rcases map1 hz with hz|hz
 ·exact h z hz
 ·exact acp _ z hz
theorem xv (l:List Int):opn (lock l)=some l:=by
 have h:(lock l).take ((lock l).length-4)=l:=by rw [kz,Nat.add_sub_cancel];simp [lock]
 rw [opn,h,if_pos ⟨by rw [kz];omega,rfl⟩]
def rest:Nat:=steps 32 ones
end Crc
end
section
namespace Img

def dTake (b:List Int):Nat × List Int × Bool :=
 match take 2000000 b with
 | some (n,r)=>(n,r,true)
 | none=>(0,[],false)
def dCost (b:List Int):Nat × List Int × Bool :=
 match Var.take b with
 | some (n,r)=>(n,r,true)
 | none=>(0,[],false)
def dArcs (i:Int):Nat->Int->List Int->List (Int × Int) × List Int × Bool
 | 0,_,b=>([],b,true)
 | k+1,p,b =>
   if (dTake b).2.2&&(dTake (dTake b).2.1).2.2 then
    ((p+1+((dTake b).1:Int),i+1+((dTake (dTake b).2.1).1:Int))::(dArcs i k (p+1+((dTake b).1:Int)) (dTake (dTake b).2.1).2.1).1,
      (dArcs i k (p+1+((dTake b).1:Int)) (dTake (dTake b).2.1).2.1).2.1,(dArcs i k (p+1+((dTake b).1:Int)) (dTake (dTake b).2.1).2.1).2.2)
   else ([(p+1+((dTake b).1:Int),i+1+((dTake (dTake b).2.1).1:Int))],(dTake (dTake b).2.1).2.1,false)
def dState (i:Int) (b:List Int):Tri.St × List Int × Bool :=
 if (dTake b).2.2 then
  (⟨decide ((dTake b).1%2=1),(dArcs i ((dTake b).1/2) (-1) (dTake b).2.1).1⟩,(dArcs i ((dTake b).1/2) (-1) (dTake b).2.1).2.1,(dArcs i ((dTake b).1/2) (-1) (dTake b).2.1).2.2)
 else (⟨false,[]⟩,[],false)
def dStates:Nat->Int->List Int->List Tri.St × List Int × Bool
 | 0,_,b=>([],b,true)
 | k+1,i,b =>
   if (dState i b).2.2 then ((dState i b).1::(dStates k (i+1) (dState i b).2.1).1,(dStates k (i+1) (dState i b).2.1).2.1,(dStates k (i+1) (dState i b).2.1).2.2)
   else ([(dState i b).1],(dState i b).2.1,false)
def dInts:Nat->List Int->List Int × List Int × Bool
 | 0,b=>([],b,true)
 | k+1,b =>
   if (dTake b).2.2 then (((dTake b).1:Int)::(dInts k (dTake b).2.1).1,(dInts k (dTake b).2.1).2.1,(dInts k (dTake b).2.1).2.2)
   else ([((dTake b).1:Int)],(dTake b).2.1,false)
def dSide (b:List Int):List Int × List Int × Bool :=
 if (dTake b).2.2 then dInts (dTake b).1 (dTake b).2.1 else ([],[],false)
def dRule (b:List Int):Rul × List Int × Bool :=
 (⟨(dSide b).1,(dSide (dSide b).2.1).1,((dCost (dSide (dSide b).2.1).2.1).1:Int)⟩,(dCost (dSide (dSide b).2.1).2.1).2.1,(dSide b).2.2&&(dSide (dSide b).2.1).2.2&&(dCost (dSide (dSide b).2.1).2.1).2.2)
def dRules:Nat->List Int->List Rul × List Int × Bool
 | 0,b=>([],b,true)
 | k+1,b =>
   if (dRule b).2.2 then ((dRule b).1::(dRules k (dRule b).2.1).1,(dRules k (dRule b).2.1).2.1,(dRules k (dRule b).2.1).2.2)
   else ([(dRule b).1],(dRule b).2.1,false)
open Classical in
noncomputable def write (x:Im):Sum (List Int) Int:=if Tri.check x.sts=true then if File.check x.c=true then .inl (Crc.lock (body x)) else .inr 60 else .inr 100
def IsOf (b:List Int) (x:Im):Prop:=Plain x.c/\Ok x/\Crc.lock (body x)=b
theorem arz {a b:List Int} (h:Crc.lock a=Crc.lock b):a=b:=by
 have h1:=Crc.xv a;rw [h,Crc.xv] at h1;cases h1;rfl
theorem asa {b:List Int} {x y:Im} (hx:IsOf b x) (hy:IsOf b y):x=y :=
 arw hx.2.1 hy.2.1 hx.1 hy.1 (arz (hx.2.2.trans hy.2.2.symm))
theorem afe {b:List Int} {x:Im} (h:IsOf b x):Crc.opn b=some (body x):=by rw [<-h.2.2];exact Crc.xv _
open Classical in
noncomputable def read (b:List Int):Sum Im Int:=if h:∃x,IsOf b x then .inl h.choose else if Crc.opn b=none then .inr 140 else .inr 150
theorem read_of {b:List Int} {x:Im} (h:IsOf b x):read b=.inl x:=by
 have h1:∃x,IsOf b x:=⟨x,h⟩;rw [read,dif_pos h1];exact congrArg _ (asa h1.choose_spec h)
theorem asb {b:List Int} (h:Crc.opn b=none):read b=.inr 140:=by
 rw [read,dif_neg,if_pos h];rintro ⟨x,hx⟩;rw [afe hx] at h;cases h
theorem anj {b:List Int} (h:¬Crc.opn b=none) (hx:∀x,¬IsOf b x):read b=.inr 150:=by
 rw [read,dif_neg (fun ⟨x,h'⟩=>hx x h'),if_neg h]
end Img
end
section
namespace Spec

end Spec
end
section

namespace Img
theorem aca {n i:Nat}:∀(l:List (Int × Int)) (p:Option Int),Tri.arcsOk n i p l=true->∀k,k<l.length ->
 (0<=(l.getD k (0,0)).1/\(l.getD k (0,0)).1<=1114111)/\((i:Int)<(l.getD k (0,0)).2/\(l.getD k (0,0)).2<(n:Int))/\(∀m,k=m+1->(l.getD m (0,0)).1<(l.getD k (0,0)).1)
 | [],_,_,k,hk=>by simp at hk
 | a::l,p,h,k,hk=>by
   unfold Tri.arcsOk at h;simp only [Bool.and_eq_true,decide_eq_true_eq] at h;obtain ⟨⟨⟨⟨h1,h2⟩,h3⟩,h4⟩,h5⟩:=h
   cases k with
   | zero=>exact ⟨mn h1,⟨h2,h3⟩,fun m hm=>by omega⟩
   | succ k =>
     have ih:=aca l (some a.1) h5 k (by simpa using hk)
     refine ⟨by simpa using ih.1,by simpa using ih.2.1,fun m hm=>?_⟩
     obtain rfl:m=k:=by omega
     cases m with
     | zero =>
       cases l with
       | nil=>simp at hk
       | cons b l =>
         unfold Tri.arcsOk at h5;simp only [Bool.and_eq_true,decide_eq_true_eq,Tri.behind] at h5;simpa using h5.1.2
     | succ m=>simpa using ih.2.2 m rfl
theorem pm (i:Int):∀(l:List (Int × Int)) (p:Int),(arcNums i p l).length=2*l.length
 | [],p=>rfl
 | a::l,p=>by simp only [arcNums,List.length_cons,pm i l];omega
theorem su {n i:Nat} (hn:n<=6001):∀(l:List (Int × Int)) (p:Option Int),Tri.arcsOk n i p l=true->(∀q,p=some q->0<=q)->∀x∈arcNums (i:Int) (p.getD (-1)) l,x<=1114111
 | [],p,_,_,x,hx=>by simp [arcNums] at hx
 | a::l,p,h,hp,x,hx=>by
   unfold Tri.arcsOk at h;simp only [Bool.and_eq_true,decide_eq_true_eq] at h;obtain ⟨⟨⟨⟨h1,h2⟩,h3⟩,h4⟩,h5⟩:=h;have hg:=mn h1
   have hp1:-1<=p.getD (-1):=by
    cases p with
    | none=>simp
    | some q=>have:=hp q rfl;simp;omega
   rw [arcNums] at hx;rcases List.mem_cons.1 hx with rfl|hx
   ·omega
   ·rcases List.mem_cons.1 hx with rfl|hx
    ·omega
    ·exact su hn l (some a.1) h5 (fun q hq=>by cases hq;exact hg.1) x hx
theorem vc (i:Int):∀(l:List (Int × Int)) (p:Int) (k:Nat),k<l.length ->
 (arcNums i p l).take (2*(k+1))=(arcNums i p l).take (2*k)++[((l.getD k (0,0)).1-(match k with|0=>p|m+1=>(l.getD m (0,0)).1)-1).toNat,((l.getD k (0,0)).2-i-1).toNat]
 | [],p,k,h=>by simp at h
 | a::l,p,0,h=>by simp [arcNums]
 | a::l,p,k+1,h=>by
   have ih:=vc i l a.1 k (by simpa using h)
   rw [arcNums,show 2*(k+1+1)=2*(k+1)+2 from by omega,List.take_succ_cons,List.take_succ_cons,ih,show 2*(k+1)=2*k+2 from by omega,List.take_succ_cons,List.take_succ_cons]
   simp only [List.cons_append,List.getD_cons_succ]
   cases k with
   | zero=>simp
   | succ m=>simp
end Img

namespace Img
theorem ajv:∀(l:List Nat),(∀n∈l,n<18446744073709551616)->(flat l).length<=10*l.length
 | [],_=>by simp [flat]
 | n::l,h=>by
   have h1:=ajv l (fun m hm=>h m (by simp [hm]))
   have h2:=Var.ic (h n (by simp))
   rw [flat_cons,List.length_append,List.length_cons];omega
theorem xi {n:Nat} (hn:n<=6001):∀(l:List Tri.St) (i:Nat),Tri.checkA n i l=true->(∀s∈l,s.arcs.length<=1114112)->(stsNums (i:Int) l).length<=2228225*l.length/\∀x∈stsNums (i:Int) l,x<18446744073709551616
 | [],i,_,_=>by simp [stsNums]
 | s::l,i,h,hf=>by
   unfold Tri.checkA at h;simp only [Bool.and_eq_true] at h;have ih:=xi hn l (i+1) h.2 (fun x hx=>hf x (by simp [hx]))
   rw [Int.natCast_add,Int.natCast_one] at ih;have h1:=hf s (by simp)
   have h2:=su hn s.arcs none h.1 (by intro q hq;cases hq)
   simp only [Option.getD_none] at h2;have hh:headNum s<=2*s.arcs.length+1:=by unfold headNum;split<;>omega
   constructor
   ·rw [stsNums,List.length_append,stNums,List.length_cons,pm,List.length_cons];omega
   ·intro x hx;rw [stsNums,stNums] at hx;rcases map1 hx with hx|hx
    ·rcases List.mem_cons.1 hx with rfl|hx
     ·omega
     ·have:=h2 x hx;omega
    ·exact ih.2 x hx
theorem sx:∀(l:List Rul),(∀x∈l,Spec.fit x=true/\0<=x.C)->(rulesNums l).length<=19*l.length/\∀x∈rulesNums l,x<18446744073709551616
 | [],_=>by simp [rulesNums]
 | r::l,h=>by
   have ih:=sx l (fun x hx=>h x (by simp [hx]))
   obtain ⟨h1,h2,h3,h4,h5⟩:=qx (h r (by simp)).1
   constructor
   ·have e:rulesNums (r::l)=ruleNums r++rulesNums l:=by simp [rulesNums]
    rw [e,List.length_append,ruleNums,List.length_append,List.length_append,sideNums,sideNums,List.length_cons,List.length_cons,List.length_map,List.length_map,List.length_cons,List.length_cons,List.length_nil];omega
   ·intro x hx;have e:rulesNums (r::l)=ruleNums r++rulesNums l:=by simp [rulesNums]
    rw [e,ruleNums,sideNums,sideNums] at hx;simp only [List.mem_append,List.mem_cons,List.mem_map,List.not_mem_nil,or_false] at hx;rcases hx with ((rfl|⟨z,hz,rfl⟩)|(rfl|⟨z,hz,rfl⟩)|rfl)|hx
    ·omega
    ·have:=ip h1 z hz;omega
    ·omega
    ·have:=ip h2 z hz;omega
    ·omega
    ·exact ih.2 x hx
theorem ahn {x:Im} (hp:Plain x.c) (h:Ok x):(body x).length<=140000000000:=by
 obtain ⟨h1,h2,h3⟩:=li h.1;obtain ⟨g1,g2,g3,_⟩:=File.gw h.2;have hs:=xi h3 x.sts 0 h1 (afc h.1);rw [Int.natCast_zero] at hs;have hr:=sx x.c.rules (fun r hr=>⟨g3 r hr,hp.2.2 r hr⟩)
 have hl:(flat (nums x)).length<=10*(nums x).length:=by
  apply ajv;intro n hn;rw [nums,costNums] at hn;simp only [List.mem_append,List.mem_cons,List.mem_map] at hn;rcases hn with (rfl|hn)|⟨z,hz,rfl⟩|rfl|hn
  ·omega
  ·exact hs.2 n hn
  ·have:=hp.2.1 z hz;omega
  ·omega
  ·exact hr.2 n hn
 have hn:(nums x).length<=14000000000:=by
  rw [nums,costNums,List.length_append,List.length_cons,List.length_append,List.length_map,List.length_cons,hp.1];have:=hs.1;have:=hr.1;omega
 rw [body];omega
end Img

end
section
namespace Img

theorem km {x:Int} (h:-4611686018427387904<=x/\x<=4611686018427387904):IntKind.i64.wrap x=x:=by rw [IntKind.wrap_i64];omega
def sg (s:Nat) (p:Int):Int:=IntKind.i64.wrap (IntKind.i64.wrap (IntKind.i64.wrap (s:Int)+p)+1)
theorem avj {v p:Int} (h1:-1<=p) (h2:p<v) (h3:v<=1114112):sg (v-p-1).toNat p=v:=by
 have e:(((v-p-1).toNat:Nat):Int)=v-p-1:=by omega
 unfold sg;rw [e,km (x:=v-p-1) (by omega),km (x:=v-p-1+p) (by omega),km (by omega)]
 omega
theorem avk (s:Nat) (p:Int):(Lit.int .i64 (sg s p)).wf=true:=by
 apply WalkArith.wf_i64;unfold sg;rw [IntKind.wrap_i64];omega

def qArcs (i:Int):Nat->Int->List Int->Option (List (Int × Int) × List Int)
 | 0,_,b=>some ([],b)
 | k+1,p,b =>
   match Var.take b with
   | none=>none
   | some (s,r) =>
     match Var.take r with
     | none=>none
     | some (t,q) =>
       match qArcs i k (sg s p) q with
       | none=>none
       | some (l,z)=>some ((sg s p,sg t i)::l,z)
def qState (i:Int) (b:List Int):Option (Tri.St × List Int) :=
 match Var.take b with
 | none=>none
 | some (n,r) =>
   match qArcs i (n/2) (-1) r with
   | none=>none
   | some (l,z)=>some (⟨decide (n%2=1),l⟩,z)
def qStates:Nat->Int->List Int->Option (List Tri.St × List Int)
 | 0,_,b=>some ([],b)
 | k+1,i,b =>
   match qState i b with
   | none=>none
   | some (s,r) =>
     match qStates k (i+1) r with
     | none=>none
     | some (l,z)=>some (s::l,z)
def qStatesOf (b:List Int):Option (List Tri.St × List Int) :=
 match take 6001 b with
 | none=>none
 | some (n,r)=>qStates n 0 r
def qInts:Nat->List Int->Option (List Int × List Int)
 | 0,b=>some ([],b)
 | k+1,b =>
   match Var.take b with
   | none=>none
   | some (s,r) =>
     match qInts k r with
     | none=>none
     | some (l,z)=>some (IntKind.i64.wrap (s:Int)::l,z)
def qSide (b:List Int):Option (List Int × List Int) :=
 match take 8 b with
 | none=>none
 | some (n,r)=>qInts n r
def qRule (b:List Int):Option (Rul × List Int) :=
 match qSide b with
 | none=>none
 | some (L,q) =>
   match qSide q with
   | none=>none
   | some (R,q2) =>
     match Var.take q2 with
     | none=>none
     | some (c,z)=>some (⟨L,R,(c:Int)⟩,z)
def qRules:Nat->List Int->Option (List Rul × List Int)
 | 0,b=>some ([],b)
 | k+1,b =>
   match qRule b with
   | none=>none
   | some (x,r) =>
     match qRules k r with
     | none=>none
     | some (l,z)=>some (x::l,z)
def qCosts (b:List Int):Option (File.Cst × List Int) :=
 match pFour 4 b with
 | none=>none
 | some (l,r) =>
   match take 200 r with
   | none=>none
   | some (n,q) =>
     match qRules n q with
     | none=>none
     | some (rs,z)=>some (⟨l,rs⟩,z)
def qBody (b:List Int):Option (Im × List Int) :=
 match qStatesOf b with
 | none=>none
 | some (ss,q) =>
   match qCosts q with
   | none=>none
   | some (c,z)=>some (⟨ss,c⟩,z)

theorem adr {n i:Nat} (hn:n<=6001):∀(l:List (Int × Int)) (p:Option Int),Tri.arcsOk n i p l=true->(∀q,p=some q->0<=q)->∀r,
 qArcs (i:Int) l.length (p.getD (-1)) (flat (arcNums (i:Int) (p.getD (-1)) l)++r)=some (l,r)
 | [],_,_,_,r=>by simp [qArcs,arcNums,flat]
 | a::l,p,h,hp,r=>by
   unfold Tri.arcsOk at h;simp only [Bool.and_eq_true,decide_eq_true_eq] at h;obtain ⟨⟨⟨⟨h1,h2⟩,h3⟩,h4⟩,h5⟩:=h;have hg:=mn h1
   have hlt:p.getD (-1)<a.1:=by
    cases p with
    | none=>simp;omega
    | some q=>simpa [Tri.behind] using h4
   have hp1:-1<=p.getD (-1):=by
    cases p with
    | none=>simp
    | some q=>have:=hp q rfl;simp;omega
   have ih:=adr hn l (some a.1) h5 (fun q hq=>by cases hq;exact hg.1) r
   simp only [Option.getD_some] at ih;rw [List.length_cons,qArcs,arcNums,flat_cons,flat_cons,List.append_assoc,List.append_assoc,Var.fv (by omega)]
   simp only;rw [Var.fv (by omega)]
   simp only;rw [avj hp1 hlt (by omega),avj (v:=a.2) (p:=(i:Int)) (by omega) h2 (by omega),ih]
theorem ami {n i:Nat} {s:Tri.St} (hn:n<=6001) (h:Tri.arcsOk n i none s.arcs=true) (r:List Int) :
 qState (i:Int) (flat (stNums (i:Int) s)++r)=some (s,r):=by
 have hl:=ms _ _ h (by intro q hq;cases hq)
 simp only [Option.getD_none] at hl;have hh:headNum s<=2*s.arcs.length+1:=by unfold headNum;split<;>omega
 rw [qState,stNums,flat_cons,List.append_assoc,Var.fv (by omega)]
 simp only;have h1:headNum s/2=s.arcs.length:=by unfold headNum;split<;>omega
 have h2:decide (headNum s%2=1)=s.final:=by unfold headNum;cases s.final<;>simp<;>omega
 have h3:=adr hn s.arcs none h (by intro q hq;cases hq) r
 simp only [Option.getD_none] at h3;rw [h1,h3,h2]
theorem xk {n:Nat} (hn:n<=6001):∀(l:List Tri.St) (i:Nat),Tri.checkA n i l=true->∀r,qStates l.length (i:Int) (flat (stsNums (i:Int) l)++r)=some (l,r)
 | [],i,_,r=>by simp [qStates,stsNums,flat]
 | s::l,i,h,r=>by
   unfold Tri.checkA at h;simp only [Bool.and_eq_true] at h;have ih:=xk hn l (i+1) h.2 r;rw [Int.natCast_add,Int.natCast_one] at ih;rw [List.length_cons,qStates,stsNums,flat_app,List.append_assoc,ami hn h.1];simp only;rw [ih]
theorem ads:∀(l:List Int),(∀z∈l,0<=z/\z<=1114111)->∀r,qInts l.length (flat (l.map Int.toNat)++r)=some (l,r)
 | [],_,r=>by simp [qInts,flat]
 | z::l,h,r=>by
   have hz:=h z (by simp)
   rw [List.length_cons,qInts,List.map_cons,flat_cons,List.append_assoc,Var.fv (by omega)]
   simp only;rw [ads l (fun x hx=>h x (by simp [hx])) r]
   simp only;rw [show ((z.toNat:Nat):Int)=z from by omega,km (by omega)]
theorem adt {l:List Int} (h:Utf.allGood l=true) (h8:l.length<=8) (r:List Int):qSide (flat (sideNums l)++r)=some (l,r):=by
 rw [qSide,sideNums,flat_cons,List.append_assoc,ex (by omega) (by omega)]
 simp only;exact ads l (fun z hz=>by have:=ip h z hz;omega) r
theorem aqt {x:Rul} (h:Spec.fit x=true) (h0:0<=x.C) (r:List Int):qRule (flat (ruleNums x)++r)=some (x,r):=by
 obtain ⟨h1,h2,h3,h4,h5⟩:=qx h;rw [qRule,ruleNums,flat_app,flat_app,List.append_assoc,List.append_assoc,adt h1 h3];simp only;rw [adt h2 h4];simp only;rw [xu,Var.fv (by omega)]
 simp only;rw [show ((x.C.toNat:Nat):Int)=x.C from by omega]
theorem abb:∀(l:List Rul),(∀x∈l,Spec.fit x=true/\0<=x.C)->∀r,qRules l.length (flat (rulesNums l)++r)=some (l,r)
 | [],_,r=>by simp [qRules,rulesNums,flat]
 | x::l,h,r=>by
   rw [List.length_cons,qRules,rulesNums,List.flatMap_cons,flat_app,List.append_assoc,aqt (h x (by simp)).1 (h x (by simp)).2]
   simp only;rw [show l.flatMap ruleNums=rulesNums l from rfl,abb l (fun y hy=>h y (by simp [hy])) r]
theorem amj {c:File.Cst} (hp:Plain c) (h:File.check c=true) (r:List Int):qCosts (flat (costNums c)++r)=some (c,r):=by
 obtain ⟨h1,h2,h3,_⟩:=File.gw h;rw [qCosts,costNums,flat_app,List.append_assoc];have h4:=tx c.base hp.2.1 (flat (c.rules.length::rulesNums c.rules)++r);rw [hp.1] at h4;rw [h4];simp only;rw [flat_cons,List.append_assoc,ex (by omega) (by omega)]
 simp only;rw [abb c.rules (fun x hx=>⟨h3 x hx,hp.2.2 x hx⟩) r]
theorem aqu {x:Im} (hp:Plain x.c) (h:Ok x) (r:List Int):qBody (body x++r)=some (x,r):=by
 obtain ⟨h1,h2,h3⟩:=li h.1;rw [body,nums,List.cons_append,flat_cons,flat_app,qBody,qStatesOf,List.append_assoc,List.append_assoc,ex (by omega) (by omega)]
 simp only;have h4:=xk h3 x.sts 0 h1 (flat (costNums x.c)++r);rw [Int.natCast_zero] at h4;rw [h4];simp only;rw [amj hp h.2 r]
theorem aun {b a:List Int} {x:Im} (h:IsOf b x) (ha:Crc.opn b=some a):qBody a=some (x,[]):=by
 rw [afe h] at ha;cases ha;have h1:=aqu h.1 h.2.1 []
 rwa [List.append_nil] at h1
theorem ik {b a:List Int} (ha:Crc.opn b=some a) (h:∀x r,qBody a=some (x,r)->¬IsOf b x):read b=.inr 150:=by
 apply anj (by rw [ha];simp)
 intro x hx;exact h x [] (aun hx ha) hx

theorem aek {b:List Int} (h:Var.take (b.take 10)=none):Var.take b=none:=by
 cases h1:Var.take b with
 | none=>rfl
 | some p =>
   obtain ⟨n,r⟩:=p;obtain ⟨h2,h3⟩:=Var.dr h1;have h10:=Var.ic h3;rw [h2,List.take_append,tol h10,Var.fv h3] at h;cases h
theorem ael {b r:List Int} {n:Nat} (h:Var.take (b.take 10)=some (n,r)):Var.take b=some (n,b.drop (Var.enc n).length)/\n<18446744073709551616/\(Var.enc n).length<=b.length:=by
 obtain ⟨h2,h3⟩:=Var.dr h
 have e:b=Var.enc n++(r++b.drop 10):=by
  conv=>lhs;rw [<-List.take_append_drop 10 b,h2,List.append_assoc]
 have h4:Var.take b=some (n,r++b.drop 10):=by
  rw [e]
  conv=>lhs;rw [Var.fv h3]
  rw [<-e]
 refine ⟨?_,h3,by rw [e,List.length_append];omega⟩
 rw [h4]
 congr 2
 conv=>rhs;rw [e]
 simp
theorem take_less {b r:List Int} {n:Nat} (h:Var.take b=some (n,r)):r.length<b.length:=by
 obtain ⟨h2,_⟩:=Var.dr h;have hp:=Var.kr n;rw [h2,List.length_append];omega

end Img
end
end Go.Proofs.YtkiamgcpcneggaaGreat
