import Derived.Test.YtkiamgcpcneggaaGreatPackA
import Derived.WalkKit
set_option linter.all false
/- Used by the law. -/
namespace Go.Proofs.YtkiamgcpcneggaaGreat

structure Rul where
 L:List Int
 R:List Int
 C:Int
theorem Rul.ext' {a b:Rul} (h1:a.L=b.L) (h2:a.R=b.R) (h3:a.C=b.C):a=b:=by cases a;cases b;simp_all
instance:DecidableEq Rul:=fun a b=>decidable_of_iff (a.L=b.L∧a.R=b.R∧a.C=b.C) ⟨fun h=>Rul.ext' h.1 h.2.1 h.2.2,fun h=>h ▸ ⟨rfl,rfl,rfl⟩⟩
def Rul.no:Rul:=⟨[],[],0⟩
def Rul.like (a b:Rul):Prop:=a.L=b.L∧a.R=b.R
theorem Rul.like.symm {a b:Rul} (h:a.like b):b.like a:=⟨h.1.symm,h.2.symm⟩
theorem Rul.like.trans {a b c:Rul} (h:a.like b) (h':b.like c):a.like c:=⟨h.1.trans h'.1,h.2.trans h'.2⟩
instance (a b:Rul):Decidable (a.like b):=inferInstanceAs (Decidable (_∧_))

def goodL (l:List Int):Bool:=l.all Utf.good && decide (l.length≤8)
def chk (r:Rul):Bool:=goodL r.L && goodL r.R && decide (r.C < 18446744073709551615) && !decide (r.L=r.R)

def lessS (a b:Rul):Bool:=if a.L=b.L then lessL a.R b.R else lessL a.L b.L
def lessR (a b:Rul):Bool:=if a.L=b.L then (if a.R=b.R then decide (a.C < b.C) else lessL a.R b.R) else lessL a.L b.L

theorem lessS_irrefl (a:Rul):lessS a a=false:=by simp [lessS,less_irrefl]
theorem lessS_like {a b:Rul} (h:a.like b):lessS a b=false:=by simp [lessS,h.1,h.2,less_irrefl]
theorem lessS_congr {a a' b b':Rul} (h:a.like a') (h':b.like b'):lessS a b=lessS a' b':=by simp [lessS,h.1,h.2,h'.1,h'.2]
theorem lessS_trans {a b c:Rul} (h1:lessS a b=true) (h2:lessS b c=true):lessS a c=true:=by
 unfold lessS at *
 by_cases e1:a.L=b.L
 ·by_cases e2:b.L=c.L
  ·rw [if_pos e1] at h1;rw [if_pos e2] at h2;rw [if_pos (e1.trans e2)];exact less_trans h1 h2
  ·rw [if_neg e2] at h2;rw [if_neg (by rw [e1];exact e2),e1];exact h2
 ·by_cases e2:b.L=c.L
  ·rw [if_neg e1] at h1;rw [if_neg (by rw [← e2];exact e1),← e2];exact h1
  ·rw [if_neg e1] at h1;rw [if_neg e2] at h2
   have h3:=less_trans h1 h2
   rw [if_neg (by intro e;rw [e,less_irrefl] at h3;cases h3)];exact h3
theorem lessS_asymm {a b:Rul} (h:lessS a b=true):lessS b a=false:=by
 cases h':lessS b a with
 | false=>rfl
 | true=>have:=lessS_trans h h';rw [lessS_irrefl] at this;cases this
theorem lessS_total {a b:Rul} (h1:lessS a b=false) (h2:lessS b a=false):a.like b:=by
 unfold lessS at *
 by_cases e:a.L=b.L
 ·rw [if_pos e] at h1;rw [if_pos e.symm] at h2;exact ⟨e,less_total h1 h2⟩
 ·rw [if_neg e] at h1;rw [if_neg (fun h=>e h.symm)] at h2;exact absurd (less_total h1 h2) e
set_option maxRecDepth 100000 in
theorem lessR_def (a b:Rul):lessR a b=(lessS a b || (decide (a.like b) && decide (a.C < b.C))):=by
 unfold lessR lessS Rul.like
 by_cases e1:a.L=b.L
 ·by_cases e2:a.R=b.R
  ·simp [e1,e2,less_irrefl]
  ·simp [e1,e2]
 ·simp [e1]
theorem lessR_irrefl (a:Rul):lessR a a=false:=by simp [lessR]
set_option maxRecDepth 100000 in
theorem lessR_trans {a b c:Rul} (h1:lessR a b=true) (h2:lessR b c=true):lessR a c=true:=by
 rw [lessR_def] at *
 simp only [Bool.or_eq_true,Bool.and_eq_true,decide_eq_true_eq] at *
 rcases h1 with h1|⟨h1,h1'⟩
 ·rcases h2 with h2|⟨h2,h2'⟩
  ·exact .inl (lessS_trans h1 h2)
  ·left;rw [← lessS_congr (a:=a) ⟨rfl,rfl⟩ h2];exact h1
 ·rcases h2 with h2|⟨h2,h2'⟩
  ·left;rw [lessS_congr h1 (b':=c) ⟨rfl,rfl⟩];exact h2
  ·right;exact ⟨h1.trans h2,by omega⟩
set_option maxRecDepth 100000 in
theorem lessR_total {a b:Rul} (h1:lessR a b=false) (h2:lessR b a=false):a=b:=by
 rw [lessR_def] at *
 simp only [Bool.or_eq_false_iff,Bool.and_eq_false_iff,decide_eq_false_iff_not] at *
 have hl:=lessS_total h1.1 h2.1
 refine Rul.ext' hl.1 hl.2 ?_
 rcases h1.2 with h|h
 ·exact absurd hl h
 ·rcases h2.2 with h' | h'
  ·exact absurd hl.symm h'
  ·omega
/-! ### rules in order -/
def RiseR (n:List Rul):Prop:=n.Pairwise fun a b=>lessS a b=true
def IsNorm (l n:List Rul):Prop :=
 RiseR n∧(∀ r ∈ n,r ∈ l∧chk r=true)∧∀ r ∈ l,chk r=true→∃ s ∈ n,s.like r∧s.C≤r.C

theorem RiseR.one {n:List Rul} (h:RiseR n) {a b:Rul} (ha:a ∈ n) (hb:b ∈ n) (hab:a.like b):a=b:=by
 obtain ⟨i,hi,rfl⟩:=List.mem_iff_getElem.1 ha
 obtain ⟨j,hj,rfl⟩:=List.mem_iff_getElem.1 hb
 rcases Nat.lt_trichotomy i j with h1|h1|h1
 ·have:=List.pairwise_iff_getElem.1 h i j hi hj h1
  rw [lessS_like hab] at this;cases this
 ·subst h1;rfl
 ·have:=List.pairwise_iff_getElem.1 h j i hj hi h1
  rw [lessS_like hab.symm] at this;cases this
theorem riseR_unique:∀ {l l':List Rul},RiseR l→RiseR l'→(∀ x,x ∈ l↔x ∈ l')→l=l'
 | [],[],_,_,_=>rfl
 | [],y :: ys,_,_,h=>by have:=(h y).2 (by simp);simp at this
 | x :: xs,[],_,_,h=>by have:=(h x).1 (by simp);simp at this
 | x :: xs,y :: ys,h1,h2,h=>by
   have a1:=List.pairwise_cons.1 h1
   have a2:=List.pairwise_cons.1 h2
   have e:x=y:=by
    rcases List.mem_cons.1 ((h x).1 (by simp)) with e|hx
    ·exact e
    ·rcases List.mem_cons.1 ((h y).2 (by simp)) with e|hy
     ·exact e.symm
     ·have:=lessS_asymm (a1.1 y hy)
      rw [a2.1 x hx] at this;cases this
   subst e
   have:xs=ys:=riseR_unique a1.2 a2.2 fun z=>by
    constructor
    ·intro hz
     rcases List.mem_cons.1 ((h z).1 (by simp [hz])) with e|h'
     ·subst e;have:=a1.1 z hz;rw [lessS_irrefl] at this;cases this
     ·exact h'
    ·intro hz
     rcases List.mem_cons.1 ((h z).2 (by simp [hz])) with e|h'
     ·subst e;have:=a2.1 z hz;rw [lessS_irrefl] at this;cases this
     ·exact h'
   rw [this]
theorem IsNorm.sub {l l' n n':List Rul} (h:IsNorm l n) (h':IsNorm l' n') (hl:∀ r ∈ l,chk r=true→∃ s ∈ l',chk s=true∧s.like r∧s.C≤r.C) (hl':∀ r ∈ l',chk r=true→∃ s ∈ l,chk s=true∧s.like r∧s.C≤r.C):∀ r ∈ n,r ∈ n':=by
 intro r hr
 obtain ⟨hrl,hrc⟩:=h.2.1 r hr
 obtain ⟨s,hs,hsc,hsr,hsC⟩:=hl r hrl hrc
 obtain ⟨t,ht,hts,htC⟩:=h'.2.2 s hs hsc
 obtain ⟨htl,htc⟩:=h'.2.1 t ht
 obtain ⟨u,hu,huc,hut,huC⟩:=hl' t htl htc
 obtain ⟨v,hv,hvu,hvC⟩:=h.2.2 u hu huc
 have e:=h.1.one hv hr (((hvu.trans hut).trans hts).trans hsr)
 subst e
 have:t=v:=Rul.ext' (hts.trans hsr).1 (hts.trans hsr).2 (by omega)
 rw [← this];exact ht
theorem IsNorm.same {l l' n n':List Rul} (h:IsNorm l n) (h':IsNorm l' n') (hl:∀ r ∈ l,chk r=true→∃ s ∈ l',chk s=true∧s.like r∧s.C≤r.C) (hl':∀ r ∈ l',chk r=true→∃ s ∈ l,chk s=true∧s.like r∧s.C≤r.C):n=n' :=
 riseR_unique h.1 h'.1 fun r=>⟨h.sub h' hl hl' r,h'.sub h hl' hl r⟩
theorem IsNorm.uniq {l l' n n':List Rul} (h:IsNorm l n) (h':IsNorm l' n') (hl:∀ r,r ∈ l↔r ∈ l'):n=n' :=
 h.same h' (fun r hr hc=>⟨r,(hl r).1 hr,hc,⟨rfl,rfl⟩,Int.le_refl _⟩) (fun r hr hc=>⟨r,(hl r).2 hr,hc,⟨rfl,rfl⟩,Int.le_refl _⟩)

def insR:List Rul→Rul→List Rul
 | [],r=>[r]
 | s :: n,r=>if lessS s r=true then s :: insR n r else if s.like r then ⟨s.L,s.R,min s.C r.C⟩ :: n else r :: s :: n
def stepR (o:List Rul) (r:Rul):List Rul:=if chk r=true then insR o r else o
def nrm (l:List Rul):List Rul:=l.foldl stepR []

theorem mem_insR {r x:Rul}:∀ {n:List Rul},x ∈ insR n r→x=r∨x ∈ n
 | [],h=>by simp [insR] at h;exact .inl h
 | s :: n,h=>by
   unfold insR at h
   split at h
   ·rcases List.mem_cons.1 h with e|h
    ·right;simp [e]
    ·rcases mem_insR h with e|h
     ·exact .inl e
     ·right;simp [h]
   ·split at h
    ·rename_i hl
     rcases List.mem_cons.1 h with e|h
     ·by_cases hc:s.C≤r.C
      ·right;rw [e,Int.min_eq_left hc];simp
      ·left;rw [e,Int.min_eq_right (by omega)];exact Rul.ext' hl.1 hl.2 rfl
     ·right;simp [h]
    ·rcases List.mem_cons.1 h with e|h
     ·exact .inl e
     ·right;exact h
theorem insR_has {r:Rul}:∀ (n:List Rul),(∃ s ∈ insR n r,s.like r∧s.C≤r.C)∧∀ x ∈ n,∃ s ∈ insR n r,s.like x∧s.C≤x.C
 | []=>⟨⟨r,by simp [insR],⟨rfl,rfl⟩,Int.le_refl _⟩,by simp⟩
 | s :: n=>by
   have ih:=insR_has (r:=r) n
   unfold insR
   split
   ·refine ⟨?_,fun x hx=>?_⟩
    ·obtain ⟨t,ht,h⟩:=ih.1
     exact ⟨t,by simp [ht],h⟩
    ·rcases List.mem_cons.1 hx with e|hx
     ·exact ⟨s,by simp,by rw [e];exact ⟨rfl,rfl⟩,by rw [e];exact Int.le_refl _⟩
     ·obtain ⟨t,ht,h⟩:=ih.2 x hx
      exact ⟨t,by simp [ht],h⟩
   ·split
    ·rename_i hl
     refine ⟨⟨⟨s.L,s.R,min s.C r.C⟩,by simp,hl,Int.min_le_right _ _⟩,fun x hx=>?_⟩
     rcases List.mem_cons.1 hx with e|hx
     ·exact ⟨⟨s.L,s.R,min s.C r.C⟩,by simp,by rw [e];exact ⟨rfl,rfl⟩,by rw [e];exact Int.min_le_left _ _⟩
     ·exact ⟨x,by simp [hx],⟨rfl,rfl⟩,Int.le_refl _⟩
    ·refine ⟨⟨r,by simp,⟨rfl,rfl⟩,Int.le_refl _⟩,fun x hx=>⟨x,by simp at hx ⊢;exact .inr hx,⟨rfl,rfl⟩,Int.le_refl _⟩⟩
theorem rise_insR {r:Rul}:∀ {n:List Rul},RiseR n→RiseR (insR n r)
 | [],_=>by simp [insR,RiseR]
 | s :: n,h=>by
   have h':=List.pairwise_cons.1 h
   unfold insR
   split
   ·rename_i hs
    refine List.pairwise_cons.2 ⟨fun x hx=>?_,rise_insR h'.2⟩
    rcases mem_insR hx with e|hx
    ·rw [e];exact hs
    ·exact h'.1 x hx
   ·rename_i hs
    split
    ·exact List.pairwise_cons.2 ⟨fun x hx=>h'.1 x hx,h'.2⟩
    ·rename_i hl
     have hrs:lessS r s=true:=by
      cases hq:lessS r s with
      | true=>rfl
      | false=>exact absurd (lessS_total (by simpa using hs) hq) hl
     refine List.pairwise_cons.2 ⟨fun x hx=>?_,h⟩
     rcases List.mem_cons.1 hx with e|hx
     ·rw [e];exact hrs
     ·exact lessS_trans hrs (h'.1 x hx)
theorem isNorm_step {l n:List Rul} (h:IsNorm l n) (r:Rul):IsNorm (l ++ [r]) (stepR n r):=by
 unfold stepR
 by_cases hc:chk r=true
 ·rw [if_pos hc]
  refine ⟨rise_insR h.1,fun x hx=>?_,fun x hx hxc=>?_⟩
  ·rcases mem_insR hx with e|hx
   ·rw [e];exact ⟨by simp,hc⟩
   ·have:=h.2.1 x hx;exact ⟨by simp [this.1],this.2⟩
  ·rcases List.mem_append.1 hx with hx|hx
   ·obtain ⟨s,hs,hsx,hsC⟩:=h.2.2 x hx hxc
    obtain ⟨t,ht,hts,htC⟩:=(insR_has (r:=r) n).2 s hs
    exact ⟨t,ht,hts.trans hsx,by omega⟩
   ·rw [List.mem_singleton.1 hx];exact (insR_has n).1
 ·rw [if_neg hc]
  refine ⟨h.1,fun x hx=>?_,fun x hx hxc=>?_⟩
  ·have:=h.2.1 x hx;exact ⟨by simp [this.1],this.2⟩
  ·rcases List.mem_append.1 hx with hx|hx
   ·exact h.2.2 x hx hxc
   ·rw [List.mem_singleton.1 hx] at hxc;exact absurd hxc hc
theorem isNorm_foldl:∀ (d l n:List Rul),IsNorm l n→IsNorm (l ++ d) (d.foldl stepR n)
 | [],l,n,h=>by simpa using h
 | r :: d,l,n,h=>by
   have:=isNorm_foldl d (l ++ [r]) (stepR n r) (isNorm_step h r)
   simpa using this
theorem isNorm_nrm (l:List Rul):IsNorm l (nrm l):=by
 have:=isNorm_foldl l [] [] ⟨List.Pairwise.nil,by simp,by simp⟩
 simpa [nrm] using this
theorem IsNorm.eq {l n:List Rul} (h:IsNorm l n):n=nrm l:=h.uniq (isNorm_nrm l) fun _=>Iff.rfl
theorem nrm_snoc (l:List Rul) (r:Rul):nrm (l ++ [r])=stepR (nrm l) r:=by simp [nrm]
/-! ### sides turned -/
def Rul.turn (r:Rul):Rul:=⟨r.R,r.L,r.C⟩
/-! ### the place of one rule -/
theorem insR_at {r:Rul}:∀ (n:List Rul) (k:Nat),k≤n.length→(∀ x ∈ n.take k,lessS x r=true)→(k < n.length→lessS (n.getD k Rul.no) r=false) →
 insR n r=if k < n.length∧(n.getD k Rul.no).like r then n.set k ⟨(n.getD k Rul.no).L,(n.getD k Rul.no).R,min (n.getD k Rul.no).C r.C⟩ else n.take k ++ r :: n.drop k
 | [],k,hk,_,_=>by
   obtain rfl:k=0:=by simpa using hk
   simp [insR]
 | s :: n,0,_,_,h=>by
   have h0:lessS s r=false:=h (by simp)
   unfold insR
   simp only [h0,Bool.false_eq_true,if_false,List.length_cons,List.getD_cons_zero,List.set_cons_zero,List.take_zero,List.drop_zero,List.nil_append]
   by_cases hl:s.like r
   ·rw [if_pos hl,if_pos ⟨by omega,hl⟩]
   ·rw [if_neg hl,if_neg (fun h=>hl h.2)]
 | s :: n,k + 1,hk,ha,h=>by
   have hs:lessS s r=true:=ha s (by simp)
   have ih:=insR_at n k (by simpa using hk) (fun x hx=>ha x (by simp [hx])) (fun hk'=>by have:=h (by simpa using hk');simpa using this)
   unfold insR
   rw [if_pos hs,ih]
   simp only [List.length_cons,List.getD_cons_succ,List.set_cons_succ,List.take_succ_cons,List.drop_succ_cons,List.cons_append,Nat.add_lt_add_iff_right]
   split<;>rfl

end Go.Proofs.YtkiamgcpcneggaaGreat

/- Used by the law. -/
namespace Go.Proofs.YtkiamgcpcneggaaGreat
namespace Num

def dig (c:Nat):List Int:=if c < 10 then [48 + (c:Int)] else dig (c / 10) ++ [48 + ((c % 10:Nat):Int)]
termination_by c
decreasing_by omega
def val (l:List Int):Nat:=l.foldl (fun a d=>a * 10 + (d - 48).toNat) 0
def read (b:List Int):Option Nat:=if dig (val b)=b∧val b < 18446744073709551615 then some (val b) else none
/-! ### how long -/
/-! ### which stands ahead -/
def lessL:List Int→List Int→Bool
 | _,[]=>false
 | [],_ :: _=>true
 | a :: x,b :: y=>decide (a < b) || (a == b && lessL x y)
/-! ### the first digits -/
end Num
end Go.Proofs.YtkiamgcpcneggaaGreat

/- Used by the law. -/
namespace Go.Proofs.YtkiamgcpcneggaaGreat
namespace Spec

def plain (l:List Int):Bool:=l.all (fun c=>decide (c≠9) && decide (c≠10) && decide (c≠32)) && !decide (l=[95])
def fit (r:Rul):Bool:=chk r && plain r.L && plain r.R
def field (l:List Int):List Int:=if l=[] then [95] else Utf.put l
def write (r:Rul):List Int:=[82,69,80,32] ++ field r.L ++ [32] ++ field r.R ++ [32] ++ Num.dig r.C.toNat

open Classical in
noncomputable def signs (zs:List Int):Option (List Int):=if h:∃ l,Utf.IsRead zs (some l) then some h.choose else none
noncomputable def side (f:List Int):Option (List Int):=if f=[95] then some [] else signs f

def both (a b c:Int):List Rul:=[⟨[a],[b],c⟩,⟨[b],[a],c⟩]
def keysG (c:Int):Nat→Int→List Int→List Rul
 | _,_,[]=>[]
 | row,p,x :: l=>if x=124 then keysG c 0 x l else (if 1≤row∧x≠p then both p x c else []) ++ keysG c (row + 1) x l
def keysOk:Nat→List Int→Bool
 | _,[]=>true
 | row,x :: l=>if x=124 then keysOk 0 l else decide (row + 1≤12) && decide (x≠95) && keysOk (row + 1) l
def mapsA (c a:Int) (l:List Int):List Rul:=l.flatMap fun b=>if a≠b then [⟨[a],[b],c⟩] else []
def mapsG (c:Int) (l:List Int):List Rul:=l.flatMap fun a=>mapsA c a l
def mapsOk (l:List Int):Bool:=decide (l.length≤12) && l.all fun x=>decide (x≠95)

structure Sp where
 e:Int
 base:List Int
 rules:List Rul
def Sp.no (e:Int):Sp:=⟨e,[],[]⟩

def costs:List (List Int)→Option (List Int)
 | []=>some []
 | f :: fs=>match Num.read f with
   | none=>none
   | some c=>match costs fs with
     | none=>none
     | some l=>some ((c:Int) :: l)
def told (ok:Bool) (rs:List Rul):Sp:=if ok=true∧rs.all fit=true then ⟨0,[],rs⟩ else Sp.no 60
def last (f:List Int) (k:Int→Sp):Sp:=match Num.read f with
 | none=>Sp.no 50
 | some c=>k c
noncomputable def rep (f:List (List Int)):Sp:=match side (f.getD 1 []),side (f.getD 2 []) with
 | some a,some b=>last (f.getD 3 []) fun c=>told true [⟨a,b,c⟩]
 | _,_=>Sp.no 10
noncomputable def key (f:List (List Int)):Sp:=match signs (f.getD 1 []) with
 | some a=>last (f.getD 2 []) fun c=>told (keysOk 0 a) (keysG c 0 0 a)
 | none=>Sp.no 10
noncomputable def map (f:List (List Int)):Sp:=match signs (f.getD 1 []) with
 | some a=>last (f.getD 2 []) fun c=>told (mapsOk a) (mapsG c a)
 | none=>Sp.no 10
def base (f:List (List Int)):Sp:=match costs (f.drop 1) with
 | some l=>⟨0,l,[]⟩
 | none=>Sp.no 50
def wBASE:List Int:=[66,65,83,69]
def wREP:List Int:=[82,69,80]
def wKEY:List Int:=[75,69,89]
def wMAP:List Int:=[77,65,80]
noncomputable def byWord (f:List (List Int)):Sp :=
 if f.getD 0 []=wBASE then (if f.length=5 then base f else Sp.no 71)
 else if f.getD 0 []=wREP then (if f.length=4 then rep f else Sp.no 71)
 else if f.getD 0 []=wKEY then (if f.length=3 then key f else Sp.no 71)
 else if f.getD 0 []=wMAP then (if f.length=3 then map f else Sp.no 71)
 else Sp.no 70
noncomputable def read (l:List Int):Sp:=if Line.bare l=true then Sp.no 0 else byWord (Line.fields l)

/-! ### what is told fits -/
/-! ### a rule is read as it was written -/
theorem fit_parts {r:Rul} (h:fit r=true):chk r=true∧plain r.L=true∧plain r.R=true:=by
 unfold fit at h
 simp only [Bool.and_eq_true] at h
 exact ⟨h.1.1,h.1.2,h.2⟩
end Spec
end Go.Proofs.YtkiamgcpcneggaaGreat

/- Used by the law. -/
namespace Go.Proofs.YtkiamgcpcneggaaGreat
namespace File

structure Cst where
 base:List Int
 rules:List Rul
def Cst.zero:Cst:=⟨[0,0,0,0],[]⟩
structure Got where
 c:Cst
 at_:Int
 e:Int

noncomputable def readA (i:Nat) (had:Bool) (base:List Int) (rs:List Rul):List (List Int)→Got
 | []=>⟨⟨base,rs⟩,-1,0⟩
 | l :: ls =>
   if (Spec.read l).e≠0 then ⟨Cst.zero,(i:Int),(Spec.read l).e⟩
   else if (Spec.read l).base≠[]∧had=true then ⟨Cst.zero,(i:Int),80⟩
   else if 200 < (nrm (rs ++ (Spec.read l).rules)).length then ⟨Cst.zero,(i:Int),81⟩
   else readA (i + 1) (had || !decide ((Spec.read l).base=[])) (if (Spec.read l).base=[] then base else (Spec.read l).base) (nrm (rs ++ (Spec.read l).rules)) ls
noncomputable def read (b:List Int):Got:=readA 0 false [1,1,1,1] [] (Line.split b)

noncomputable def flat (ls:List (List Int)):List Rul:=ls.flatMap fun l=>(Spec.read l).rules
noncomputable def bs (ls:List (List Int)):List (List Int):=ls.flatMap fun l=>if (Spec.read l).base=[] then [] else [(Spec.read l).base]
/-! ### lengths of what is in order -/
/-! ### what is read, at once -/
def Ok (had:Bool) (rs:List Rul) (ls:List (List Int)):Prop :=
 (∀ l ∈ ls,(Spec.read l).e=0)∧(if had=true then 1 else 0) + (bs ls).length≤1∧(nrm (rs ++ flat ls)).length≤200

/-! ### costs that may be, and their file -/
def check (c:Cst):Bool:=c.base.all (fun x=>decide (x < 18446744073709551615)) && decide (c.rules.length≤200) && c.rules.all Spec.fit && decide (nrm c.rules=c.rules)
def baseLine (b:List Int):List Int:=Spec.wBASE ++ b.flatMap fun x=>32 :: Num.dig x.toNat
def lines (c:Cst):List (List Int):=baseLine c.base :: c.rules.map Spec.write
def write (c:Cst):List Int:=(lines c).flatMap fun l=>l ++ [10]

set_option maxRecDepth 100000 in
theorem check_parts {c:Cst} (h:check c=true):(∀ x ∈ c.base,x < 18446744073709551615)∧c.rules.length≤200∧(∀ r ∈ c.rules,Spec.fit r=true)∧nrm c.rules=c.rules:=by
 unfold check at h
 simp only [Bool.and_eq_true,decide_eq_true_eq,List.all_eq_true] at h
 exact ⟨h.1.1.1,h.1.1.2,h.1.2,h.2⟩
/-! ### what is read may be -/
theorem ones:([1,1,1,1]:List Int).length=4∧∀ x ∈ ([1,1,1,1]:List Int),0≤x∧x < 18446744073709551615:=⟨rfl,by simp⟩
/-! ### rules that say nothing new -/
def held (n:List Rul) (r:Rul):Bool:=n.any fun s=>decide (s.like r) && decide (s.C≤r.C)
end File
end Go.Proofs.YtkiamgcpcneggaaGreat

/- Used by the law. -/
namespace Go.Proofs.YtkiamgcpcneggaaGreat
namespace Var

def enc (n:Nat):List Int:=if n < 128 then [(n:Int)] else (128 + ((n % 128:Nat):Int)) :: enc (n / 128)
termination_by n
decreasing_by omega
theorem enc_small {n:Nat} (h:n < 128):enc n=[(n:Int)]:=by rw [enc,if_pos h]
theorem enc_big {n:Nat} (h:128≤n):enc n=(128 + ((n % 128:Nat):Int)) :: enc (n / 128):=by rw [enc,if_neg (by omega)]

theorem enc_ne (n:Nat):enc n≠[]:=by
 rcases Nat.lt_or_ge n 128 with h|h
 ·rw [enc_small h];simp
 ·rw [enc_big h];simp
def val:List Int→Nat
 | []=>0
 | x :: xs=>x.toNat % 128 + 128 * val xs
def upTo:Nat→List Int→List Int
 | 0,_=>[]
 | _ + 1,[]=>[]
 | k + 1,x :: xs=>if x < 128 then [x] else x :: upTo k xs
def num (b:List Int):Nat:=val (upTo 10 b) % 18446744073709551616
def take (b:List Int):Option (Nat × List Int):=if enc (num b)=b.take (enc (num b)).length then some (num b,b.drop (enc (num b)).length) else none
end Var
end Go.Proofs.YtkiamgcpcneggaaGreat

/- Used by the law. -/
namespace Go.Proofs.YtkiamgcpcneggaaGreat
namespace Img

structure Im where
 sts:List Tri.St
 c:File.Cst
def Im.no:Im:=⟨[],File.Cst.zero⟩

/-! ### an image's numbers, and its bytes -/
def arcNums (i:Int):Int→List (Int × Int)→List Nat
 | _,[]=>[]
 | p,a :: r=>(a.1 - p - 1).toNat :: (a.2 - i - 1).toNat :: arcNums i a.1 r
def headNum (s:Tri.St):Nat:=2 * s.arcs.length + (if s.final=true then 1 else 0)
def stNums (i:Int) (s:Tri.St):List Nat:=headNum s :: arcNums i (-1) s.arcs
def stsNums:Int→List Tri.St→List Nat
 | _,[]=>[]
 | i,s :: r=>stNums i s ++ stsNums (i + 1) r
def sideNums (l:List Int):List Nat:=l.length :: l.map Int.toNat
def ruleNums (r:Rul):List Nat:=sideNums r.L ++ (sideNums r.R ++ [r.C.toNat])
def rulesNums (l:List Rul):List Nat:=l.flatMap ruleNums
def costNums (c:File.Cst):List Nat:=c.base.map Int.toNat ++ c.rules.length :: rulesNums c.rules
def nums (x:Im):List Nat:=x.sts.length :: stsNums 0 x.sts ++ costNums x.c
def flat (l:List Nat):List Int:=l.flatMap Var.enc
def body (x:Im):List Int:=flat (nums x)
/-! ### numbers, read -/
def take (M:Nat) (b:List Int):Option (Nat × List Int) :=
 match Var.take b with
 | some (n,r)=>if n≤M then some (n,r) else none
 | none=>none
def Plain (c:File.Cst):Prop:=c.base.length=4∧(∀ z ∈ c.base,0≤z∧z < 18446744073709551616)∧∀ x ∈ c.rules,0≤x.C

def Ok (x:Im):Prop:=Tri.check x.sts=true∧File.check x.c=true
end Img
end Go.Proofs.YtkiamgcpcneggaaGreat

/- Used by the law. -/
namespace Go.Proofs.YtkiamgcpcneggaaGreat
namespace Crc

def pol:Nat:=3988292384
def ones:Nat:=4294967295
def step (s:Nat):Nat:=(s / 2) ^^^ (if s % 2=1 then pol else 0)
def steps:Nat→Nat→Nat
 | 0,s=>s
 | k + 1,s=>steps k (step s)

theorem step_lt {s:Nat} (h:s < 4294967296):step s < 4294967296:=by
 unfold step
 have h1:s / 2 < 2 ^ 32:=by omega
 have h2:(if s % 2=1 then pol else 0) < 2 ^ 32:=by split<;>simp [pol]
 exact Nat.xor_lt_two_pow h1 h2
def num:List Int→Nat
 | []=>0
 | x :: xs=>x.toNat + 256 * num xs
def raw (s:Nat) (l:List Int):Nat:=l.foldl (fun s x=>steps 8 (s ^^^ x.toNat)) s
def sum (l:List Int):Nat:=raw ones l ^^^ ones
def le4 (s:Nat):List Int:=[((s % 256:Nat):Int),((s / 256 % 256:Nat):Int),((s / 65536 % 256:Nat):Int),((s / 16777216 % 256:Nat):Int)]
def lock (l:List Int):List Int:=l ++ le4 (sum l)
def opn (l:List Int):Option (List Int):=if 4≤l.length∧lock (l.take (l.length - 4))=l then some (l.take (l.length - 4)) else none
def rest:Nat:=steps 32 ones
end Crc
end Go.Proofs.YtkiamgcpcneggaaGreat

/- Used by the law. -/
namespace Go.Proofs.YtkiamgcpcneggaaGreat
namespace Img

/-! ### where the numbers are there, both readings tell the same -/
/-! ### what is written, and what is read -/
open Classical in
noncomputable def write (x:Im):Sum (List Int) Int:=if Tri.check x.sts=true then if File.check x.c=true then .inl (Crc.lock (body x)) else .inr 60 else .inr 100
def IsOf (b:List Int) (x:Im):Prop:=Plain x.c∧Ok x∧Crc.lock (body x)=b
open Classical in
noncomputable def read (b:List Int):Sum Im Int:=if h:∃ x,IsOf b x then .inl h.choose else if Crc.opn b=none then .inr 140 else .inr 150
end Img
end Go.Proofs.YtkiamgcpcneggaaGreat

/- Used by the law. -/
namespace Go.Proofs.YtkiamgcpcneggaaGreat
namespace Spec

end Spec
end Go.Proofs.YtkiamgcpcneggaaGreat
