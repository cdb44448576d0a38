import Derived.Test.YtkiamgcpcneggaaGreatGenAlias
set_option linter.all false
set_option maxRecDepth 100000
set_option maxHeartbeats 12800000
namespace Go.Proofs.YtkiamgcpcneggaaGreat
namespace Utf

def good (n:Int):Bool:=decide (0<=n)&&decide (n<=1114111)&&(decide (n<55296)||decide (57343<n))
def size (n:Int):Nat:=if n<128 then 1 else if n<2048 then 2 else if n<65536 then 3 else 4
def enc (n:Int):LIn :=
 if n<128 then [n] else if n<2048 then [192+n/64,128+n%64]
 else if n<65536 then [224+n/4096,128+n/64%64,128+n%64]
 else [240+n/262144,128+n/4096%64,128+n/64%64,128+n%64]
def put (l:LIn):LIn:=l.flatMap enc
def mark (k:Int):Int:=if k=1 then 0 else if k=2 then 192 else if k=3 then 224 else 240
def qJ (c:Int):Nat:=if c<128 then 1 else if c<192 then 0 else if c<224 then 2 else if c<240 then 3 else if c<248 then 4 else 0
def bf (l:LIn):Bool:=l.all good

theorem lX (n:Int):good n=true↔0<=n/\n<=1114111/\(n<55296\/57343<n):=by
 simp [good,and_assoc]
theorem Aq (n:Int):(enc n).length=size n:=by
 unfold enc size;split<;>(try split)<;>(try split)<;>rfl
theorem size_pos (n:Int):1<=size n:=by unfold size;split<;>(try split)<;>(try split)<;>omega
theorem size_le (n:Int):size n<=4:=by unfold size;split<;>(try split)<;>(try split)<;>omega
theorem enc_ne (n:Int):enc n≠[]:=by
 intro h;have:=Aq n;rw [h] at this;have:=size_pos n;simp at *;omega
theorem adL (n:Int) (h:good n=true):∀b∈enc n,0<=b/\b<=255:=by
 rw [lX] at h;unfold enc;split
 ·intro b hb;simp at hb;omega
 ·split
  ·intro b hb;simp at hb;omega
  ·split
   ·intro b hb;simp at hb;omega
   ·intro b hb;simp at hb;omega

theorem adM (m n:Int) (r s:LIn) (hm:good m=true) (hn:good n=true) (h:enc m++r=enc n++s):m=n/\r=s:=by
 rw [lX] at hm hn;unfold enc at h;split at h
 ·split at h
  ·simp at h;exact ⟨by omega,h.2⟩
  ·split at h
   ·simp at h;omega
   ·split at h
    ·simp at h;omega
    ·simp at h;omega
 ·split at h
  ·split at h
   ·simp at h;omega
   ·split at h
    ·simp at h;exact ⟨by omega,h.2.2⟩
    ·split at h
     ·simp at h;omega
     ·simp at h;omega
  ·split at h
   ·split at h
    ·simp at h;omega
    ·split at h
     ·simp at h;omega
     ·split at h
      ·simp at h;exact ⟨by omega,h.2.2.2⟩
      ·simp at h;omega
   ·split at h
    ·simp at h;omega
    ·split at h
     ·simp at h;omega
     ·split at h
      ·simp at h;omega
      ·simp at h;exact ⟨by omega,h.2.2.2.2⟩

theorem adN:put []=[]:=rfl
theorem Ar (n:Int) (l:LIn):put (n::l)=enc n++put l:=rfl
theorem adO (a:LIn) (n:Int):put (a++[n])=put a++enc n:=by simp [put]
theorem Ul (n:Int) (l:LIn):bf (n::l)=(good n&&bf l):=rfl
theorem adP (a b:LIn):bf (a++b)=(bf a&&bf b):=by simp [bf]
theorem adQ (n:Int) (l:LIn):put (n::l)≠[]:=by
 rw [Ar];intro h;exact enc_ne n (List.append_eq_nil_iff.1 h).1
theorem Dk (l:LIn):(put l).length<=4*l.length:=by
 induction l with
 | nil=>simp [put]
 | cons n l ih=>rw [Ar,List.length_append,Aq,List.length_cons];have:=size_le n;omega
theorem Mo (l:LIn) (h:bf l=true):∀b∈put l,0<=b/\b<=255:=by
 intro b hb;obtain ⟨n,hn,hbn⟩:=List.mem_flatMap.1 hb;exact adL n (by simpa using (List.all_eq_true.1 h) n hn) b hbn

theorem Um:∀(d l:LIn) (rs:LIn),bf d=true->bf l=true->put l=put d++rs->∃l',l=d++l'/\put l'=rs
 | [],l,rs,_,_,h=>⟨l,rfl,by simpa [put] using h⟩
 | n::d,[],rs,_,_,h=>by
   rw [Ar] at h;simp only [adN,List.append_assoc] at h;exact absurd (List.append_eq_nil_iff.1 h.symm).1 (enc_ne n)
 | n::d,m::l,rs,hd,hl,h=>by
   rw [Ul,Bool.and_eq_true] at hd hl;rw [Ar,Ar,List.append_assoc] at h;obtain ⟨rfl,h'⟩:=adM m n _ _ hl.1 hd.1 h;obtain ⟨l',rfl,h''⟩:=Um d l rs hd.2 hl.2 h';exact ⟨l',rfl,h''⟩
theorem adR (l d:LIn) (hl:bf l=true) (hd:bf d=true) (h:put l=put d):l=d:=by
 obtain ⟨l',rfl,h'⟩:=Um d l [] hd hl (by simpa using h)
 cases l' with
 | nil=>simp
 | cons n l'=>exact absurd h' (adQ n l')

def aro (zs:LIn):Option (Int × Nat)->Prop
 | some (n,k)=>good n=true/\k=size n/\∃r,zs=enc n++r
 | none=>∀n r,good n=true->zs≠enc n++r
def Un (zs:LIn):Option (LIn)->Prop
 | some l=>bf l=true/\put l=zs
 | none=>∀l,bf l=true->put l≠zs
theorem adS (s:Int) (k:Nat) (hk:k=size s) (h0:0<=s) (h1:s<=1114111) :
 (enc s).take 1=[(mark k+s/2^(6*(k-1))%256)%256]:=by
 subst hk;unfold enc size;split
 ·simp [mark];omega
 ·split
  ·simp [mark];omega
  ·split
   ·simp [mark];omega
   ·simp [mark];omega
theorem adT (s:Int) (j:Nat) (hj:j+1<size s) :
 (enc s).take (size s-j)=(enc s).take (size s-(j+1))++[128+s/2^(6*j)%64]:=by
 unfold size at hj;unfold enc size;split at hj
 ·omega
 ·rename_i a;rw [if_neg a,if_neg a];split at hj
  ·rename_i b;rw [if_pos b,if_pos b];obtain rfl:j=0:=omg;simp
  ·rename_i b;rw [if_neg b,if_neg b];split at hj
   ·rename_i c;rw [if_pos c,if_pos c];obtain rfl|rfl:j=0\/j=1:=omg
    ·simp
    ·simp
   ·rename_i c;rw [if_neg c,if_neg c];obtain rfl|rfl|rfl:j=0\/j=1\/j=2:=omg
    ·simp
    ·simp
    ·simp

theorem adU (s:Int):(enc s).take (size s)=enc s:=tol (by rw [Aq];exact Nat.le_refl _)

end Utf
section

def common:LIn->LIn->Nat
 | x::xs,y::ys=>if x=y then common xs ys+1 else 0
 | _,_=>0

def lessL:LIn->LIn->Bool
 | [],[]=>false
 | [],_::_=>true
 | _::_,[]=>false
 | x::xs,y::ys=>if x=y then lessL xs ys else decide (x<y)

theorem Au (b:LIn):common [] b=0:=by cases b<;>rfl
theorem Dl (a:LIn):common a []=0:=by cases a<;>rfl

theorem Mq:∀a b:LIn,common a b<=a.length/\common a b<=b.length
 | [],b=>by simp [Au]
 | x::xs,[]=>by simp [Dl]
 | x::xs,y::ys=>by
   have:=Mq xs ys;unfold common;split<;>simp<;>omega

theorem Uo:∀a b:LIn,common a b=common b a
 | [],b=>by simp [Au,Dl]
 | x::xs,[]=>by simp [Au,Dl]
 | x::xs,y::ys=>by
   have:=Uo xs ys;unfold common;by_cases h:x=y
   ·subst h;simp [this]
   ·have h':¬y=x:=fun e=>h e.symm;simp [h,h']

theorem yo:∀{i:Nat} {a b:LIn},a.take i=b.take i->i<=a.length->i<=b.length->(i=a.length\/i=b.length\/a.getD i 0≠b.getD i 0)->common a b=i
 | 0,a,b,_,_,_,h=>by
   cases a with
   | nil=>simp [Au]
   | cons x xs=>cases b with
     | nil=>simp [Dl]
     | cons y ys =>
       simp at h;simp [common,h]
 | i+1,a,b,ht,ha,hb,h=>by
   cases a with
   | nil=>simp at ha
   | cons x xs=>cases b with
     | nil=>simp at hb
     | cons y ys =>
       simp only [List.take_succ_cons,List.cons.injEq] at ht;obtain ⟨rfl,ht⟩:=ht;simp only [List.length_cons,Nat.add_le_add_iff_right] at ha hb;simp only [List.length_cons,Nat.add_right_cancel_iff,List.getD_cons_succ] at h;simp [common,yo ht ha hb h]

theorem Uq (u a b:LIn):lessL (u++a) (u++b)=lessL a b:=by
 induction u with
 | nil=>simp
 | cons x xs ih=>simp [lessL,ih]

theorem IC:∀a b:LIn,lessL a b=if common a b<a.length/\common a b<b.length then decide (a.getD (common a b) 0<b.getD (common a b) 0) else decide (a.length<b.length)
 | [],[]=>by simp [Au,lessL]
 | [],y::ys=>by simp [Au,lessL]
 | x::xs,[]=>by simp [Dl,lessL]
 | x::xs,y::ys=>by
   have ih:=IC xs ys;by_cases h:x=y
   ·subst h;simp [common,lessL,ih]
   ·simp [common,lessL,h]

theorem kW:∀a:LIn,lessL a a=false
 | []=>rfl
 | x::xs=>by simp [lessL,kW xs]

theorem qK:∀{a b c:LIn},lessL a b=true->lessL b c=true->lessL a c=true
 | [],[],c,h,_=>by simp [lessL] at h
 | [],_::_,[],_,h=>by simp [lessL] at h
 | [],_::_,_::_,_,_=>rfl
 | _::_,[],_,h,_=>by simp [lessL] at h
 | _::_,_::_,[],_,h=>by simp [lessL] at h
 | x::xs,y::ys,z::zs,h1,h2=>by
   have ih:=@qK xs ys zs;simp only [lessL] at h1 h2 ⊢;by_cases e1:x=y
   ·subst e1;by_cases e2:x=z
    ·subst e2;simp at h1 h2 ⊢;exact ih h1 h2
    ·simp [e2] at h2 ⊢;exact h2
   ·simp [e1] at h1;by_cases e2:y=z
    ·subst e2;simp [e1];exact h1
    ·simp [e2] at h2;have e3:¬x=z:=omg;simp [e3];omega

theorem Ur {a b:LIn} (h:lessL a b=true):lessL b a=false:=by
 cases h':lessL b a with
 | false=>rfl
 | true=>have:=qK h h';rw [kW] at this;cases this

theorem uB:∀{a b:LIn},lessL a b=false->lessL b a=false->a=b
 | [],[],_,_=>rfl
 | [],_::_,h,_=>by simp [lessL] at h
 | _::_,[],_,h=>by simp [lessL] at h
 | x::xs,y::ys,h1,h2=>by
   simp only [lessL] at h1 h2;by_cases e:x=y
   ·subst e;simp at h1 h2;rw [uB h1 h2]
   ·have e':¬y=x:=fun h=>e h.symm;simp [e] at h1;simp [e'] at h2;omega

theorem adV {a b c:LIn} (h1:lessL a b=false) (h2:lessL b c=false):lessL a c=false:=by
 cases h:lessL a c with
 | false=>rfl
 | true =>
   cases h3:lessL c b with
   | true=>rw [qK h h3] at h1;cases h1
   | false=>have:=uB h2 h3;subst this;rw [h] at h1;exact h1

def qL (x y:Int):Int:=if x<y then -1 else if y<x then 1 else 0
def cmpL (a b:LIn):Int:=if lessL a b then -1 else if lessL b a then 1 else 0

theorem adW (a b:LIn):decide (cmpL a b<0)=lessL a b:=by
 unfold cmpL;cases lessL a b<;>cases lessL b a<;>simp
theorem adX (a b:LIn):cmpL a b=if common a b<a.length/\common a b<b.length then qL (a.getD (common a b) 0) (b.getD (common a b) 0) else qL a.length b.length:=by
 unfold cmpL qL;rw [IC a b,IC b a,Uo b a];by_cases h:common a b<a.length/\common a b<b.length
 ·have h':common a b<b.length/\common a b<a.length:=⟨h.2,h.1⟩;rw [if_pos h,if_pos h',if_pos h];simp only [decide_eq_true_eq]
 ·have h':¬(common a b<b.length/\common a b<a.length):=fun x=>h ⟨x.2,x.1⟩;rw [if_neg h,if_neg h',if_neg h];simp only [decide_eq_true_eq];split<;>split<;>(try split)<;>(try split)<;>first|rfl|omega

def aM (l:LLI):Prop:=l.Pairwise fun a b=>lessL a b=true
def cnt (l:LLI) (w:LIn):Nat:=l.countP fun x=>lessL x w
def ins (l:LLI) (w:LIn):LLI:=if w∈l then l else l.take (cnt l w)++w::l.drop (cnt l w)
def srt (l:LLI):LLI:=l.foldl ins []

theorem adY (l:LLI) (w:LIn):cnt l w<=l.length:=List.countP_le_length

theorem aM.parts:∀{l:LLI} (w:LIn),aM l->(∀x∈l.take (cnt l w),lessL x w=true)/\(∀x∈l.drop (cnt l w),lessL x w=false)
 | [],w,_=>by simp
 | y::ys,w,h=>by
   have h':=List.pairwise_cons.1 h;have ih:=aM.parts (l:=ys) w h'.2
   cases hy:lessL y w with
   | true =>
     have e:cnt (y::ys) w=cnt ys w+1:=by simp [cnt,hy]
     rw [e];simp only [List.take_succ_cons,List.drop_succ_cons,List.mem_cons,forall_eq_or_imp];exact ⟨⟨hy,ih.1⟩,ih.2⟩
   | false =>
     have all:∀x∈ys,lessL x w=false:=fun x hx=>by
      cases hx':lessL x w with
      | false=>rfl
      | true=>rw [qK (h'.1 x hx) hx'] at hy;exact hy
     have e:cnt (y::ys) w=0:=by
      unfold cnt;rw [List.countP_eq_zero];intro x hx;rcases List.mem_cons.1 hx with rfl|hx
      ·simp [hy]
      ·simp [all x hx]
     rw [e];refine ⟨by simp,?_⟩;intro x hx;simp only [List.drop_zero] at hx;rcases List.mem_cons.1 hx with rfl|hx
     ·exact hy
     ·exact all x hx

theorem adZ {l:LLI} {w:LIn} (h:aM l):aM (ins l w):=by
 unfold ins;split
 ·exact h
 ·rename_i hw;obtain ⟨h1,h2⟩:=h.parts w;have hsplit:aM (l.take (cnt l w)++l.drop (cnt l w)):=by rw [List.take_append_drop];exact h
  obtain ⟨ha,hb,hc⟩:=List.pairwise_append.1 hsplit;refine List.pairwise_append.2 ⟨ha,List.pairwise_cons.2 ⟨fun x hx=>?_,hb⟩,fun x hx y hy=>?_⟩
  ·cases hwx:lessL w x with
   | true=>rfl
   | false =>
     have:=uB hwx (h2 x hx);subst this;exact absurd (List.mem_of_mem_drop hx) hw
  ·rcases List.mem_cons.1 hy with rfl|hy
   ·exact h1 x hx
   ·exact hc x hx y hy

theorem aea {l:LLI} {w x:LIn}:x∈ins l w↔x∈l\/x=w:=by
 unfold ins;split
 ·rename_i hw;constructor
  ·exact .inl
  ·rintro (h|rfl)
   ·exact h
   ·exact hw
 ·have e:x∈l↔x∈l.take (cnt l w)\/x∈l.drop (cnt l w):=by
   rw [<-List.mem_append,List.take_append_drop]
  rw [e];simp only [List.mem_append,List.mem_cons];constructor
  ·rintro (h|h|h)
   ·exact .inl (.inl h)
   ·exact .inr h
   ·exact .inl (.inr h)
  ·rintro ((h|h)|h)
   ·exact .inl h
   ·exact .inr (.inr h)
   ·exact .inr (.inl h)

theorem aeb (l:LLI) (w:LIn):(ins l w).length<=l.length+1:=by
 unfold ins;split
 ·omega
 ·have:=adY l w;simp;omega

theorem Ms:∀{l l':LLI},aM l->aM l'->(∀x,x∈l↔x∈l')->l=l'
 | [],[],_,_,_=>rfl
 | [],y::ys,_,_,h=>by have:=(h y).2 smp;simp at this
 | x::xs,[],_,_,h=>by have:=(h x).1 smp;simp at this
 | x::xs,y::ys,h1,h2,h=>by
   have a1:=List.pairwise_cons.1 h1;have a2:=List.pairwise_cons.1 h2
   have e:x=y:=by
    rcases List.mem_cons.1 ((h x).1 smp) with e|hx
    ·exact e
    ·rcases List.mem_cons.1 ((h y).2 smp) with e|hy
     ·exact e.symm
     ·have:=Ur (a1.1 y hy);rw [a2.1 x hx] at this;cases this
   subst e
   have:xs=ys:=Ms a1.2 a2.2 fun z=>by
    constructor
    ·intro hz;rcases List.mem_cons.1 ((h z).1 (by simp [hz])) with e|h'
     ·subst e;have:=a1.1 z hz;rw [kW] at this;cases this
     ·exact h'
    ·intro hz;rcases List.mem_cons.1 ((h z).2 (by simp [hz])) with e|h'
     ·subst e;have:=a2.1 z hz;rw [kW] at this;cases this
     ·exact h'
   rw [this]

theorem IE:∀(l o:LLI),aM o->aM (l.foldl ins o)/\(∀x,x∈l.foldl ins o↔x∈o\/x∈l)/\(l.foldl ins o).length<=o.length+l.length
 | [],o,h=>by simp [h]
 | y::ys,o,h=>by
   have ih:=IE ys (ins o y) (adZ h);have:=aeb o y;refine ⟨ih.1,fun x=>?_,?_⟩
   ·rw [List.foldl_cons,ih.2.1 x,aea,List.mem_cons];constructor
    ·rintro ((h|h)|h)
     ·exact .inl h
     ·exact .inr (.inl h)
     ·exact .inr (.inr h)
    ·rintro (h|h|h)
     ·exact .inl (.inl h)
     ·exact .inl (.inr h)
     ·exact .inr h
   ·have:=ih.2.2;simp only [List.foldl_cons,List.length_cons];omega

theorem Us (l:LLI):aM (srt l):=(IE l [] List.Pairwise.nil).1
theorem aec {l:LLI} {x:LIn}:x∈srt l↔x∈l:=by
 have:=(IE l [] List.Pairwise.nil).2.1 x;simpa [srt] using this
theorem aed (l:LLI):(srt l).length<=l.length:=by
 have:=(IE l [] List.Pairwise.nil).2.2;simpa [srt] using this
theorem aee (l:LLI) (w:LIn):srt (l++[w])=ins (srt l) w:=by simp [srt]
theorem aM.at {l:LLI} (h:aM l) {i j:Nat} (hij:i<j) (hj:j<l.length):lessL (l.getD i []) (l.getD j [])=true:=by
 have:=List.pairwise_iff_getElem.1 h i j omg hj hij;simpa [gdq,geg hj,geg (show i<l.length by omega)] using this

def dd (o:LLI) (w:LIn):LLI:=if o.length=0\/lessL (o.getD (o.length-1) []) w=true then o++[w] else o

theorem aef {o:LLI} {w:LIn} (h:aM o) (hw:∀x∈o,lessL w x=false):dd o w=ins o w:=by
 unfold dd;rcases Nat.eq_zero_or_pos o.length with h0|hp
 ·have:o=[]:=List.eq_nil_of_length_eq_zero h0;subst this;simp [ins]
 ·have hlast:o.length-1<o.length:=omg
  have hm:o.getD (o.length-1) []∈o:=by
   rw [gdq,geg hlast,Option.getD_some];exact List.getElem_mem hlast
  cases hl:lessL (o.getD (o.length-1) []) w with
  | true =>
    have all:∀x∈o,lessL x w=true:=fun x hx=>by
     obtain ⟨j,hj,rfl⟩:=List.mem_iff_getElem.1 hx;rcases Nat.lt_or_ge j (o.length-1) with hlt|hge
     ·have:=h.at hlt hlast;have:=qK this hl;simpa [gdq,hj] using this
     ·have:j=o.length-1:=omg;subst this;simpa [gdq,hj] using hl
    have hnm:w∉o:=fun hx=>by have:=all w hx;rw [kW] at this;cases this
    have hc:cnt o w=o.length:=by
     unfold cnt;rw [List.countP_eq_length];exact all
    simp [ins,hnm,hc]
  | false =>
    have e:=uB hl (hw _ hm);have hmem:w∈o:=by rw [<-e];exact hm
    have:¬(o.length=0):=omg;simp [ins,hmem,this]

end
section
namespace Line

def MG (cur:LIn):LIn->LLI
 | []=>if cur=[] then [] else [cur]
 | c::cs=>if c=10 then cur::MG [] cs else MG (cur++[c]) cs
def split (b:LIn):LLI:=MG [] b

def aen (c:Int):Bool:=c==32||c==9
def IG (cur:LIn):LIn->LLI
 | []=>if cur=[] then [] else [cur]
 | c::cs=>if aen c then (if cur=[] then IG [] cs else cur::IG [] cs) else IG (cur++[c]) cs
def fields (b:LIn):LLI:=IG [] b
def bare (b:LIn):Bool:=match fields b with
 | []=>true
 | f::_=>f.getD 0 0==35

def turn (c:Int):Int:=if c==9||c==32 then 41-c else c
end Line
end
section
namespace Tri

structure St where
 final:Bool
 arcs:List (Int × Int)
def St.no:St:=⟨false,[]⟩

def behind:Option Int->Int->Bool
 | none,_=>true
 | some q,s=>decide (q<s)
def dh (n i:Nat):Option Int->List (Int × Int)->Bool
 | _,[]=>true
 | p,a::r=>Utf.good a.1&&decide ((i:Int)<a.2)&&decide (a.2<(n:Int))&&behind p a.1&&dh n i (some a.1) r
def ib (n:Nat):Nat->List St->Bool
 | _,[]=>true
 | i,s::r=>dh n i none s.arcs&&ib n (i+1) r
def check (l:List St):Bool:=ib l.length 0 l&&decide (1<=l.length)&&decide (l.length<=6001)

def step (l:List St) (f s:Int):Int × Bool :=
 if f<0\/(l.length:Int)<=f then (0,false)
 else match (l.getD f.toNat St.no).arcs.find? fun a=>decide (a.1=s) with
  | some a=>(a.2,true)
  | none=>(0,false)

def level (ws:LLI) (n:Nat):LLI:=srt ((ws.filter fun w=>decide (n<=w.length)).map fun w=>w.take n)
def begs (ws:LLI):LLI:=[]::(List.range 20).flatMap fun n=>level ws (n+1)
def qO (p:LIn) (x:LIn × Nat):Option (Int × Int):=if x.1.length=p.length+1/\x.1.take p.length=p then some (x.1.getD p.length 0,(x.2:Int)) else none
def aP (l:LLI) (p:LIn):List (Int × Int):=l.zipIdx.filterMap (qO p)
def make (ws:LLI):List St:=(begs ws).map fun p=>⟨decide (p∈ws),aP (begs ws) p⟩

theorem mX {ws:LLI} {n:Nat} {p:LIn}:p∈level ws n↔p.length=n/\∃w∈ws,p <+: w:=by
 unfold level;rw [aec,List.mem_map];constructor
 ·rintro ⟨w,hw,rfl⟩;rw [List.mem_filter,decide_eq_true_eq] at hw;exact ⟨by simp;omega,w,hw.1,List.take_prefix n w⟩
 ·rintro ⟨h1,w,hw,hp⟩;refine ⟨w,?_,?_⟩
  ·rw [List.mem_filter,decide_eq_true_eq];exact ⟨hw,by have:=hp.length_le;omega⟩
  ·rw [<-h1];exact (List.prefix_iff_eq_take.1 hp).symm
def Short (ws:LLI):Prop:=∀w∈ws,w.length<=20
theorem yu {ws:LLI} (hs:Short ws) {p:LIn}:p∈begs ws↔p=[]\/∃w∈ws,p <+: w:=by
 unfold begs;rw [List.mem_cons,List.mem_flatMap];constructor
 ·rintro (h|⟨n,_,h⟩)
  ·exact .inl h
  ·exact .inr (mX.1 h).2
 ·rintro (h|⟨w,hw,hp⟩)
  ·exact .inl h
  ·cases p with
   | nil=>exact .inl rfl
   | cons x p =>
     have h1:=hp.length_le;have h2:=hs w hw;simp only [List.length_cons] at h1;exact .inr ⟨p.length,by simp;omega,mX.2 ⟨by simp,w,hw,hp⟩⟩
def sl (a b:LIn):Prop:=a.length<b.length\/a.length=b.length/\lessL a b=true
theorem UH (a:LIn):¬sl a a:=by
 rintro (h|⟨_,h⟩)
 ·omega
 ·rw [kW] at h;cases h
theorem MP (ws:LLI) (n:Nat):(level ws n).Pairwise sl:=by
 have h:aM (level ws n):=Us _;refine List.Pairwise.imp_of_mem ?_ h;intro a b ha hb hab;exact .inr ⟨by rw [(mX.1 ha).1,(mX.1 hb).1],hab⟩
theorem wh (ws:LLI):(begs ws).Pairwise sl:=by
 unfold begs;rw [List.pairwise_cons];constructor
 ·intro p hp;obtain ⟨n,_,h⟩:=List.mem_flatMap.1 hp;have:=(mX.1 h).1;exact .inl (by simp;omega)
 ·rw [List.pairwise_flatMap];refine ⟨fun n _=>MP ws (n+1),?_⟩;refine List.Pairwise.imp ?_ (List.pairwise_lt_range (n:=20));intro a b hab x hx y hy;have h1:=(mX.1 hx).1;have h2:=(mX.1 hy).1;exact .inl omg
theorem IL (ws:LLI):(begs ws).Nodup:=(wh ws).imp fun h e=>by subst e;exact UH _ h
theorem Az (ws:LLI):0<(begs ws).length:=by simp [begs]
theorem aeJ (ws:LLI):(begs ws)[0]'(Az ws)=[]:=rfl
theorem MQ {ws:LLI} (hs:Short ws) {p q:LIn} (hq:q∈begs ws) (hp:p <+: q):p∈begs ws:=by
 rcases (yu hs).1 hq with rfl|⟨w,hw,h⟩
 ·rw [List.prefix_nil.1 hp];exact hq
 ·exact (yu hs).2 (.inr ⟨w,hw,hp.trans h⟩)
theorem MR (ws:LLI) (n:Nat):(level ws n).length<=ws.length:=by
 refine Nat.le_trans (aed _) ?_;rw [List.length_map];exact List.length_filter_le _ _
theorem Dt (ws:LLI):(begs ws).length<=1+20*ws.length:=by
 unfold begs
 have h:∀l:List Nat,(l.flatMap fun n=>level ws (n+1)).length<=l.length*ws.length:=by
  intro l
  induction l with
  | nil=>simp
  | cons x l ih =>
    rw [List.flatMap_cons,List.length_append,List.length_cons,Nat.succ_mul];have:=MR ws (x+1);omega
 have:=h (List.range 20);rw [List.length_range] at this;rw [List.length_cons];omega

end Tri
end
section
namespace Tri

theorem AA {p:LIn} {x:LIn × Nat} {a:Int × Int}:qO p x=some a↔x.1=p++[a.1]/\a.2=(x.2:Int):=by
 obtain ⟨q,k⟩:=x;obtain ⟨s,t⟩:=a;unfold qO;constructor
 ·intro h;split at h
  ·rename_i hc;simp only [sij,Prod.mk.injEq] at h;obtain ⟨h1,h2⟩:=h;simp only at hc;refine ⟨?_,h2.symm⟩;have e:q=q.take p.length++q.drop p.length:=(List.take_append_drop _ _).symm
   have hd:q.drop p.length=[s]:=by
    rw [List.drop_eq_getElem_cons omg,List.drop_eq_nil_of_le omg];have:q.getD p.length 0=q[p.length]'omg:=by simp [show p.length<q.length by omega]
    rw [<-h1,this]
   rw [hc.2,hd] at e;exact e
  ·cases h
 ·rintro ⟨h1,h2⟩;simp only at h1 h2;subst h1 h2;rw [if_pos ⟨by simp,by simp⟩];simp
theorem mY {B:LLI} {p:LIn} {a:Int × Int}:a∈aP B p↔∃k,∃h:k<B.length,B[k]=p++[a.1]/\a.2=(k:Int):=by
 unfold aP;rw [List.mem_filterMap];constructor
 ·rintro ⟨⟨q,k⟩,hm,ha⟩;obtain ⟨h1,h2⟩:=AA.1 ha;have hk:=List.mem_zipIdx hm;simp only at h1 h2 hk;refine ⟨k,by omega,?_,h2⟩;rw [<-h1];have:=hk.2.2;simpa using this.symm
 ·rintro ⟨k,hk,h1,h2⟩;refine ⟨(p++[a.1],k),?_,AA.2 ⟨rfl,h2⟩⟩;rw [<-h1];refine List.mem_iff_getElem?.2 ⟨k,?_⟩;rw [List.getElem?_zipIdx,geg hk];simp
theorem aeQ {p:LIn} {s t:Int} (h:sl (p++[s]) (p++[t])):s<t:=by
 rcases h with h|⟨_,h⟩
 ·simp at h
 ·rw [Uq] at h;have h':¬s=t/\s<t:=by simpa [lessL] using h
  exact h'.2
theorem MV {B:LLI} (hB:B.Pairwise sl) (p:LIn):(aP B p).Pairwise fun a b=>a.1<b.1/\a.2<b.2:=by
 have hz:B.zipIdx.Pairwise fun x y=>sl x.1 y.1/\x.2<y.2:=by
  rw [List.pairwise_iff_getElem];intro i j hi hj hij;rw [List.getElem_zipIdx,List.getElem_zipIdx];simp only [List.length_zipIdx] at hi hj;exact ⟨List.pairwise_iff_getElem.1 hB i j hi hj hij,by omega⟩
 unfold aP;rw [List.pairwise_filterMap];refine hz.imp ?_;intro x y hxy a ha b hb;obtain ⟨h1,h2⟩:=AA.1 ha;obtain ⟨h3,h4⟩:=AA.1 hb;rw [h1,h3] at hxy;exact ⟨aeQ hxy.1,by rw [h2,h4];exact Int.ofNat_lt.2 hxy.2⟩
theorem IP {B:LLI} (hB:B.Pairwise sl) {i k:Nat} {p:LIn} {s:Int} (hi:i<B.length) (hk:k<B.length) (h1:B[i]=p) (h2:B[k]=p++[s]):i<k:=by
 rcases Nat.lt_or_ge i k with h|h
 ·exact h
 ·exfalso;rcases Nat.lt_or_eq_of_le h with h|h
  ·have:=List.pairwise_iff_getElem.1 hB k i hk hi h;rw [h1,h2] at this;rcases this with h3|⟨h3,_⟩<;>(simp at h3;try omega)
  ·subst h;rw [h1] at h2;have:=congrArg List.length h2;simp at this
theorem MW {B:LLI} (hB:B.Nodup) {i k:Nat} (hi:i<B.length) (hk:k<B.length) (h:B[i]=B[k]):i=k:=by
 rcases Nat.lt_trichotomy i k with h' | h' | h'
 ·exact absurd h (List.pairwise_iff_getElem.1 hB i k hi hk h')
 ·exact h'
 ·exact absurd h.symm (List.pairwise_iff_getElem.1 hB k i hk hi h')

theorem MX {n i:Nat}:∀{l:List (Int × Int)} {p:Option Int},(∀a∈l,Utf.good a.1=true/\(i:Int)<a.2/\a.2<(n:Int))->(l.Pairwise fun a b=>a.1<b.1)->(∀q,p=some q->∀a∈l,q<a.1)->dh n i p l=true
 | [],_,_,_,_=>rfl
 | a::r,p,h1,h2,h3=>by
   rw [List.pairwise_cons] at h2;obtain ⟨g1,g2,g3⟩:=h1 a smp;unfold dh;rw [MX (fun b hb=>h1 b (by simp [hb])) h2.2 (fun q hq b hb=>by cases hq;exact h2.1 b hb)]
   cases p with
   | none=>simp [g1,g2,g3,behind]
   | some q=>simp [g1,g2,g3,behind,h3 q rfl a smp]
theorem MZ {n:Nat}:∀{l:List St} {i:Nat},(∀k,∀h:k<l.length,dh n (i+k) none l[k].arcs=true)->ib n i l=true
 | [],_,_=>rfl
 | s::r,i,h=>by
   unfold ib;have h0:=h 0 smp;simp only [Nat.add_zero,List.getElem_cons_zero] at h0;rw [h0,MZ (i:=i+1) fun k hk=>?_]
   ·rfl
   ·have:=h (k+1) (by simp;omega);rw [List.getElem_cons_succ] at this;rw [show i+1+k=i+(k+1) by omega];exact this
theorem iM (ws:LLI):(make ws).length=(begs ws).length:=by simp [make]
theorem AB {ws:LLI} {i:Nat} (h:i<(make ws).length):(make ws)[i]=⟨decide ((begs ws)[i]'(by rw [iM] at h;exact h)∈ws),aP (begs ws) ((begs ws)[i]'(by rw [iM] at h;exact h))⟩:=by simp [make]
theorem aeR {ws:LLI} (hs:Short ws) (hg:∀w∈ws,Utf.bf w=true) {i:Nat} (hi:i<(begs ws).length) {a:Int × Int} (ha:a∈aP (begs ws) ((begs ws)[i])):Utf.good a.1=true/\(i:Int)<a.2/\a.2<((begs ws).length:Int):=by
 obtain ⟨k,hk,h1,h2⟩:=mY.1 ha;have hik:=IP (wh ws) hi hk rfl h1;refine ⟨?_,by rw [h2];exact Int.ofNat_lt.2 hik,by rw [h2];exact Int.ofNat_lt.2 hk⟩;have hm:(begs ws)[i]++[a.1]∈begs ws:=by rw [<-h1];exact List.getElem_mem _
 rcases (yu hs).1 hm with h|⟨w,hw,t,ht⟩
 ·simp at h
 ·have:=hg w hw;unfold Utf.bf at this;exact List.all_eq_true.1 this a.1 (by rw [<-ht];simp)
theorem aeS {ws:LLI} (hs:Short ws) (hg:∀w∈ws,Utf.bf w=true) (hl:ws.length<=300):check (make ws)=true:=by
 unfold check;have h1:=Dt ws;have h2:=Az ws;have h3:=iM ws;rw [MZ fun k hk=>?_]
 ·rw [decide_eq_true (show 1<=(make ws).length by omega),decide_eq_true (show (make ws).length<=6001 by omega)];rfl
 ·rw [AB hk];have hkb:k<(begs ws).length:=omg;refine MX (fun a ha=>?_) ((MV (wh ws) _).imp fun h=>h.1) (fun q hq=>by cases hq);rw [Nat.zero_add,h3];exact aeR hs hg hkb ha

def walk (l:List St):Int->LIn->Option Int
 | a,[]=>some a
 | a,s::w=>if (step l a s).2=true then walk l (step l a s).1 w else none
theorem UJ {ws:LLI} (hs:Short ws) {w:LIn} (hw:w∈ws):w∈begs ws:=(yu hs).2 (.inr ⟨w,hw,List.prefix_refl w⟩)
end Tri
end
namespace Utf

def tail (c:Int):Bool:=decide (128<=c)&&decide (c<192)
def acc (c:Int) (k:Nat) (l:LIn):Int:=l.foldl (fun s d=>s*64+d%64) (c-mark k)
def Vp (zs:LIn):Option (Int × Nat) :=
 match zs with
 | []=>none
 | c::rest =>
   if qJ c=0\/zs.length<qJ c then none
   else if (rest.take (qJ c-1)).all tail=false then none
   else if good (acc c (qJ c) (rest.take (qJ c-1)))=true/\size (acc c (qJ c) (rest.take (qJ c-1)))=qJ c then
    some (acc c (qJ c) (rest.take (qJ c-1)),qJ c)
   else none

def base (c:Int) (k:Nat):Int:=if k=2 then c%32 else if k=3 then c%16 else if k=4 then c%8 else c
def num (c:Int) (k:Nat) (l:LIn):Int:=l.foldl (fun s d=>s*64+d%64) (base c k)
end Utf
section
namespace Tri

theorem VB:∀{a b:LIn} (u v:LIn),a.length=b.length->lessL a b=true->lessL (a++u) (b++v)=true
 | [],[],_,_,_,h=>by simp [lessL] at h
 | [],_::_,_,_,h,_=>by simp at h
 | _::_,[],_,_,h,_=>by simp at h
 | x::a,y::b,u,v,hl,h=>by
   simp only [List.cons_append,lessL] at h ⊢;by_cases hxy:x=y
   ·subst hxy;simp only [if_true] at h ⊢;exact VB u v (by simpa using hl) h
   ·rw [if_neg hxy] at h ⊢;exact h
theorem ahc {x y:LIn} {n:Nat} (hx:n<=x.length) (hy:n<=y.length) (h:lessL y x=true):lessL (x.take n) (y.take n)=false:=by
 cases hc:lessL (x.take n) (y.take n) with
 | false=>rfl
 | true =>
   have:=VB (x.drop n) (y.drop n) (by simp;omega) hc;rw [List.take_append_drop,List.take_append_drop,Ur h] at this;cases this
theorem ND (ws:LLI) (x:LIn) (n:Nat):level (ws++[x]) n=if n<=x.length then ins (level ws n) (x.take n) else level ws n:=by
 unfold level;rw [List.filter_append,List.map_append];by_cases h:n<=x.length
 ·rw [if_pos h,show [x].filter (fun w=>decide (n<=w.length))=[x] by simp [h],List.map_singleton,aee]
 ·rw [if_neg h,show [x].filter (fun w=>decide (n<=w.length))=[] by simp [h]];simp
theorem ahd {o:LLI} {w:LIn} (h:aM o) (hw:∀x∈o,lessL w x=false):ins o w=if o.length=0\/o.getD (o.length-1) []≠w then o++[w] else o:=by
 rw [<-aef h hw];unfold dd;by_cases h0:o.length=0
 ·rw [if_pos (.inl h0),if_pos (.inl h0)]
 ·have hm:o.getD (o.length-1) []∈o:=by
   rw [gdq,geg omg,Option.getD_some];exact List.getElem_mem _
  by_cases he:o.getD (o.length-1) []=w
  ·rw [if_neg (by rw [he,kW];simp [h0]),if_neg (fun hh=>hh.elim h0 (fun h'=>h' he))]
  ·have:lessL (o.getD (o.length-1) []) w=true:=by
    cases hc:lessL (o.getD (o.length-1) []) w with
    | true=>rfl
    | false=>exact absurd (uB hc (hw _ hm)) he
   rw [if_pos (.inr this),if_pos (.inr he)]
theorem VC {ws:LLI} (hr:aM ws) {i n:Nat} {x:LIn} (hi:i<ws.length) (hx:ws.getD i []=x) :
 level (ws.take (i+1)) n=if n<=x.length then (if (level (ws.take i) n).length=0\/(level (ws.take i) n).getD ((level (ws.take i) n).length-1) []≠x.take n then level (ws.take i) n++[x.take n] else level (ws.take i) n) else level (ws.take i) n:=by
 have e:ws.take (i+1)=ws.take i++[x]:=by
  rw [tsa hi,<-hx];simp [hi]
 rw [e,ND];by_cases h:n<=x.length
 ·rw [if_pos h,if_pos h,ahd (o:=level (ws.take i) n) (Us _)];intro p hp;obtain ⟨h1,w,hw,h2⟩:=mX.1 hp
  have hlt:lessL w x=true:=by
   have hr':aM (ws.take i++[x]):=by rw [<-e];exact List.Pairwise.sublist (List.take_sublist _ _) hr
   exact (List.pairwise_append.1 hr').2.2 w hw x smp
  have h3:=List.prefix_iff_eq_take.1 h2;have h4:=h2.length_le;rw [h3,h1];exact ahc h omg hlt
 ·rw [if_neg h,if_neg h]
theorem VD (n:Nat):level [] n=[]:=rfl
def upto (ws:LLI) (p:Nat):LLI:=[]::(List.range p).flatMap fun n=>level ws (n+1)
theorem VE (ws:LLI) (p:Nat):upto ws (p+1)=upto ws p++level ws (p+1):=by
 unfold upto;rw [List.range_succ,List.flatMap_append];simp
theorem ahe (ws:LLI):upto ws 20=begs ws:=rfl
def mZ (B:LLI) (p:LIn) (k:Nat):List (Int × Int):=((B.take k).zipIdx).filterMap (qO p)
theorem ahf {B:LLI} {p q:LIn} {k:Nat} (hk:k<B.length) (hq:B.getD k []=q):mZ B p (k+1)=mZ B p k++(if q.length=p.length+1/\q.take p.length=p then [(q.getD p.length 0,(k:Int))] else []):=by
 unfold mZ;rw [tsa hk,List.zipIdx_append,List.filterMap_append]
 congr 1
 have e:B[k]=q:=by rw [<-hq];simp [hk]
 have hl:(B.take k).length=k:=by simp;omega
 rw [e,hl];simp only [List.zipIdx_cons,List.zipIdx_nil,Nat.zero_add,List.filterMap_cons,List.filterMap_nil,qO];by_cases h:q.length=p.length+1/\q.take p.length=p
 ·rw [if_pos h,if_pos h]
 ·rw [if_neg h,if_neg h]
theorem ahg (B:LLI) (p:LIn):mZ B p B.length=aP B p:=by unfold mZ aP;rw [List.take_length]

end Tri
end
section
namespace Tri

def cK (ws:LLI) (p i:Nat):LLI:=upto ws p++level (ws.take i) (p+1)
theorem VF (ws:LLI) (p:Nat):cK ws p 0=upto ws p:=by simp [cK,VD]
theorem ahh (ws:LLI) (p:Nat):cK ws p ws.length=cK ws (p+1) 0:=by rw [VF,VE];simp [cK]
theorem VG (ws:LLI):cK ws 0 0=[[]]:=by simp [cK,VD,upto]
theorem ahi (ws:LLI):cK ws 20 0=begs ws:=by rw [VF,ahe]
theorem NF {ws:LLI} {p:Nat} {q:LIn} (h:q∈upto ws p):q.length<=p:=by
 unfold upto at h;rcases List.mem_cons.1 h with rfl|h
 ·simp
 ·obtain ⟨n,hn,h⟩:=List.mem_flatMap.1 h;have:=(mX.1 h).1;rw [List.mem_range] at hn;omega
theorem ahj {ws:LLI} {p i:Nat} {q:LIn} (h:q∈cK ws p i):q.length<=p+1:=by
 rcases map1 h with h|h
 ·have:=NF h;omega
 ·rw [(mX.1 h).1];exact Nat.le_refl _
theorem ahk (ws:LLI) (p:Nat):(upto ws p).Pairwise sl:=by
 unfold upto;rw [List.pairwise_cons];constructor
 ·intro q hq;obtain ⟨n,_,h⟩:=List.mem_flatMap.1 hq;have:=(mX.1 h).1;exact .inl (by simp;omega)
 ·rw [List.pairwise_flatMap];refine ⟨fun n _=>MP ws (n+1),?_⟩;refine List.Pairwise.imp ?_ (List.pairwise_lt_range (n:=p));intro a b hab x hx y hy;have h1:=(mX.1 hx).1;have h2:=(mX.1 hy).1;exact .inl omg
theorem ahl (ws:LLI) (p i:Nat):(cK ws p i).Nodup:=by
 have h:(cK ws p i).Pairwise sl:=by
  unfold cK;rw [List.pairwise_append];refine ⟨ahk ws p,MP _ _,fun a ha b hb=>.inl ?_⟩;have h1:=NF ha;have h2:=(mX.1 hb).1;omega
 exact h.imp fun h e=>by subst e;exact UH _ h
theorem ahm (ws:LLI) (p:Nat):(upto ws p).length<=1+p*ws.length:=by
 unfold upto
 have h:∀l:List Nat,(l.flatMap fun n=>level ws (n+1)).length<=l.length*ws.length:=by
  intro l
  induction l with
  | nil=>simp
  | cons x l ih =>
    rw [List.flatMap_cons,List.length_append,List.length_cons,Nat.succ_mul];have:=MR ws (x+1);omega
 have:=h (List.range p);rw [List.length_range] at this;rw [List.length_cons];omega
theorem ahn {ws:LLI} {p i:Nat} (hp:p<20) (hn:ws.length<=300):(cK ws p i).length<=6001:=by
 unfold cK;rw [List.length_append];have h1:=ahm ws p;have h2:=MR (ws.take i) (p+1);have h3:(ws.take i).length<=ws.length:=by simp;omega
 have h4:p*ws.length<=19*ws.length:=Nat.mul_le_mul_right _ omg;omega
theorem aho {l:LLI} {w:LIn} (h:w∈l):ins l w=l:=by unfold ins;rw [if_pos h]
theorem ahp {ws:LLI} {p i:Nat} {x:LIn} (hi:i<ws.length) (hx:ws.getD i []=x) (hp:¬p<x.length):cK ws p (i+1)=cK ws p i:=by
 unfold cK;have e:ws.take (i+1)=ws.take i++[x]:=by rw [tsa hi,<-hx];simp [hi]
 rw [e,ND,if_neg omg]
theorem ahq {ws:LLI} (hr:aM ws) {p i:Nat} {x:LIn} (hi:i<ws.length) (hx:ws.getD i []=x) (hp:p<x.length) :
 cK ws p (i+1)=if x.take (p+1)∈cK ws p i then cK ws p i else cK ws p i++[x.take (p+1)]:=by
 have e:ws.take (i+1)=ws.take i++[x]:=by rw [tsa hi,<-hx];simp [hi]
 have hl:(x.take (p+1)).length=p+1:=by simp;omega
 have hm:x.take (p+1)∈cK ws p i↔x.take (p+1)∈level (ws.take i) (p+1):=by
  unfold cK;rw [List.mem_append];constructor
  ·rintro (h|h)
   ·have:=NF h;omega
   ·exact h
  ·exact .inr
 by_cases h:x.take (p+1)∈cK ws p i
 ·rw [if_pos h];unfold cK;rw [e,ND,if_pos omg,aho (hm.1 h)]
 ·rw [if_neg h];have h':x.take (p+1)∉level (ws.take i) (p+1):=fun hh=>h (hm.2 hh);unfold cK;rw [List.append_assoc,VC hr hi hx,if_pos omg]
  congr 1
  rw [if_pos];by_cases h0:(level (ws.take i) (p+1)).length=0
  ·exact .inl h0
  ·refine .inr fun he=>h' ?_;rw [<-he,gdq,geg omg,Option.getD_some];exact List.getElem_mem _

theorem getD_at {U:LLI} {i:Nat} (h:i<U.length):U.getD i []=U[i]:=by simp [h]
theorem getD_inj {U:LLI} (hn:U.Nodup) {i k:Nat} (hi:i<U.length) (hk:k<U.length) (h:U.getD i []=U.getD k []):i=k:=by
 rw [getD_at hi,getD_at hk] at h;exact MW hn hi hk h
theorem wC {U V:LLI} {i:Nat} (h:i<U.length):(U++V).getD i []=U.getD i []:=by
 simp only [gdq,List.getElem?_append_left h]
theorem Jd (U:LLI) (q:LIn):(U++[q]).getD U.length []=q:=smp
theorem getD_mem {U:LLI} {i:Nat} (h:i<U.length):U.getD i []∈U:=by rw [getD_at h];exact List.getElem_mem _
theorem ahr {U:LLI} {q:LIn} (h:q∈U):∃k,k<U.length/\U.getD k []=q:=by
 obtain ⟨k,hk,e⟩:=List.getElem_of_mem h;exact ⟨k,hk,by rw [getD_at hk,e]⟩

def ig (U ws:LLI) (j:Nat):List St:=U.map fun q=>⟨decide (q∈ws.take j),aP U q⟩
theorem Je (U ws:LLI) (j:Nat):(ig U ws j).length=U.length:=by simp [ig]
theorem ahs (ws:LLI):ig (begs ws) ws ws.length=make ws:=by unfold ig make;rw [List.take_length]
theorem NG {U ws:LLI} {j i:Nat} (h:i<U.length) (h':i<(ig U ws j).length):(ig U ws j)[i]=⟨decide (U.getD i []∈ws.take j),aP U (U.getD i [])⟩:=by
 simp [ig,h]
theorem aht {U ws:LLI} {j i:Nat} (h:i<U.length):(ig U ws j).getD i St.no=⟨decide (U.getD i []∈ws.take j),aP U (U.getD i [])⟩:=by
 have h':i<(ig U ws j).length:=by rw [Je];exact h
 rw [gdq,geg h',Option.getD_some];exact NG h h'
theorem ahu {U ws:LLI} (hn:U.Nodup) {j k:Nat} (hj:j<ws.length) (hk:k<U.length) (h:U.getD k []=ws.getD j []) :
 ig U ws (j+1)=(ig U ws j).set k ⟨true,((ig U ws j).getD k St.no).arcs⟩:=by
 refine List.ext_getElem (by simp [ig]) fun i h1 h2=>?_;have hi:i<U.length:=by rw [Je] at h1;exact h1
 have e:ws.take (j+1)=ws.take j++[U.getD k []]:=by rw [tsa hj,h,getD_at hj]
 rw [NG hi,List.getElem_set];by_cases hik:k=i
 ·subst hik;rw [if_pos rfl,aht hk,e];have:U.getD k []∈ws.take j++[U.getD k []]:=List.mem_append.2 (.inr (List.mem_singleton.2 rfl));rw [decide_eq_true this]
 ·rw [if_neg hik,NG hi]
  have hne:U.getD i []∈ws.take (j+1)↔U.getD i []∈ws.take j:=by
   rw [e,List.mem_append,List.mem_singleton];constructor
   ·rintro (h' | h')
    ·exact h'
    ·exact absurd (getD_inj hn hi hk h').symm hik
   ·exact .inl
  rw [decide_eq_decide.2 hne]
def bare (U:LLI):List St:=ig U [] 0
theorem ahv (U ws:LLI):bare U=ig U ws 0:=by simp [bare,ig]
theorem Jf (U:LLI):(bare U).length=U.length:=Je _ _ _
theorem ahw:bare [[]]=[⟨false,[]⟩]:=by simp [bare,ig,aP,qO]
theorem ahx {U:LLI} {f:Nat} (h:f<U.length):(bare U).getD f St.no=⟨false,aP U (U.getD f [])⟩:=by simp [bare,ig,h]
theorem VH (U:LLI) (q u:LIn):aP (U++[q]) u=aP U u++(qO u (q,U.length)).toList:=by
 unfold aP;rw [List.zipIdx_append,List.filterMap_append]
 congr 1
 simp only [List.zipIdx_cons,List.zipIdx_nil,Nat.zero_add,List.filterMap_cons,List.filterMap_nil];cases qO u (q,U.length)<;>rfl
theorem ahy (u:LIn) (s:Int) (n:Nat):qO u (u++[s],n)=some (s,(n:Int)):=AA.2 ⟨rfl,rfl⟩
theorem VI {u q:LIn} {n:Nat} (h:∀s,q≠u++[s]):qO u (q,n)=none:=by
 cases hc:qO u (q,n) with
 | none=>rfl
 | some a=>exact absurd (AA.1 hc).1 (h a.1)
theorem ahz {U:LLI} {q:LIn} (h:∀u∈U,u.length<=q.length):aP U q=[]:=by
 rw [List.eq_nil_iff_forall_not_mem];intro a ha;obtain ⟨k,hk,h1,_⟩:=mY.1 ha;have:=h _ (List.getElem_mem hk);rw [h1] at this;simp at this;omega
theorem VJ {u v:LIn} {s t:Int} (h:u++[s]=v++[t]):u=v/\s=t:=by
 have:=List.append_inj' h rfl;exact ⟨this.1,by simpa using this.2⟩
theorem ahA {U:LLI} (hn:U.Nodup) {f:Nat} {s:Int} {q:LIn} (hf:f<U.length) (hq:q=U.getD f []++[s]) (hl:∀u∈U,u.length<=q.length) :
 bare (U++[q])=(bare U).set f ⟨false,aP U (U.getD f [])++[(s,(U.length:Int))]⟩++[⟨false,[]⟩]:=by
 refine List.ext_getElem (by simp [bare,ig]) fun i h1 h2=>?_;have hi:i<U.length+1:=by rw [Jf] at h1;simpa using h1
 by_cases uZ:i<U.length
 ·rw [List.getElem_append_left (by simpa [Jf] using uZ),List.getElem_set];simp only [bare,ig,List.getElem_map,List.getElem_append_left uZ,VH];by_cases hif:f=i
  ·subst hif;rw [if_pos rfl];have e:U[f]=U.getD f []:=(getD_at uZ).symm;rw [e,hq,ahy];simp
  ·rw [if_neg hif,VI]
   ·simp
   ·intro t ht;rw [hq] at ht;have:=(VJ ht).1;rw [<-getD_at uZ] at this;exact hif (getD_inj hn hf uZ this)
 ·have hie:i=U.length:=omg;subst hie;rw [List.getElem_append_right (by simp [Jf])];simp only [bare,ig,List.getElem_map];have e:(U++[q])[U.length]'smp=q:=smp;simp only [e];rw [VH,ahz hl,VI]
  ·simp
  ·intro t ht;have:=congrArg List.length ht;simp at this

def DI (U:LLI) (m:Int->Int->Option Int):Prop:=∀f s t,m f s=some t↔∃i k:Nat,i<U.length/\k<U.length/\f=(i:Int)/\t=(k:Int)/\U.getD k []=U.getD i []++[s]
theorem ahB {m:Int->Int->Option Int} (h:∀f s,m f s=none):DI [[]] m:=by
 intro f s t;rw [h];constructor
 ·intro h;cases h
 ·rintro ⟨i,k,hi,hk,_,_,h⟩;have h1:k=0:=by simp at hk;omega
  subst h1;simp at h
theorem ahC {U:LLI} {m m':Int->Int->Option Int} (h:DI U m) (hn:U.Nodup) {f:Nat} {s:Int} {q:LIn} (hf:f<U.length) (hq:q=U.getD f []++[s]) (hl:∀u∈U,u.length<=q.length) (hnot:q∉U)
 (h1:m' (f:Int) s=some (U.length:Int)) (h2:∀f' s',¬(f'=(f:Int)/\s'=s)->m' f' s'=m f' s'):DI (U++[q]) m':=by
 intro f' s' t;by_cases hk:f'=(f:Int)/\s'=s
 ·obtain ⟨rfl,rfl⟩:=hk;rw [h1];constructor
  ·intro e;cases e;exact ⟨f,U.length,by simp;omega,by simp,rfl,rfl,by rw [Jd,wC hf,hq]⟩
  ·rintro ⟨i,k,hi,hk,h3,rfl,h4⟩;have:i=f:=omg;subst this;rw [wC hf,<-hq] at h4;have hkk:k<U.length+1:=by simpa using hk
   rcases Nat.lt_or_ge k U.length with hlt|hge
   ·rw [wC hlt] at h4;exact absurd (h4▸getD_mem hlt) hnot
   ·rw [show k=U.length by omega]
 ·rw [h2 f' s' hk,h f' s' t];constructor
  ·rintro ⟨i,k,hi,hk,h3,h4,h5⟩;exact ⟨i,k,by simp;omega,by simp;omega,h3,h4,by rw [wC hi,wC hk];exact h5⟩
  ·rintro ⟨i,k,hi,hk',h3,h4,h5⟩;have hi':i<U.length+1:=by simpa using hi
   have asb:k<U.length+1:=by simpa using hk'
   have hkl:((U++[q]).getD k []).length<=q.length:=by
    rcases map1 (getD_mem hk') with hm|hm
    ·exact hl _ hm
    ·rw [msg hm];exact Nat.le_refl _
   have uZ:i<U.length:=by
    rcases Nat.lt_or_ge i U.length with hlt|hge
    ·exact hlt
    ·exfalso;have:i=U.length:=omg;subst this;rw [Jd] at h5;rw [h5] at hkl;simp at hkl;omega
   rw [wC uZ] at h5;rcases Nat.lt_or_ge k U.length with hlt|hge
   ·rw [wC hlt] at h5;exact ⟨i,k,uZ,hlt,h3,h4,h5⟩
   ·exfalso;have:k=U.length:=omg;subst this;rw [Jd,hq] at h5;obtain ⟨h6,h7⟩:=VJ h5;have:=getD_inj hn hf uZ h6;subst this;exact hk ⟨h3,h7.symm⟩

def pY (ws U:LLI) (ps:LIn) (p i:Nat):Prop:=ps.length=ws.length/\∀j,j<ws.length->∃k:Nat,k<U.length/\ps.getD j 0=(k:Int)/\U.getD k []=(ws.getD j []).take (if j<i then p+1 else p)
theorem ahD (ws:LLI):pY ws [[]] (List.replicate ws.length 0) 0 0:=by
 refine ⟨by simp,fun j hj=>⟨0,by simp,by simp [hj],by simp⟩⟩
theorem ahE {ws U:LLI} {ps:LIn} {p:Nat} (h:pY ws U ps p ws.length):pY ws U ps (p+1) 0:=by
 refine ⟨h.1,fun j hj=>?_⟩;obtain ⟨k,h1,h2,h3⟩:=h.2 j hj;exact ⟨k,h1,h2,by rw [h3,if_pos hj,if_neg omg]⟩
theorem ahF {ws U:LLI} {ps:LIn} {p i:Nat} (h:pY ws U ps p i) (hp:¬p<(ws.getD i []).length):pY ws U ps p (i+1):=by
 refine ⟨h.1,fun j hj=>?_⟩;obtain ⟨k,h1,h2,h3⟩:=h.2 j hj;refine ⟨k,h1,h2,?_⟩;by_cases hji:j=i
 ·subst hji;rw [h3,if_neg omg,if_pos omg,tol omg,tol omg]
 ·rw [h3];by_cases hlt:j<i
  ·rw [if_pos hlt,if_pos omg]
  ·rw [if_neg hlt,if_neg omg]
theorem ahG {ws U V:LLI} {ps:LIn} {p i k:Nat} (h:pY ws U ps p i) (hi:i<ws.length) (hk:k<(U++V).length) (hq:(U++V).getD k []=(ws.getD i []).take (p+1)):pY ws (U++V) (ps.set i (k:Int)) p (i+1):=by
 refine ⟨by rw [List.length_set];exact h.1,fun j hj=>?_⟩;by_cases hji:i=j
 ·subst hji;exact ⟨k,hk,by simp [h.1,hi],by rw [hq,if_pos omg]⟩
 ·obtain ⟨k',h1,h2,h3⟩:=h.2 j hj;refine ⟨k',by simp;omega,?_,?_⟩
  ·rw [<-h2];simp [hji]
  ·rw [wC h1,h3];by_cases hlt:j<i
   ·rw [if_pos hlt,if_pos omg]
   ·rw [if_neg hlt,if_neg omg]
theorem ahH {ws U:LLI} {ps:LIn} {p i:Nat} (h:pY ws U ps p i) (hi:i<ws.length):∃k:Nat,k<U.length/\ps.getD i 0=(k:Int)/\U.getD k []=(ws.getD i []).take p:=by
 obtain ⟨k,h1,h2,h3⟩:=h.2 i hi;exact ⟨k,h1,h2,by rw [h3,if_neg omg]⟩
theorem ahI {ws U:LLI} {ps:LIn} (h:pY ws U ps 20 0) (hs:Short ws) {j:Nat} (hj:j<ws.length):∃k:Nat,k<U.length/\ps.getD j 0=(k:Int)/\U.getD k []=ws.getD j []:=by
 obtain ⟨k,h1,h2,h3⟩:=h.2 j hj;refine ⟨k,h1,h2,?_⟩;rw [h3,if_neg omg,tol];refine hs _ ?_;rw [getD_at hj];exact List.getElem_mem _
theorem ahJ {x:LIn} {p:Nat} (h:p<x.length):x.take (p+1)=x.take p++[x.getD p 0]:=by
 rw [tsa h];simp [h]

end Tri
end
section
namespace Wl

def may (x:Int):Bool:=Utf.good x&&!decide (x=9)&&!decide (x=10)&&!decide (x=32)
def fit (w:LIn):Bool:=decide (1<=w.length)&&decide (w.length<=20)&&w.all may&&!decide (w.getD 0 0=35)

open Classical in
noncomputable def signs (zs:LIn):Option (LIn):=if h:∃l,Utf.Un zs (some l) then some h.choose else none
noncomputable def aia (f:LIn):LIn × Int:=match signs f with
 | none=>([],10)
 | some w=>if w.length<=20 then (w,0) else ([],90)
noncomputable def word (l:LIn):LIn × Int :=
 if (Line.fields l).length=1 then aia ((Line.fields l).getD 0 []) else ([],71)

structure Got where
 ws:LLI
 at_:Int
 e:Int

noncomputable def readA (i:Nat) (o:LLI):LLI->Got
 | []=>⟨o,-1,0⟩
 | l::ls =>
   if Line.bare l=true then readA (i+1) o ls
   else if (word l).2≠0 then ⟨[],(i:Int),(word l).2⟩
   else if 300<(ins o (word l).1).length then ⟨[],(i:Int),81⟩
   else readA (i+1) (ins o (word l).1) ls
noncomputable def read (b:LIn):Got:=readA 0 [] (Line.split b)
def Ok (ls:LLI):Prop:=∀l∈ls,Line.bare l=false->(word l).2=0

theorem fit_parts {w:LIn} (h:fit w=true):w≠[]/\w.length<=20/\Utf.bf w=true/\(∀x∈w,x≠9/\x≠10/\x≠32)/\w.getD 0 0≠35:=by
 unfold fit at h;simp only [Bool.and_eq_true,decide_eq_true_eq,Bool.not_eq_true',decide_eq_false_iff_not] at h;obtain ⟨⟨⟨h1,h2⟩,h3⟩,h4⟩:=h
 have h5:∀x∈w,Utf.good x=true/\x≠9/\x≠10/\x≠32:=fun x hx=>by
  have:=List.all_eq_true.1 h3 x hx;unfold may at this;simp only [Bool.and_eq_true,Bool.not_eq_true',decide_eq_false_iff_not] at this;exact ⟨this.1.1.1,this.1.1.2,this.1.2,this.2⟩
 refine ⟨by rintro rfl;simp at h1,h2,?_,fun x hx=>(h5 x hx).2,h4⟩;unfold Utf.bf;exact List.all_eq_true.2 fun x hx=>(h5 x hx).1
def rises:LLI->Bool
 | x::y::l=>lessL x y&&rises (y::l)
 | _=>true
theorem NI:∀{l:LLI},rises l=true↔aM l
 | []=>by simp [rises,aM]
 | [x]=>by simp [rises,aM]
 | x::y::l=>by
   have ih:=NI (l:=y::l);unfold rises;rw [Bool.and_eq_true,ih];constructor
   ·rintro ⟨h1,h2⟩;refine List.pairwise_cons.2 ⟨fun z hz=>?_,h2⟩;rcases List.mem_cons.1 hz with rfl|hz
    ·exact h1
    ·exact qK h1 ((List.pairwise_cons.1 h2).1 z hz)
   ·intro h;exact ⟨(List.pairwise_cons.1 h).1 y smp,(List.pairwise_cons.1 h).2⟩
def write (l:LLI):LIn × Int :=
 if 300<l.length then ([],81) else if l.all fit=true/\rises l=true then (l.flatMap fun w=>Utf.put w++[10],0) else ([],90)

theorem AU (l:LLI):((write l).2=0/\l.length<=300/\(∀w∈l,fit w=true)/\aM l/\(write l).1=l.flatMap fun w=>Utf.put w++[10])\/((write l).2≠0/\(write l).1=[]):=by
 unfold write;by_cases h1:300<l.length
 ·rw [if_pos h1];exact .inr ⟨by decide,rfl⟩
 ·rw [if_neg h1];by_cases h2:l.all fit=true/\rises l=true
  ·rw [if_pos h2];exact .inl ⟨rfl,by omega,List.all_eq_true.1 h2.1,NI.1 h2.2,rfl⟩
  ·rw [if_neg h2];exact .inr ⟨by decide,rfl⟩
end Wl
end
section
namespace Tri

theorem Wi:∀{n i:Nat} {l:List St},ib n i l=true->∀k,∀h:k<l.length,dh n (i+k) none l[k].arcs=true
 | n,i,s::r,h,k,hk=>by
   unfold ib at h;rw [Bool.and_eq_true] at h
   cases k with
   | zero=>simpa using h.1
   | succ k =>
     have:=Wi h.2 k (by simpa using hk);rw [List.getElem_cons_succ,show i+(k+1)=i+1+k by omega];exact this
theorem NQ {n i:Nat}:∀{p:Option Int} {l:List (Int × Int)},dh n i p l=true->(∀a∈l,Utf.good a.1=true/\(i:Int)<a.2/\a.2<(n:Int))/\(l.Pairwise fun a b=>a.1<b.1)/\(∀q,p=some q->∀a∈l,q<a.1)
 | p,[],_=>⟨by simp,List.Pairwise.nil,by simp⟩
 | p,a::r,h=>by
   unfold dh at h;simp only [Bool.and_eq_true,decide_eq_true_eq] at h;obtain ⟨⟨⟨⟨h1,h2⟩,h3⟩,h4⟩,h5⟩:=h;obtain ⟨g1,g2,g3⟩:=NQ h5;refine ⟨fun b hb=>?_,?_,fun q hq b hb=>?_⟩
   ·rcases List.mem_cons.1 hb with rfl|hb
    ·exact ⟨h1,h2,h3⟩
    ·exact g1 b hb
   ·rw [List.pairwise_cons];exact ⟨fun b hb=>g3 a.1 rfl b hb,g2⟩
   ·subst hq;have hq:q<a.1:=by simpa [behind] using h4
    rcases List.mem_cons.1 hb with rfl|hb
    ·exact hq
    ·have:=g3 a.1 rfl b hb;omega
theorem ik {l:List St} (h:check l=true) {i:Nat} (hi:i<l.length):(∀a∈(l.getD i St.no).arcs,Utf.good a.1=true/\(i:Int)<a.2/\a.2<(l.length:Int))/\((l.getD i St.no).arcs.Pairwise fun a b=>a.1<b.1):=by
 unfold check at h;simp only [Bool.and_eq_true,decide_eq_true_eq] at h;have h1:=Wi h.1.1 i hi;rw [Nat.zero_add] at h1;have e:l.getD i St.no=l[i]:=by simp [hi]
 rw [e];exact ⟨(NQ h1).1,(NQ h1).2.1⟩
theorem jo {l:List St} (h:check l=true):1<=l.length/\l.length<=6001:=by
 unfold check at h;simp only [Bool.and_eq_true,decide_eq_true_eq] at h;exact ⟨h.1.2,h.2⟩
end Tri

namespace Wlk
open Tri

def yF (l:List St):Nat->Nat->LLI
 | 0,_=>[]
 | f+1,i=>(if (l.getD i St.no).final then [[]] else [])++(l.getD i St.no).arcs.flatMap fun a=>(yF l f a.2.toNat).map (a.1::·)
def wds (l:List St) (i:Nat):LLI:=yF l (l.length-i) i
theorem yG {α β:Type} {l:List α} {f g:α->List β} (h:∀a∈l,f a=g a):l.flatMap f=l.flatMap g:=by
 induction l with
 | nil=>rfl
 | cons x l ih=>rw [List.flatMap_cons,List.flatMap_cons,h x smp,ih fun a ha=>h a (by simp [ha])]
theorem NR {l:List St} (hc:check l=true):∀(f i:Nat),i<l.length->l.length-i<=f->yF l f i=wds l i
 | 0,i,hi,hf=>by omega
 | f+1,i,hi,hf=>by
   unfold wds;obtain ⟨g,hg⟩:∃g,l.length-i=g+1:=⟨l.length-i-1,by omega⟩;rw [hg,yF,yF]
   congr 1
   refine yG fun a ha=>?_;obtain ⟨_,h2,h3⟩:=(ik hc hi).1 a ha;rw [NR hc f a.2.toNat omg omg,<-NR hc g a.2.toNat omg omg]
 termination_by f i=>f
theorem yH {l:List St} (hc:check l=true) {i:Nat} (hi:i<l.length):wds l i=(if (l.getD i St.no).final then [[]] else [])++(l.getD i St.no).arcs.flatMap fun a=>(wds l a.2.toNat).map (a.1::·):=by
 obtain ⟨g,hg⟩:∃g,l.length-i=g+1:=⟨l.length-i-1,by omega⟩;have e:wds l i=yF l (g+1) i:=by unfold wds;rw [hg]
 rw [e,yF]
 congr 1
 refine yG fun a ha=>?_;obtain ⟨_,h2,h3⟩:=(ik hc hi).1 a ha;rw [NR hc g a.2.toNat omg omg]

theorem NS {l:List (Int × Int)} {s:Int} {b:Int × Int} (h:l.find? (fun a=>decide (a.1=s))=some b):b.1=s:=by
 have h1:=List.find?_some h;exact of_decide_eq_true h1
theorem Wj {l:List (Int × Int)} (hp:l.Pairwise fun a b=>a.1<b.1) {a:Int × Int} (ha:a∈l):l.find? (fun b=>decide (b.1=a.1))=some a:=by
 cases hf:l.find? (fun b=>decide (b.1=a.1)) with
 | none=>have:=List.find?_eq_none.1 hf a ha;simp at this
 | some b =>
   have h1:=NS hf;have h2:=List.mem_of_find?_eq_some hf;obtain ⟨i,hi,rfl⟩:=List.getElem_of_mem ha;obtain ⟨j,hj,rfl⟩:=List.getElem_of_mem h2;rcases Nat.lt_trichotomy i j with h|h|h
   ·have:=List.pairwise_iff_getElem.1 hp i j hi hj h;omega
   ·subst h;rfl
   ·have:=List.pairwise_iff_getElem.1 hp j i hj hi h;omega
theorem Wm {l:List St} (hc:check l=true) {i:Nat} (hi:i<l.length) {a:Int × Int} (ha:a∈(l.getD i St.no).arcs):Tri.step l (i:Int) a.1=(a.2,true):=by
 unfold Tri.step;rw [if_neg omg,Int.toNat_natCast,Wj (ik hc hi).2 ha]
theorem NT {l:List St} {i:Nat} (hi:i<l.length) {s:Int} (h:(Tri.step l (i:Int) s).2=true):(s,(Tri.step l (i:Int) s).1)∈(l.getD i St.no).arcs:=by
 unfold Tri.step at h ⊢;rw [if_neg omg,Int.toNat_natCast] at h ⊢
 cases hf:(l.getD i St.no).arcs.find? fun a=>decide (a.1=s) with
 | none=>rw [hf] at h;cases h
 | some b =>
   have h1:=NS hf;have h2:=List.mem_of_find?_eq_some hf;subst h1;exact h2
theorem Wp (b:Bool) (s:Int) (w:LIn):s::w∉(if b=true then [[]] else []:LLI):=by
 cases b
 ·exact fun h=>by cases h
 ·exact fun h=>by have:=msg h;cases this
def has (l:List St) (i:Nat) (w:LIn):Bool:=match walk l (i:Int) w with
 | some t=>(l.getD t.toNat St.no).final
 | none=>false
theorem NU {l:List St} (hc:check l=true):∀(w:LIn) {i:Nat},i<l.length->(w∈wds l i↔has l i w=true)
 | [],i,hi=>by
   rw [yH hc hi];unfold has walk
   have hn:([]:LIn)∉(l.getD i St.no).arcs.flatMap fun a=>(wds l a.2.toNat).map (a.1::·):=fun h=>by
    obtain ⟨a,_,h⟩:=List.mem_flatMap.1 h;obtain ⟨x,_,e⟩:=List.mem_map.1 h;cases e
   rw [List.mem_append];show _↔(l.getD (i:Int).toNat St.no).final=true;rw [Int.toNat_natCast];cases (l.getD i St.no).final
   ·exact ⟨fun h=>h.elim (fun h=>by cases h) (fun h=>absurd h hn),fun h=>by cases h⟩
   ·exact ⟨fun _=>rfl,fun _=>.inl smp⟩
 | s::w,i,hi=>by
   rw [yH hc hi,List.mem_append,List.mem_flatMap];have h0:=Wp (l.getD i St.no).final s w;unfold has walk;constructor
   ·rintro (h|⟨a,ha,h⟩)
    ·exact absurd h h0
    ·obtain ⟨x,hx,e⟩:=List.mem_map.1 h;obtain ⟨e1,e2⟩:=List.cons.inj e;rw [e2] at hx;obtain ⟨_,h2,h3⟩:=(ik hc hi).1 a ha;rw [<-e1,Wm hc hi ha];have:=(NU hc w (i:=a.2.toNat) omg).1 hx;unfold has at this;rw [show ((a.2.toNat:Nat):Int)=a.2 by omega] at this;simpa using this
   ·intro h;by_cases hs:(Tri.step l (i:Int) s).2=true
    ·rw [if_pos hs] at h;have ha:=NT hi hs;obtain ⟨_,h2,h3⟩:=(ik hc hi).1 _ ha;refine .inr ⟨_,ha,List.mem_map.2 ⟨w,(NU hc w omg).2 ?_,rfl⟩⟩;unfold has;rw [show (((Tri.step l (i:Int) s).1.toNat:Nat):Int)=(Tri.step l (i:Int) s).1 by omega];exact h
    ·rw [if_neg hs] at h;cases h

theorem ail {a:Int} {l:LLI} (h:aM l):aM (l.map (a::·)):=by
 unfold aM;rw [List.pairwise_map];exact h.imp fun h=>by simpa [lessL] using h
theorem aim {P:Int->LLI}:∀{as:List (Int × Int)},(as.Pairwise fun a b=>a.1<b.1)->(∀a∈as,aM (P a.2))->aM (as.flatMap fun a=>(P a.2).map (a.1::·))
 | as,hp,h=>by
   unfold aM;rw [List.pairwise_flatMap];refine ⟨fun a ha=>ail (h a ha),hp.imp ?_⟩;intro a b hab x hx y hy;obtain ⟨x,_,rfl⟩:=List.mem_map.1 hx;obtain ⟨y,_,rfl⟩:=List.mem_map.1 hy;simp only [lessL];rw [if_neg omg];simpa using hab
theorem Wq {l:List St} (hc:check l=true):∀(k i:Nat),i<l.length->l.length-i<=k->aM (wds l i)
 | 0,i,hi,h=>by omega
 | k+1,i,hi,h=>by
   rw [yH hc hi];unfold aM;rw [List.pairwise_append];obtain ⟨g1,g2⟩:=ik hc hi;refine ⟨by split;exact List.pairwise_singleton _ _;exact List.Pairwise.nil,aim (P:=fun t=>wds l t.toNat) g2 fun a ha=>?_,?_⟩
   ·obtain ⟨_,h2,h3⟩:=g1 a ha;exact Wq hc k a.2.toNat omg omg
   ·intro x hx y hy
    have e:x=[]:=by
     split at hx
     ·simpa using hx
     ·simp at hx
    subst e;obtain ⟨a,_,hy⟩:=List.mem_flatMap.1 hy;obtain ⟨y,_,rfl⟩:=List.mem_map.1 hy;rfl
theorem ain {l:List St} (hc:check l=true) {i:Nat} (hi:i<l.length):aM (wds l i):=Wq hc _ i hi lrf
theorem NV {l:List St} (hc:check l=true):∀(w:LIn) {i:Nat},i<l.length->w∈wds l i->Utf.bf w=true/\w.length+i<l.length
 | [],i,hi,_=>⟨rfl,by simpa using hi⟩
 | s::w,i,hi,h=>by
   rw [yH hc hi,List.mem_append,List.mem_flatMap] at h;rcases h with h|⟨a,ha,h⟩
   ·exact absurd h (Wp _ _ _)
   ·obtain ⟨x,hx,e⟩:=List.mem_map.1 h;obtain ⟨e1,e2⟩:=List.cons.inj e;rw [e2] at hx;obtain ⟨h1,h2,h3⟩:=(ik hc hi).1 a ha;obtain ⟨g1,g2⟩:=NV hc w (i:=a.2.toNat) omg hx;rw [e1] at h1;refine ⟨?_,by rw [List.length_cons];omega⟩;unfold Utf.bf at g1 ⊢;rw [List.all_cons,h1,g1];rfl

def cap (n:Nat):Nat:=min n 301
def mny (l:List St) (i:Nat):Nat:=min (wds l i).length 301
def dp (ws:LLI):Int:=ws.foldl (fun d w=>max d (w.length:Int)) (-1)
theorem NW:∀(ws:LLI) (d:Int),-1<=d->ws.foldl (fun d w=>max d (w.length:Int)) d=max d (dp ws)
 | [],d,h=>by unfold dp;simp;omega
 | w::ws,d,h=>by
   unfold dp;rw [List.foldl_cons,List.foldl_cons,NW ws _ omg,NW ws (max (-1) _) omg];omega
theorem AV:dp []=-1:=rfl
theorem wF (w:LIn) (ws:LLI):dp (w::ws)=max (w.length:Int) (dp ws):=by
 have:dp (w::ws)=ws.foldl (fun d w=>max d (w.length:Int)) (max (-1) (w.length:Int)):=rfl;rw [this,NW _ _ omg];omega
theorem Wt:∀u v:LLI,dp (u++v)=max (dp u) (dp v)
 | [],v=>by
   rw [List.nil_append,AV]
   have:-1<=dp v:=by cases v with
    | nil=>simp [AV]
    | cons w v=>rw [wF];omega
   omega
 | w::u,v=>by rw [List.cons_append,wF,wF,Wt u v];omega
theorem dp_none {ws:LLI}:dp ws=-1↔ws=[]:=by
 cases ws with
 | nil=>simp [AV]
 | cons w ws=>rw [wF];simp;omega
theorem DR (ws:LLI):-1<=dp ws:=by
 cases ws with
 | nil=>simp [AV]
 | cons w ws=>rw [wF];omega
theorem Wu (a:Int):∀ws:LLI,dp (ws.map (a::·))=if ws=[] then -1 else dp ws+1
 | []=>rfl
 | w::ws=>by
   have e:dp ((w::ws).map (a::·))=dp ((a::w)::ws.map (a::·)):=rfl;rw [e,wF,Wu a ws,wF,List.length_cons,if_neg (show ¬(w::ws=[]) from List.cons_ne_nil _ _)];by_cases h:ws=[]
   ·rw [if_pos h,h,AV];omega
   ·rw [if_neg h];have:=DR ws;omega
theorem NY {ws:LLI} {n:Nat} (h:∀w∈ws,w.length<=n):dp ws<=(n:Int):=by
 induction ws with
 | nil=>rw [AV];omega
 | cons w ws ih =>
   have h1:=h w smp;have h2:=ih fun x hx=>h x (by simp [hx]);rw [wF];omega
def upA (l:List St) (i:Nat) (k:Nat):LLI:=(if (l.getD i St.no).final then [[]] else [])++((l.getD i St.no).arcs.take k).flatMap fun a=>(wds l a.2.toNat).map (a.1::·)
theorem DT (l:List St) (i:Nat):upA l i 0=if (l.getD i St.no).final then [[]] else []:=by simp [upA]
theorem NZ (l:List St) (i:Nat) {k:Nat} {a:Int × Int} (hk:k<(l.getD i St.no).arcs.length) (ha:(l.getD i St.no).arcs.getD k (0,0)=a):upA l i (k+1)=upA l i k++(wds l a.2.toNat).map (a.1::·):=by
 unfold upA
 have e:(l.getD i St.no).arcs.take (k+1)=(l.getD i St.no).arcs.take k++[a]:=by
  rw [tsa hk];have:∀(as:List (Int × Int)) (h:k<as.length),as.getD k (0,0)=as[k]:=fun as h=>by simp [h]
  rw [<-ha,this _ hk]
 rw [e,List.flatMap_append,List.append_assoc];simp
theorem DU {l:List St} (hc:check l=true) {i:Nat} (hi:i<l.length):upA l i (l.getD i St.no).arcs.length=wds l i:=by
 unfold upA;rw [List.take_length,yH hc hi]
theorem Wv (l:List St) (i:Nat) {k:Nat} {a:Int × Int} (hk:k<(l.getD i St.no).arcs.length) (ha:(l.getD i St.no).arcs.getD k (0,0)=a):min (upA l i (k+1)).length 301=min (min (upA l i k).length 301+mny l a.2.toNat) 301:=by
 rw [NZ l i hk ha,List.length_append,List.length_map];unfold mny;omega
theorem Ww (l:List St) (i:Nat) {k:Nat} {a:Int × Int} (hk:k<(l.getD i St.no).arcs.length) (ha:(l.getD i St.no).arcs.getD k (0,0)=a) :
 dp (upA l i (k+1))=if dp (wds l a.2.toNat)=-1 then dp (upA l i k) else max (dp (upA l i k)) (dp (wds l a.2.toNat)+1):=by
 rw [NZ l i hk ha,Wt,Wu];have:=DR (upA l i k);by_cases h:wds l a.2.toNat=[]
 ·rw [if_pos h,if_pos (dp_none.2 h)];omega
 ·rw [if_neg h,if_neg (fun e=>h (dp_none.1 e))]

def ge (l:List St) (i:Nat) (w:LIn):LLI:=(wds l i).filter fun x=>!lessL x w
def aft (l:List St) (i:Nat) (s:Int):LLI:=((l.getD i St.no).arcs.filter fun a=>decide (s<a.1)).flatMap fun a=>(wds l a.2.toNat).map (a.1::·)
theorem Oa (l:List St) (i:Nat):ge l i []=wds l i:=by
 unfold ge;refine List.filter_eq_self.2 fun x _=>?_;cases x<;>rfl
theorem filter_flatMap {α β:Type} (p:β->Bool) (f:α->List β):∀l:List α,(l.flatMap f).filter p=l.flatMap fun a=>(f a).filter p
 | []=>rfl
 | x::l=>by rw [List.flatMap_cons,List.filter_append,filter_flatMap p f l,List.flatMap_cons]
theorem aio (l:List St) (t:Nat) (c s:Int) (w:LIn):((wds l t).map (c::·)).filter (fun x=>!lessL x (s::w))=if c=s then (ge l t w).map (c::·) else if s<c then (wds l t).map (c::·) else []:=by
 unfold ge;rw [List.filter_map];by_cases h:c=s
 ·subst h;rw [if_pos rfl]
  congr 2
  funext x
  simp [lessL]
 ·rw [if_neg h];by_cases h':s<c
  ·rw [if_pos h']
   congr 1
   refine List.filter_eq_self.2 fun x _=>?_;simp only [Function.comp_apply,lessL];rw [if_neg h];simp;omega
  ·rw [if_neg h']
   have:(wds l t).filter ((fun x=>!lessL x (s::w)) ∘ fun x=>c::x)=[]:=by
    refine List.filter_eq_nil_iff.2 fun x _=>?_;simp only [Function.comp_apply,lessL];rw [if_neg h];simp;omega
   rw [this];rfl
theorem Wx {P:Int × Int->LLI} {s:Int}:∀{as:List (Int × Int)},(as.Pairwise fun a b=>a.1<b.1) ->
 (as.flatMap fun a=>if a.1=s then P a else if s<a.1 then (P a) else [])=((as.filter fun a=>decide (a.1=s)).flatMap P)++((as.filter fun a=>decide (s<a.1)).flatMap P)
 | [],_=>rfl
 | a::as,hp=>by
   rw [List.pairwise_cons] at hp;rw [List.flatMap_cons,Wx hp.2];by_cases h:a.1=s
   ·have h0:as.filter (fun a=>decide (a.1=s))=[]:=List.filter_eq_nil_iff.2 fun b hb=>by have:=hp.1 b hb;simp;omega
    rw [if_pos h,List.filter_cons_of_pos (by simpa using h),List.filter_cons_of_neg (by simp;omega),h0];simp
   ·rw [if_neg h];by_cases h':s<a.1
    ·have h0:as.filter (fun a=>decide (a.1=s))=[]:=List.filter_eq_nil_iff.2 fun b hb=>by have:=hp.1 b hb;simp;omega
     rw [if_pos h',List.filter_cons_of_neg (by simpa using h),List.filter_cons_of_pos (by simpa using h'),h0];simp
    ·rw [if_neg h',List.filter_cons_of_neg (by simpa using h),List.filter_cons_of_neg (by simpa using h')];simp
theorem Wy {s:Int}:∀{as:List (Int × Int)},(as.Pairwise fun a b=>a.1<b.1)->as.filter (fun a=>decide (a.1=s))=(as.find? fun a=>decide (a.1=s)).toList
 | [],_=>rfl
 | a::as,hp=>by
   rw [List.pairwise_cons] at hp;by_cases h:a.1=s
   ·have h0:as.filter (fun a=>decide (a.1=s))=[]:=List.filter_eq_nil_iff.2 fun b hb=>by have:=hp.1 b hb;simp;omega
    rw [List.filter_cons_of_pos (by simpa using h),h0,List.find?_cons_of_pos (by simpa using h)];rfl
   ·rw [List.filter_cons_of_neg (by simpa using h),List.find?_cons_of_neg (by simpa using h),Wy hp.2]
theorem aip {l:List St} (hc:check l=true) {i:Nat} (hi:i<l.length) (s:Int) (w:LIn) :
 ge l i (s::w)=(if (Tri.step l (i:Int) s).2=true then (ge l (Tri.step l (i:Int) s).1.toNat w).map (s::·) else [])++aft l i s:=by
 have h1:ge l i (s::w)=(l.getD i St.no).arcs.flatMap fun a=>if a.1=s then (ge l a.2.toNat w).map (a.1::·) else if s<a.1 then (wds l a.2.toNat).map (a.1::·) else []:=by
  have h0:ge l i (s::w)=(wds l i).filter fun x=>!lessL x (s::w):=rfl;rw [h0,yH hc hi,List.filter_append,filter_flatMap];have h0:(if (l.getD i St.no).final=true then [[]] else []:LLI).filter (fun x=>!lessL x (s::w))=[]:=by split<;>rfl
  rw [h0,List.nil_append];exact yG fun a _=>aio l _ _ _ _
 have hp:=(ik hc hi).2
 have h2:((l.getD i St.no).arcs.flatMap fun a=>if a.1=s then (ge l a.2.toNat w).map (a.1::·) else if s<a.1 then (wds l a.2.toNat).map (a.1::·) else []) =
  (l.getD i St.no).arcs.flatMap fun a=>if a.1=s then (if a.1=s then (ge l a.2.toNat w).map (a.1::·) else (wds l a.2.toNat).map (a.1::·)) else if s<a.1 then (if a.1=s then (ge l a.2.toNat w).map (a.1::·) else (wds l a.2.toNat).map (a.1::·)) else [] :=
  yG fun a _=>by by_cases h:a.1=s<;>simp [h]
 rw [h1,h2,Wx hp]
 congr 1
 ·rw [Wy hp];by_cases hs:(Tri.step l (i:Int) s).2=true
  ·rw [if_pos hs];have ha:=NT hi hs;have hf:=Wj hp ha;simp only at hf;rw [hf];simp
  ·rw [if_neg hs]
   cases hf:(l.getD i St.no).arcs.find? fun a=>decide (a.1=s) with
   | none=>rfl
   | some b =>
     have h3:=NS hf;have:=Wm hc hi (List.mem_of_find?_eq_some hf);rw [h3] at this;rw [this] at hs;exact absurd rfl hs
 ·unfold aft;refine yG fun a ha=>?_;have:=of_decide_eq_true (List.mem_filter.1 ha).2;rw [if_neg omg]

def Pre (a b:LLI):Prop:=a.take 300=b.take 300
theorem Pre.refl (a:LLI):Pre a a:=rfl
theorem Pre.trans {a b c:LLI} (h:Pre a b) (h':Pre b c):Pre a c:=Eq.trans h h'
theorem Pre.length {a b:LLI} (h:Pre a b):min 300 a.length=min 300 b.length:=by
 have:=congrArg List.length h;simpa using this
theorem Pre.app {a b c d:LLI} (h:Pre a b) (h':Pre c d):Pre (a++c) (b++d):=by
 unfold Pre;rw [List.take_append,List.take_append];have hl:=h.length;rcases Nat.lt_or_ge a.length 300 with h1|h1
 ·have e:a.length=b.length:=omg;rw [h,e]
  congr 1
  have e1:c.take (300-b.length)=(c.take 300).take (300-b.length):=by rw [List.take_take,Nat.min_eq_left omg]
  have e2:d.take (300-b.length)=(d.take 300).take (300-b.length):=by rw [List.take_take,Nat.min_eq_left omg]
  rw [e1,e2,h']
 ·rw [h,show 300-a.length=0 by omega,show 300-b.length=0 by omega];simp
theorem Pre.map {a b:LLI} (h:Pre a b) (f:LIn->LIn):Pre (a.map f) (b.map f):=by
 unfold Pre;rw [<-List.map_take,<-List.map_take,h]
theorem Pre.take {a b:LLI} (h:Pre a b) {n:Nat} (hn:n<=300):a.take n=b.take n:=by
 have e1:a.take n=(a.take 300).take n:=by rw [List.take_take,Nat.min_eq_left hn]
 have e2:b.take n=(b.take 300).take n:=by rw [List.take_take,Nat.min_eq_left hn]
 rw [e1,e2,h]
theorem Pre.flatMap {α:Type} {f g:α->LLI}:∀{as:List α},(∀a∈as,Pre (f a) (g a))->Pre (as.flatMap f) (as.flatMap g)
 | [],_=>rfl
 | a::as,h=>by
   rw [List.flatMap_cons,List.flatMap_cons];exact (h a smp).app (Pre.flatMap fun b hb=>h b (by simp [hb]))
theorem Wz {α:Type} {f:α->LLI}:∀{as:List α},(∀a∈as,f a≠[])->as.length<=(as.flatMap f).length
 | [],_=>by simp
 | a::as,h=>by
   rw [List.flatMap_cons,List.length_append,List.length_cons];have h1:=Wz (f:=f) (as:=as) fun b hb=>h b (List.mem_cons_of_mem _ hb);have h2:=List.length_pos_iff.2 (h a smp);omega
theorem Pre.first {α:Type} {f:α->LLI} {as:List α} (h:∀a∈as,f a≠[]):Pre ((as.take 300).flatMap f) (as.flatMap f):=by
 have e:as.flatMap f=(as.take 300).flatMap f++(as.drop 300).flatMap f:=by rw [<-List.flatMap_append,List.take_append_drop]
 rw [e];unfold Pre;rcases Nat.lt_or_ge as.length 300 with h1|h1
 ·rw [List.drop_eq_nil_of_le omg];simp
 ·have:=Wz (f:=f) (as:=as.take 300) fun a ha=>h a (List.mem_of_mem_take ha);rw [List.length_take,Nat.min_eq_left h1] at this;rw [List.take_append_of_le_length this]
def goes (l:List St) (i:Nat) (s:Int):List (Int × Int):=((l.getD i St.no).arcs.filter fun a=>decide (s<a.1)&&decide (dp (wds l a.2.toNat)≠-1)).take 300
def yI (l:List St):Nat->Nat->LLI
 | 0,_=>[]
 | f+1,i=>(if (l.getD i St.no).final then [[]] else [])++(goes l i (-1)).flatMap fun a=>(yI l f a.2.toNat).map (a.1::·)
def told (l:List St) (i:Nat):LLI:=yI l (l.length-i) i
theorem tu {l:List St} {i:Nat} {s:Int} {a:Int × Int} (h:a∈goes l i s):a∈(l.getD i St.no).arcs/\s<a.1/\wds l a.2.toNat≠[]:=by
 have:=List.mem_of_mem_take h;rw [List.mem_filter,Bool.and_eq_true,decide_eq_true_eq,decide_eq_true_eq] at this;exact ⟨this.1,this.2.1,fun e=>this.2.2 (dp_none.2 e)⟩
theorem Ob {l:List St} (hc:check l=true):∀(f i:Nat),i<l.length->l.length-i<=f->yI l f i=told l i
 | 0,i,hi,hf=>by omega
 | f+1,i,hi,hf=>by
   unfold told;obtain ⟨g,hg⟩:∃g,l.length-i=g+1:=⟨l.length-i-1,by omega⟩;rw [hg,yI,yI]
   congr 1
   refine yG fun a ha=>?_;obtain ⟨_,h2,h3⟩:=(ik hc hi).1 a (tu ha).1;rw [Ob hc f a.2.toNat omg omg,<-Ob hc g a.2.toNat omg omg]
 termination_by f i=>f
def byA (l:List St) (as:List (Int × Int)):LLI:=as.flatMap fun a=>(told l a.2.toNat).map (a.1::·)
theorem WB {l:List St} (hc:check l=true) {i:Nat} (hi:i<l.length):told l i=(if (l.getD i St.no).final then [[]] else [])++byA l (goes l i (-1)):=by
 obtain ⟨g,hg⟩:∃g,l.length-i=g+1:=⟨l.length-i-1,by omega⟩;have e:told l i=yI l (g+1) i:=by unfold told;rw [hg]
 rw [e,yI]
 congr 1
 unfold byA;refine yG fun a ha=>?_;obtain ⟨_,h2,h3⟩:=(ik hc hi).1 a (tu ha).1;rw [Ob hc g a.2.toNat omg omg]
theorem aiq (l:List St) {f:Int × Int->LLI} (hf:∀a,wds l a.2.toNat=[]->f a=[]) (s:Int) (as:List (Int × Int)) :
 (as.filter fun a=>decide (s<a.1)&&decide (dp (wds l a.2.toNat)≠-1)).flatMap f=(as.filter fun a=>decide (s<a.1)).flatMap f:=by
 induction as with
 | nil=>rfl
 | cons a as ih =>
   by_cases h1:s<a.1
   ·by_cases h2:dp (wds l a.2.toNat)≠-1
    ·rw [List.filter_cons_of_pos (by simp [h1,h2]),List.filter_cons_of_pos (by simp [h1]),List.flatMap_cons,List.flatMap_cons,ih]
    ·have h3:=hf a (dp_none.1 (Classical.not_not.1 h2));rw [List.filter_cons_of_neg (by simp at h2;simp [h2]),List.filter_cons_of_pos (by simp [h1]),List.flatMap_cons,h3,ih,List.nil_append]
   ·rw [List.filter_cons_of_neg (by simp [h1]),List.filter_cons_of_neg (by simp [h1]),ih]
theorem WE {l:List St} (i:Nat) (s:Int):Pre ((goes l i s).flatMap fun a=>(wds l a.2.toNat).map (a.1::·)) (aft l i s):=by
 unfold goes;refine (Pre.first fun a ha=>?_).trans ?_
 ·rw [List.mem_filter,Bool.and_eq_true,decide_eq_true_eq,decide_eq_true_eq] at ha;simp only [ne_eq,List.map_eq_nil_iff];exact fun e=>ha.2.2 (dp_none.2 e)
 ·rw [aiq l (fun a h=>by rw [h];rfl)];exact Pre.refl _
theorem air {l:List St} (hc:check l=true) {i:Nat} (hi:i<l.length):aft l i (-1)=(l.getD i St.no).arcs.flatMap fun a=>(wds l a.2.toNat).map (a.1::·):=by
 unfold aft
 congr 1
 refine List.filter_eq_self.2 fun a ha=>?_;have:=(Utf.lX _).1 ((ik hc hi).1 a ha).1;simp;omega
theorem Oc {l:List St} (hc:check l=true):∀(k i:Nat),i<l.length->l.length-i<=k->Pre (told l i) (wds l i)
 | 0,i,hi,h=>by omega
 | k+1,i,hi,h=>by
   rw [WB hc hi,yH hc hi,<-air hc hi];refine (Pre.refl _).app (Pre.trans ?_ (WE i (-1)));refine Pre.flatMap fun a ha=>?_;obtain ⟨_,h2,h3⟩:=(ik hc hi).1 a (tu ha).1;exact (Oc hc k a.2.toNat omg omg).map _
theorem ais {l:List St} (hc:check l=true) {i:Nat} (hi:i<l.length) (s:Int):Pre (byA l (goes l i s)) (aft l i s):=by
 refine Pre.trans ?_ (WE i s);refine Pre.flatMap fun a ha=>?_;obtain ⟨_,h2,h3⟩:=(ik hc hi).1 a (tu ha).1;exact (Oc hc _ a.2.toNat omg lrf).map _

def along (l:List St):Int->LIn->LIn
 | i,[]=>[i]
 | i,s::w=>i::if (Tri.step l i s).2=true then along l (Tri.step l i s).1 w else []
def fE (l:List St):Nat->LIn->LLI
 | i,[]=>told l i
 | i,s::w=>(if (Tri.step l (i:Int) s).2=true then (fE l (Tri.step l (i:Int) s).1.toNat w).map (s::·) else [])++byA l (goes l i s)
theorem step_lt {l:List St} (hc:check l=true) {i:Nat} (hi:i<l.length) {s:Int} (h:(Tri.step l (i:Int) s).2=true):(i:Int)<(Tri.step l (i:Int) s).1/\(Tri.step l (i:Int) s).1<(l.length:Int):=by
 have:=(ik hc hi).1 _ (NT hi h);exact this.2
theorem Od {l:List St} (hc:check l=true):∀(w:LIn) {i:Nat},i<l.length->Pre (fE l i w) (ge l i w)
 | [],i,hi=>by rw [Oa];exact Oc hc _ i hi lrf
 | s::w,i,hi=>by
   rw [aip hc hi,fE];refine Pre.app ?_ (ais hc hi s);split
   ·rename_i h;have:=step_lt hc hi h;exact (Od hc w omg).map _
   ·exact Pre.refl _

end Wlk
end
section
namespace Wlk
open Tri

def Ol (l:List St) (w:LIn):Bool:=check l&&has l 0 w
def dK (l:List St):Nat:=if check l=true then mny l 0 else 0
def gT (l:List St):Int:=if check l=true then dp (wds l 0) else -1
def lh (l:List St) (w:LIn) (n:Int):LLI × Int :=
 if check l=false then ([],100) else if n<0\/300<n then ([],1) else ((ge l 0 w).take n.toNat,0)
def kE (l:List St):LLI × Int :=
 if check l=false then ([],100) else if 300<(wds l 0).length then ([],81) else (wds l 0,0)
theorem DV (l:List St):∀(w:LIn) (i:Int),(∀t,walk l i w=some t->(along l i w).length=w.length+1/\(along l i w).getD w.length 0=t)/\(walk l i w=none->(along l i w).length<=w.length)
 | [],i=>⟨fun t h=>by unfold walk at h;simp only [sij] at h;subst h;exact ⟨rfl,rfl⟩,fun h=>by unfold walk at h;cases h⟩
 | s::w,i=>by
   obtain ⟨h1,h2⟩:=DV l w (Tri.step l i s).1;unfold walk along;by_cases hs:(Tri.step l i s).2=true
   ·rw [if_pos hs,if_pos hs];refine ⟨fun t ht=>?_,fun h=>by have:=h2 h;simp only [List.length_cons];omega⟩;obtain ⟨g1,g2⟩:=h1 t ht;refine ⟨by simp only [List.length_cons];omega,?_⟩;rw [List.length_cons,List.getD_cons_succ];exact g2
   ·rw [if_neg hs,if_neg hs];refine ⟨fun t ht=>(by cases ht),fun _=>?_⟩;simp only [List.length_cons,List.length_nil];omega
theorem Om (l:List St) (i:Int):∀w,1<=(along l i w).length
 | []=>by simp [along]
 | s::w=>by unfold along;simp
theorem WT {l:List St} (hc:check l=true):∀(w:LIn) {i:Nat},i<l.length->∀t,walk l (i:Int) w=some t->0<=t/\t<(l.length:Int)
 | [],i,hi,t,h=>by unfold walk at h;simp only [sij] at h;omega
 | s::w,i,hi,t,h=>by
   unfold walk at h;split at h
   ·rename_i hs;have:=step_lt hc hi hs;obtain ⟨u,hu⟩:∃u:Nat,(Tri.step l (i:Int) s).1=(u:Int):=⟨(Tri.step l (i:Int) s).1.toNat,by omega⟩;rw [hu] at h this;exact WT hc w omg t h
   ·cases h
theorem yK {l:List St} (hc:check l=true):∀(w:LIn) {i:Nat},i<l.length->∀k,k<(along l (i:Int) w).length ->
 0<=(along l (i:Int) w).getD k 0/\(along l (i:Int) w).getD k 0<(l.length:Int)
 | [],i,hi,k,hk=>by
   unfold along at hk ⊢;obtain rfl:k=0:=by simpa using hk
   simp;omega
 | s::w,i,hi,k,hk=>by
   unfold along at hk ⊢
   cases k with
   | zero=>simp;omega
   | succ k =>
     rw [List.getD_cons_succ];split at hk
     ·rename_i hs;rw [if_pos hs];have:=step_lt hc hi hs;obtain ⟨u,hu⟩:∃u:Nat,(Tri.step l (i:Int) s).1=(u:Int):=⟨(Tri.step l (i:Int) s).1.toNat,by omega⟩;rw [hu] at hk this ⊢;exact yK hc w omg k (by simpa using hk)
     ·simp at hk
def mq (l:List St) (w:LIn) (j:Nat):LLI :=
 if j<(along l 0 w).length then (fE l ((along l 0 w).getD j 0).toNat (w.drop j)).map (w.take j++·) else []
theorem WU {l:List St} (hc:check l=true):∀(w:LIn) {i:Nat},i<l.length->∀k,k<(along l (i:Int) w).length->∀s r,w.drop k=s::r ->
 (k+1<(along l (i:Int) w).length↔(Tri.step l ((along l (i:Int) w).getD k 0) s).2=true)/\(k+1<(along l (i:Int) w).length->(along l (i:Int) w).getD (k+1) 0=(Tri.step l ((along l (i:Int) w).getD k 0) s).1)
 | [],i,hi,k,hk,s,r,hd=>by simp at hd
 | c::w,i,hi,0,hk,s,r,hd=>by
   simp only [List.drop_zero,List.cons.injEq] at hd;obtain ⟨rfl,rfl⟩:=hd;unfold along;have hp:=Om l (Tri.step l (i:Int) c).1 w;by_cases hs:(Tri.step l (i:Int) c).2=true
   ·simp only [hs,if_true,List.getD_cons_zero,List.length_cons,List.getD_cons_succ];refine ⟨⟨fun _=>trivial,fun _=>by omega⟩,fun _=>?_⟩;cases w<;>rfl
   ·simp [hs]
 | c::w,i,hi,k+1,hk,s,r,hd=>by
   rw [List.drop_succ_cons] at hd;unfold along at hk ⊢;by_cases hs:(Tri.step l (i:Int) c).2=true
   ·rw [if_pos hs] at hk ⊢;have:=step_lt hc hi hs;obtain ⟨u,hu⟩:∃u:Nat,(Tri.step l (i:Int) c).1=(u:Int):=⟨(Tri.step l (i:Int) c).1.toNat,by omega⟩;rw [hu] at hk this ⊢;simp only [List.length_cons,List.getD_cons_succ,Nat.add_lt_add_iff_right] at hk ⊢;exact WU hc w omg k hk s r hd
   ·rw [if_neg hs] at hk;simp at hk
theorem Oo {l:List St} (hc:check l=true) {w:LIn} {k:Nat} {s:Int} {u:Nat} (hk:k<(along l 0 w).length) (Kn:k<w.length) (hs:w.getD k 0=s) (hu:(along l 0 w).getD k 0=(u:Int)) :
 mq l w k=mq l w (k+1)++(byA l (goes l u s)).map (w.take k++·):=by
 have h1:=(jo hc).1
 have hd:w.drop k=s::w.drop (k+1):=by
  rw [List.drop_eq_getElem_cons Kn,<-hs];simp [Kn]
 have ht:w.take (k+1)=w.take k++[s]:=by rw [tsa Kn,<-hs];simp [Kn]
 obtain ⟨n1,n2⟩:=WU hc w (i:=0) omg k (by simpa using hk) s _ hd;simp only [Int.natCast_zero] at n1 n2;rw [hu] at n1 n2;unfold mq;rw [if_pos hk,hd,hu,Int.toNat_natCast,fE,List.map_append]
 congr 1
 by_cases hst:(Tri.step l (u:Int) s).2=true
 ·rw [if_pos hst,if_pos (n1.2 hst),n2 (n1.2 hst),List.map_map,ht];refine List.map_congr_left fun x _=>?_;simp
 ·rw [if_neg hst,if_neg (fun h=>hst (n1.1 h))];rfl
theorem told_start (l:List St) (w:LIn):mq l w 0=fE l 0 w:=by
 have h:=Om l 0 w;have hz:(along l 0 w).getD 0 0=0:=by cases w<;>rfl
 unfold mq;rw [if_pos omg,hz];simp
theorem WV {l:List St} (w:LIn) (t:Nat) (h:walk l 0 w=some (t:Int)):mq l w w.length=(told l t).map (w++·):=by
 obtain ⟨h1,h2⟩:=(DV l w 0).1 _ h;unfold mq;rw [if_pos omg,h2,List.drop_length,List.take_length];rfl
theorem told_none {l:List St} {w:LIn} {j:Nat} (h:(along l 0 w).length<=j):mq l w j=[]:=by
 unfold mq;rw [if_neg omg]

theorem Oq {l:List St} (hc:check l=true) {w:LIn}:∀k,k<=w.length->k<=(along l 0 w).length->mq l w k <+: mq l w 0
 | 0,_,_=>List.prefix_refl _
 | k+1,h1,h2=>by
   have h3:=(jo hc).1
   obtain ⟨u,hu⟩:∃u:Nat,(along l 0 w).getD k 0=(u:Int):=by
    have:=(yK hc w (i:=0) omg k (by rw [Int.natCast_zero];omega)).1;rw [Int.natCast_zero] at this;exact ⟨((along l 0 w).getD k 0).toNat,by omega⟩
   refine List.IsPrefix.trans ?_ (Oq hc k omg omg);rw [Oo hc (k:=k) omg omg rfl hu];exact List.prefix_append _ _

end Wlk
end
section
namespace Wlk
open Tri

theorem getD_mem {l:LLI} {i:Nat} (h:i<l.length):l.getD i []∈l:=by
 rw [gdq,geg h,Option.getD_some];exact List.getElem_mem _
theorem aiG {l:List St} {L:LLI} {er:Int} (h:kE l=(L,er)):(er=0/\check l=true/\L=wds l 0/\L.length<=300/\dK l=L.length)\/(er=100/\check l=false/\L=[])\/(er=81/\check l=true/\L=[]/\dK l=301):=by
 unfold kE at h;unfold dK mny;cases hc:check l
 ·rw [if_pos hc] at h;cases h;exact .inr (.inl ⟨rfl,rfl,rfl⟩)
 ·rw [if_neg (by rw [hc];exact Bool.noConfusion)] at h;rw [if_pos rfl];by_cases h1:300<(wds l 0).length
  ·rw [if_pos h1] at h;cases h;exact .inr (.inr ⟨rfl,rfl,rfl,by omega⟩)
  ·rw [if_neg h1] at h;cases h;exact .inl ⟨rfl,rfl,rfl,by omega,by omega⟩
end Wlk
end
section
theorem z19 {P:Prop} (h:P:=by
 intro u hu he;rcases map1 hu with hu|hu
 ·obtain ⟨b1,b2⟩:=a3 u hu he;refine ⟨Nat.le_trans b1 (Nat.le_max_left _ _),?_⟩;by_cases hl:lessL q z.F=true
  ·simp only [hl,if_true]
   cases hc:lessL u q with
   | false=>rfl
   | true=>rw [qK hc hl] at b2;cases b2
  ·simp only [hl];exact b2
 ·rw [msg hu];refine ⟨Nat.le_max_right _ _,?_⟩;by_cases hl:lessL q z.F=true
  ·simp only [hl,if_true];exact kW _
  ·simp only [hl];simpa using hl):P:=h
theorem z20 {P:Prop} (h:P:=by
 rcases Nat.le_total z.L q.length with hle|hle
 ·exact ⟨q,by simp,hE.symm,by simp [Nat.max_eq_right hle]⟩
 ·exact ⟨y,by simp [a4],a5,by simp [Nat.max_eq_left hle,a6]⟩):P:=h
theorem z21 {P:Prop} (h:P:=by
 by_cases hl:lessL q z.F=true
 ·simp only [hl,if_true];exact hE
 ·simp only [hl];exact a2):P:=h
namespace Daw
open Tri

def ends (ws:LLI) (p:LIn):LLI:=(ws.filter fun w=>decide (p.length<=w.length)&&decide (w.take p.length=p)).map fun w=>w.drop p.length
theorem qW {ws:LLI} {p x:LIn}:x∈ends ws p↔p++x∈ws:=by
 unfold ends;rw [List.mem_map];constructor
 ·rintro ⟨w,hw,rfl⟩;rw [List.mem_filter,Bool.and_eq_true,decide_eq_true_eq,decide_eq_true_eq] at hw
  have:p++w.drop p.length=w:=by
   conv=>lhs;arg 1;rw [<-hw.2.2]
   exact List.take_append_drop _ _
  rw [this];exact hw.1
 ·intro h;refine ⟨p++x,?_,by simp⟩;rw [List.mem_filter,Bool.and_eq_true,decide_eq_true_eq,decide_eq_true_eq];exact ⟨h,by simp,by simp⟩
theorem WW {ws:LLI} (hr:aM ws) (p:LIn):aM (ends ws p):=by
 unfold ends aM;rw [List.pairwise_map];refine List.Pairwise.imp_of_mem ?_ (List.Pairwise.filter _ hr);intro a b ha hb hab;rw [List.mem_filter,Bool.and_eq_true,decide_eq_true_eq,decide_eq_true_eq] at ha hb
 have ea:p++a.drop p.length=a:=by
  conv=>lhs;arg 1;rw [<-ha.2.2]
  exact List.take_append_drop _ _
 have eb:p++b.drop p.length=b:=by
  conv=>lhs;arg 1;rw [<-hb.2.2]
  exact List.take_append_drop _ _
 rw [<-ea,<-eb,Uq] at hab;exact hab
theorem WX {ws:LLI} (hr:aM ws) {p q:LIn}:ends ws p=ends ws q↔∀x,p++x∈ws↔q++x∈ws:=by
 constructor
 ·intro h x;rw [<-qW,<-qW,h]
 ·intro h;exact Ms (WW hr p) (WW hr q) fun x=>by rw [qW,qW];exact h x
theorem DW {ws:LLI} (hr:aM ws) {p q:LIn} (h:ends ws p=ends ws q) (s:Int):ends ws (p++[s])=ends ws (q++[s]):=by
 rw [WX hr] at h ⊢;intro x;have:=h (s::x);simpa using this
theorem Ou {ws:LLI} (hs:Short ws) {p:LIn}:p∈begs ws↔p=[]\/ends ws p≠[]:=by
 rw [yu hs];constructor
 ·rintro (h|⟨w,hw,t,rfl⟩)
  ·exact .inl h
  ·refine .inr fun he=>?_;have:=qW.2 hw;rw [he] at this;cases this
 ·rintro (h|h)
  ·exact .inl h
  ·obtain ⟨x,hx⟩:=List.exists_mem_of_ne_nil _ h;exact .inr ⟨p++x,qW.1 hx,List.prefix_append _ _⟩
theorem Ov (ws:LLI):[]∈begs ws:=by simp [begs]
theorem WY (ws:LLI):ends ws []=ws:=by
 unfold ends;have:(fun w:LIn=>decide (([]:LIn).length<=w.length)&&decide (w.take ([]:LIn).length=[]))=fun _=>true:=by funext w;simp
 rw [this];simp
theorem Jm {ws:LLI} (hs:Short ws) (hr:aM ws) {p q:LIn} (h:ends ws p=ends ws q) (s:Int):p++[s]∈begs ws↔q++[s]∈begs ws:=by
 rw [Ou hs,Ou hs,DW hr h s];simp
theorem aiH {ws:LLI} (hs:Short ws) {q:LIn} (hq:q∈begs ws) (h:ends ws q=ends ws []):q=[]:=by
 rcases (Ou hs).1 hq with h1|h1
 ·exact h1
 ·by_cases hn:q=[]
  ·exact hn
  ·exfalso;have hl:0<q.length:=List.length_pos_iff.2 hn;rw [h,WY] at h1
   have key:∀n:Nat,∃w∈ws,n<=w.length:=by
    intro n
    induction n with
    | zero =>
      obtain ⟨x,hx⟩:=List.exists_mem_of_ne_nil _ h1;exact ⟨x,hx,Nat.zero_le _⟩
    | succ n ih =>
      obtain ⟨w,hw,oP⟩:=ih;have:w∈ends ws q:=by rw [h,WY];exact hw
      exact ⟨q++w,qW.1 this,by simp;omega⟩
   obtain ⟨w,hw,oP⟩:=key 21;have:=hs w hw;omega

structure Kd where
 E:LLI
 L:Nat
 F:LIn
def Kd.no:Kd:=⟨[],0,[]⟩
def dL (l:List Kd) (e:LLI):Option Nat:=l.findIdx? fun k=>decide (k.E=e)
theorem wG {l:List Kd} {e:LLI} {k:Nat} (h:dL l e=some k):k<l.length/\(l.getD k Kd.no).E=e:=by
 unfold dL at h;obtain ⟨h1,h2,_⟩:=List.findIdx?_eq_some_iff_getElem.1 h;refine ⟨h1,?_⟩;have:l.getD k Kd.no=l[k]:=by simp [h1]
 rw [this];exact of_decide_eq_true h2
theorem Jn {l:List Kd} {e:LLI} (h:dL l e=none):∀k∈l,k.E≠e:=by
 unfold dL at h;rw [List.findIdx?_eq_none_iff] at h;intro k hk;have:=h k hk;simpa using this
theorem WZ {l:List Kd} {e:LLI} {k:Nat} (hk:k<l.length) (he:(l.getD k Kd.no).E=e) (hn:∀j,j<k->(l.getD j Kd.no).E≠e):dL l e=some k:=by
 unfold dL;rw [List.findIdx?_eq_some_iff_getElem];have e1:l.getD k Kd.no=l[k]:=by simp [hk]
 refine ⟨hk,by rw [<-e1,he];simp,fun j hj=>?_⟩;have hjl:j<l.length:=omg;have e2:l.getD j Kd.no=l[j]:=by simp [hjl]
 have:=hn j hj;rw [e2] at this;simpa using this
def dN (ws:LLI) (all:List Kd) (q:LIn):List Kd :=
 match dL all (ends ws q) with
 | none=>all++[⟨ends ws q,q.length,q⟩]
 | some k=>all.set k ⟨(all.getD k Kd.no).E,max (all.getD k Kd.no).L q.length,if lessL q (all.getD k Kd.no).F=true then q else (all.getD k Kd.no).F⟩
def dw (a b:Kd):Bool:=decide (a.L<b.L)||decide (a.L=b.L)&&lessL a.F b.F
def ll (out:List Kd) (x:Kd):List Kd:=out.takeWhile (fun a=>dw a x)++x::out.dropWhile (fun a=>dw a x)
def yL (ws:LLI) (l:LLI):List Kd:=l.foldl (dN ws) []
def kinds (ws:LLI):List Kd:=(yL ws (begs ws)).foldl ll []

def wH (ws P:LLI) (k:Kd):Prop:=k.F∈P/\k.E=ends ws k.F/\(∀q∈P,ends ws q=k.E->q.length<=k.L/\lessL q k.F=false)/\∃q∈P,ends ws q=k.E/\q.length=k.L
theorem Ow (ws:LLI):∀(l P:LLI) (all:List Kd),(∀k∈all,wH ws P k)->(∀q∈P,∃k∈all,k.E=ends ws q)->all.Pairwise (fun a b=>a.E≠b.E) ->
 (∀k∈l.foldl (dN ws) all,wH ws (P++l) k)/\(∀q∈P++l,∃k∈l.foldl (dN ws) all,k.E=ends ws q)/\(l.foldl (dN ws) all).Pairwise (fun a b=>a.E≠b.E)
 | [],P,all,h1,h2,h3=>by simpa using ⟨h1,h2,h3⟩
 | q::l,P,all,h1,h2,h3=>by
   have key:(∀k∈dN ws all q,wH ws (P++[q]) k)/\(∀x∈P++[q],∃k∈dN ws all q,k.E=ends ws x)/\(dN ws all q).Pairwise (fun a b=>a.E≠b.E):=by
    unfold dN
    cases hf:dL all (ends ws q) with
    | none =>
      have hno:=Jn hf;simp only;refine ⟨fun k hk=>?_,fun x hx=>?_,?_⟩
      ·rcases map1 hk with hk|hk
       ·obtain ⟨a1,a2,a3,y,a4,a5,a6⟩:=h1 k hk;refine ⟨by simp [a1],a2,fun x hx he=>?_,y,by simp [a4],a5,a6⟩;rcases map1 hx with hx|hx
        ·exact a3 x hx he
        ·rw [msg hx] at he;exact absurd he.symm (hno k hk)
       ·rw [msg hk];refine ⟨by simp,rfl,fun x hx he=>?_,q,by simp,rfl,rfl⟩;rcases map1 hx with hx|hx
        ·obtain ⟨k',hk',he'⟩:=h2 x hx;exact absurd (he'.trans he) (hno k' hk')
        ·rw [msg hx];exact ⟨Nat.le_refl _,kW _⟩
      ·rcases map1 hx with hx|hx
       ·obtain ⟨k,hk,he⟩:=h2 x hx;exact ⟨k,by simp [hk],he⟩
       ·rw [msg hx];exact ⟨⟨ends ws q,q.length,q⟩,by simp,rfl⟩
      ·rw [List.pairwise_append];refine ⟨h3,List.pairwise_singleton _ _,fun a ha b hb=>?_⟩;rw [msg hb];exact hno a ha
    | some k =>
      obtain ⟨hk,hE⟩:=wG hf;simp only;obtain ⟨z,hz⟩:∃z,all.getD k Kd.no=z:=⟨_,rfl⟩;rw [hz] at hE ⊢;have BM:all[k]=z:=by rw [<-hz];simp [hk]
      have Fa:z∈all:=by rw [<-BM];exact List.getElem_mem _
      obtain ⟨a1,a2,a3,y,a4,a5,a6⟩:=h1 z Fa;refine ⟨fun x hx=>?_,fun x hx=>?_,?_⟩
      ·rcases List.mem_or_eq_of_mem_set hx with hx' | rfl
       ·by_cases Fb:x.E=ends ws q
        ·
         obtain ⟨i,hi,rfl⟩:=List.getElem_of_mem hx;have hi':i<all.length:=by simpa using hi
         rw [List.getElem_set] at Fb hx' ⊢;by_cases hik:k=i
         ·rw [if_pos hik];refine ⟨?_,?_,?_,?_⟩
          ·by_cases hl:lessL q z.F=true
           ·simp [hl]
           ·simp [hl,a1]
          ·exact z21
          ·exact z19
          ·exact z20
         ·rw [if_neg hik] at Fb;exfalso;have hij:=h3;rw [List.pairwise_iff_getElem] at hij;rcases Nat.lt_or_gt_of_ne hik with hlt|hgt
          ·exact hij k i hk hi' hlt (by rw [BM,hE,Fb])
          ·exact hij i k hi' hk hgt (by rw [BM,hE,Fb])
        ·obtain ⟨b1,b2,b3,u,b4,b5,b6⟩:=h1 x hx';refine ⟨by simp [b1],b2,fun v hv he=>?_,u,by simp [b4],b5,b6⟩;rcases map1 hv with hv|hv
         ·exact b3 v hv he
         ·rw [msg hv] at he;exact absurd he.symm Fb
       ·refine ⟨?_,?_,?_,?_⟩
        ·by_cases hl:lessL q z.F=true
         ·simp [hl]
         ·simp [hl,a1]
        ·exact z21
        ·exact z19
        ·exact z20
      ·have hx2:∃k'∈all,k'.E=ends ws x:=by
        rcases map1 hx with hx|hx
        ·exact h2 x hx
        ·rw [msg hx];exact ⟨z,Fa,hE⟩
       obtain ⟨k',hk',he'⟩:=hx2;obtain ⟨i,hi,rfl⟩:=List.getElem_of_mem hk';by_cases hik:k=i
       ·subst hik;refine ⟨⟨z.E,max z.L q.length,if lessL q z.F=true then q else z.F⟩,List.mem_set hk _,?_⟩;rw [<-he',BM]
       ·refine ⟨all[i],?_,he'⟩;rw [List.mem_iff_getElem];exact ⟨i,by simpa using hi,by rw [List.getElem_set,if_neg hik]⟩
      ·generalize hy':(⟨z.E,max z.L q.length,if lessL q z.F=true then q else z.F⟩:Kd)=y';have Ko:y'.E=z.E:=by rw [<-hy']
       rw [List.pairwise_iff_getElem];intro i j hi hj hij;have hi':i<all.length:=by simpa using hi
       have hj':j<all.length:=by simpa using hj
       have h0:=List.pairwise_iff_getElem.1 h3 i j hi' hj' hij;rw [List.getElem_set,List.getElem_set];by_cases hki:k=i
       ·rw [if_pos hki,if_neg omg,Ko];subst hki;rw [BM] at h0;exact h0
       ·rw [if_neg hki];by_cases hkj:k=j
        ·rw [if_pos hkj,Ko];subst hkj;rw [BM] at h0;exact h0
        ·rw [if_neg hkj];exact h0
   obtain ⟨k1,k2,k3⟩:=key;have:=Ow ws l (P++[q]) (dN ws all q) k1 k2 k3;simpa using this

theorem Xa {a b c:Kd} (h1:dw a b=true) (h2:dw b c=true):dw a c=true:=by
 unfold dw at *;simp only [Bool.or_eq_true,Bool.and_eq_true,decide_eq_true_eq] at *;rcases h1 with h1|⟨h1,h1'⟩<;>rcases h2 with h2|⟨h2,h2'⟩
 ·exact .inl omg
 ·exact .inl omg
 ·exact .inl omg
 ·exact .inr ⟨by omega,qK h1' h2'⟩
theorem Ox (a:Kd):dw a a=false:=by
 unfold dw;simp [kW]
theorem Xb {a b:Kd} (h:a.F≠b.F) (h1:dw a b=false):dw b a=true:=by
 unfold dw at *;simp only [Bool.or_eq_false_iff,Bool.and_eq_false_iff,decide_eq_false_iff_not,Bool.or_eq_true,Bool.and_eq_true,decide_eq_true_eq] at *;obtain ⟨h2,h3⟩:=h1;rcases Nat.lt_or_ge b.L a.L with hlt|hge
 ·exact .inl hlt
 ·have e:a.L=b.L:=omg;rcases h3 with h3|h3
  ·exact absurd e h3
  ·refine .inr ⟨e.symm,?_⟩
   cases hc:lessL b.F a.F with
   | true=>rfl
   | false=>exact absurd (uB h3 hc) h
theorem Xc (out:List Kd) (x:Kd):(ll out x).Perm (x::out):=by
 unfold ll;refine List.perm_middle.trans ?_;rw [List.takeWhile_append_dropWhile]
theorem aiI {out:List Kd} {x:Kd} (h:out.Pairwise fun a b=>dw a b=true) (hx:∀a∈out,a.F≠x.F):(ll out x).Pairwise fun a b=>dw a b=true:=by
 induction out with
 | nil=>simp [ll]
 | cons a out ih =>
   rw [List.pairwise_cons] at h;unfold ll;by_cases ha:dw a x=true
   ·simp only [List.takeWhile_cons,List.dropWhile_cons,ha,if_true,List.cons_append];rw [List.pairwise_cons];refine ⟨fun b hb=>?_,ih h.2 (fun b hb=>hx b (by simp [hb]))⟩;have hb':b∈x::out:=(Xc out x).mem_iff.1 hb;rcases List.mem_cons.1 hb' with rfl|hb'
    ·exact ha
    ·exact h.1 b hb'
   ·have ha':dw a x=false:=by simpa using ha
    simp only [List.takeWhile_cons,List.dropWhile_cons,ha',Bool.false_eq_true,if_false,List.nil_append];rw [List.pairwise_cons];have hxa:dw x a=true:=Xb (hx a smp) (by simpa using ha);refine ⟨fun b hb=>?_,List.pairwise_cons.2 h⟩;rcases List.mem_cons.1 hb with rfl|hb
    ·exact hxa
    ·exact Xa hxa (h.1 b hb)
theorem Xd:∀(l out:List Kd),(out.Pairwise fun a b=>dw a b=true)->(l.Pairwise fun a b=>a.F≠b.F)->(∀a∈out,∀b∈l,a.F≠b.F)->((l.foldl ll out).Pairwise fun a b=>dw a b=true)/\(l.foldl ll out).Perm (out++l)
 | [],out,h,_,_=>by simpa using h
 | x::l,out,h,h1,h2=>by
   rw [List.pairwise_cons] at h1;have h3:=aiI h (fun a ha=>h2 a ha x smp);have hp:=Xc out x
   have:=Xd l (ll out x) h3 h1.2 (fun a ha b hb=>by
    rcases List.mem_cons.1 (hp.mem_iff.1 ha) with rfl|ha
    ·exact h1.1 b hb
    ·exact h2 a ha b (by simp [hb]))
   refine ⟨this.1,this.2.trans ?_⟩;have h4:(ll out x++l).Perm ((x::out)++l):=hp.append_right l;exact h4.trans (by simpa using (List.perm_middle (a:=x) (l₁:=out) (l₂:=l)).symm)

theorem lq (ws:LLI):(kinds ws).Pairwise (fun a b=>dw a b=true)/\(∀k∈kinds ws,wH ws (begs ws) k)/\(∀q∈begs ws,∃k∈kinds ws,k.E=ends ws q)/\(kinds ws).Pairwise (fun a b=>a.E≠b.E):=by
 have h:=Ow ws (begs ws) [] [] smp smp smp;rw [List.nil_append] at h;obtain ⟨h1,h2,h3⟩:=h
 have hF:(yL ws (begs ws)).Pairwise fun a b=>a.F≠b.F:=by
  refine List.Pairwise.imp_of_mem ?_ h3;intro a b ha hb hne e;have e1:=(h1 a ha).2.1;have e2:=(h1 b hb).2.1;exact hne (by rw [e1,e2,e])
 have hs:=Xd (yL ws (begs ws)) [] List.Pairwise.nil hF smp;rw [List.nil_append] at hs;refine ⟨hs.1,fun k hk=>h1 k (hs.2.mem_iff.1 hk),fun q hq=>?_,(hs.2.pairwise_iff (fun {a b} h h'=>h h'.symm)).2 h3⟩;obtain ⟨k,hk,he⟩:=h2 q hq;exact ⟨k,hs.2.mem_iff.2 hk,he⟩
theorem Xe:∀{l l':List Kd},(l.Pairwise fun a b=>dw a b=true)->(l'.Pairwise fun a b=>dw a b=true)->(∀x,x∈l↔x∈l')->l=l'
 | [],[],_,_,_=>rfl
 | [],y::l',_,_,h=>absurd ((h y).2 smp) smp
 | x::l,[],_,_,h=>absurd ((h x).1 smp) smp
 | x::l,y::l',h1,h2,h=>by
   rw [List.pairwise_cons] at h1 h2
   have hxy:x=y:=by
    rcases List.mem_cons.1 ((h x).1 smp) with e|e
    ·exact e
    ·rcases List.mem_cons.1 ((h y).2 smp) with e' | e'
     ·exact e'.symm
     ·have:=Xa (h1.1 y e') (h2.1 x e);rw [Ox] at this;cases this
   subst hxy;rw [Xe h1.2 h2.2 fun z=>?_];constructor
   ·intro hz;rcases List.mem_cons.1 ((h z).1 (by simp [hz])) with e|e
    ·subst e;have:=h1.1 z hz;rw [Ox] at this;cases this
    ·exact e
   ·intro hz;rcases List.mem_cons.1 ((h z).2 (by simp [hz])) with e|e
    ·subst e;have:=h2.1 z hz;rw [Ox] at this;cases this
    ·exact e
theorem Xf {ws P:LLI} {a b:Kd} (ha:wH ws P a) (hb:wH ws P b) (h:a.E=b.E):a=b:=by
 obtain ⟨a1,a2,a3,x,a4,a5,a6⟩:=ha;obtain ⟨b1,b2,b3,y,b4,b5,b6⟩:=hb
 have hL:a.L=b.L:=by
  have h1:=(b3 x a4 (by rw [a5,h])).1;have h2:=(a3 y b4 (by rw [b5,h])).1;omega
 have hF:a.F=b.F:=uB (b3 a.F a1 (by rw [<-a2,h])).2 (a3 b.F b1 (by rw [<-b2,h])).2;cases a;cases b;simp only at h hL hF;subst h hL hF;rfl

end Daw
end
section
theorem z22 {P:Prop} (h:P:=by
 obtain ⟨k,hk,he⟩:=(lq ws).2.2.1 q hq
 exact absurd he (Jn hf k hk)):P:=h
namespace Daw
open Tri

def cls (ws:LLI) (q:LIn):Nat:=(dL (kinds ws) (ends ws q)).getD 0
def lu (ws:LLI) (a:Int × Int):Int × Int:=(a.1,(cls ws ((begs ws).getD a.2.toNat []):Int))
def bL (ws:LLI):List St:=(kinds ws).map fun k=>⟨decide (k.F∈ws),(aP (begs ws) k.F).map (lu ws)⟩
theorem Oy (ws:LLI):(bL ws).length=(kinds ws).length:=by simp [bL]
theorem ni {l:List Kd} {i:Nat} (h:i<l.length):l.getD i Kd.no=l[i]:=by simp [h]
theorem yM {l:List Kd} {i:Nat} (h:i<l.length):l.getD i Kd.no∈l:=by rw [ni h];exact List.getElem_mem _
theorem Xg {ws:LLI} {i j:Nat} (hi:i<(kinds ws).length) (hj:j<(kinds ws).length) (h:((kinds ws).getD i Kd.no).E=((kinds ws).getD j Kd.no).E):i=j:=by
 have hp:=(lq ws).2.2.2;rw [List.pairwise_iff_getElem] at hp;rw [ni hi,ni hj] at h;rcases Nat.lt_trichotomy i j with h' | h' | h'
 ·exact absurd h (hp i j hi hj h')
 ·exact h'
 ·exact absurd h.symm (hp j i hj hi h')
theorem nk {ws:LLI} {q:LIn} (hq:q∈begs ws):cls ws q<(kinds ws).length/\((kinds ws).getD (cls ws q) Kd.no).E=ends ws q:=by
 unfold cls
 cases hf:dL (kinds ws) (ends ws q) with
 | none =>
   exact z22
 | some i=>exact wG hf
theorem aiJ {ws:LLI} {q:LIn} (hq:q∈begs ws):dL (kinds ws) (ends ws q)=some (cls ws q):=by
 unfold cls
 cases hf:dL (kinds ws) (ends ws q) with
 | none =>
   exact z22
 | some i=>rfl
theorem Xh {ws:LLI} {p q:LIn} (h:ends ws p=ends ws q):cls ws p=cls ws q:=by unfold cls;rw [h]
theorem yN {ws:LLI} {i:Nat} (hi:i<(kinds ws).length):((kinds ws).getD i Kd.no).F∈begs ws/\cls ws ((kinds ws).getD i Kd.no).F=i/\ends ws ((kinds ws).getD i Kd.no).F=((kinds ws).getD i Kd.no).E:=by
 obtain ⟨h1,h2,_⟩:=(lq ws).2.1 _ (yM hi);refine ⟨h1,?_,h2.symm⟩;exact Xg (nk h1).1 hi (by rw [(nk h1).2];exact h2.symm)
theorem Jo {ws:LLI} {i:Nat} (hi:i<(kinds ws).length):(bL ws).getD i St.no=⟨decide (((kinds ws).getD i Kd.no).F∈ws),(aP (begs ws) ((kinds ws).getD i Kd.no).F).map (lu ws)⟩:=by
 simp [bL,hi]
theorem Xi {ws:LLI} {p q:LIn} (h:ends ws p=ends ws q):p∈ws↔q∈ws:=by
 have h1:=qW (ws:=ws) (p:=p) (x:=[]);have h2:=qW (ws:=ws) (p:=q) (x:=[]);rw [List.append_nil] at h1 h2;rw [<-h1,<-h2,h]
theorem Jp {ws:LLI} (hs:Short ws) (hr:aM ws) {q:LIn} (hq:q∈begs ws) {a:Int × Int}:a∈((bL ws).getD (cls ws q) St.no).arcs↔q++[a.1]∈begs ws/\a.2=(cls ws (q++[a.1]):Int):=by
 obtain ⟨hc,hE⟩:=nk hq;obtain ⟨f1,f2,f3⟩:=yN hc;rw [Jo hc];generalize ((kinds ws).getD (cls ws q) Kd.no).F=F at f1 f2 f3;have hF:ends ws F=ends ws q:=by rw [f3,hE]
 show a∈(aP (begs ws) F).map (lu ws)↔_;rw [List.mem_map];constructor
 ·rintro ⟨b,hb,rfl⟩;obtain ⟨k,hk,h1,h2⟩:=mY.1 hb;have hm:F++[b.1]∈begs ws:=by rw [<-h1];exact List.getElem_mem _
  refine ⟨(Jm hs hr hF b.1).1 hm,?_⟩;show (cls ws ((begs ws).getD b.2.toNat []):Int)=_
  have e:(begs ws).getD b.2.toNat []=F++[b.1]:=by
   rw [h2,Int.toNat_natCast,<-h1];simp [hk]
  rw [e,Xh (DW hr hF b.1)];rfl
 ·rintro ⟨h1,h2⟩;have hm:=(Jm hs hr hF a.1).2 h1;obtain ⟨k,hk,e⟩:=List.getElem_of_mem hm;refine ⟨(a.1,(k:Int)),mY.2 ⟨k,hk,e,rfl⟩,?_⟩;unfold lu
  have e2:(begs ws).getD (k:Int).toNat []=F++[a.1]:=by
   rw [Int.toNat_natCast,<-e];simp [hk]
  simp only [e2,Xh (DW hr hF a.1),<-h2]
theorem aiK {ws:LLI} {i:Nat} (hi:i<(kinds ws).length):(((bL ws).getD i St.no).arcs).Pairwise fun a b=>a.1<b.1:=by
 rw [Jo hi];show ((aP (begs ws) _).map (lu ws)).Pairwise _;rw [List.pairwise_map];exact (MV (wh ws) _).imp fun h=>h.1
theorem aiL {ws:LLI} {q:LIn} (hq:q∈begs ws):((bL ws).getD (cls ws q) St.no).final=decide (q∈ws):=by
 obtain ⟨hc,hE⟩:=nk hq;obtain ⟨f1,f2,f3⟩:=yN hc;rw [Jo hc];exact decide_eq_decide.2 (Xi (by rw [f3,hE]))
theorem aiM {ws:LLI} (hs:Short ws) (hr:aM ws) {q:LIn} {s:Int} (hq:q∈begs ws) (vv:q++[s]∈begs ws):cls ws q<cls ws (q++[s]):=by
 obtain ⟨hc,hE⟩:=nk hq;obtain ⟨hc',hE'⟩:=nk vv;obtain ⟨_,_,_,y,y1,y2,y3⟩:=(lq ws).2.1 _ (yM hc);obtain ⟨_,_,z3,_⟩:=(lq ws).2.1 _ (yM hc');have hyq:ends ws y=ends ws q:=by rw [y2,hE]
 have hy:=(z3 (y++[s]) ((Jm hs hr hyq s).2 vv) (by rw [hE'];exact DW hr hyq s)).1;rw [List.length_append,y3] at hy
 have hL:((kinds ws).getD (cls ws q) Kd.no).L<((kinds ws).getD (cls ws (q++[s])) Kd.no).L:=by
  have h:((kinds ws).getD (cls ws q) Kd.no).L+([s]:LIn).length<=((kinds ws).getD (cls ws (q++[s])) Kd.no).L:=hy;rw [List.length_singleton] at h;omega
 rcases Nat.lt_or_ge (cls ws q) (cls ws (q++[s])) with h|h
 ·exact h
 ·exfalso;rcases Nat.lt_or_eq_of_le h with h|h
  ·have hp:=(lq ws).1;rw [List.pairwise_iff_getElem] at hp;have:=hp _ _ hc' hc h;rw [ni hc,ni hc'] at hL;unfold dw at this;simp only [Bool.or_eq_true,Bool.and_eq_true,decide_eq_true_eq] at this;rcases this with h1|⟨h1,_⟩<;>omega
  ·rw [h] at hL;omega
theorem aiN {ws:LLI} (hs:Short ws):cls ws []=0:=by
 obtain ⟨hc,hE⟩:=nk (Ov ws);obtain ⟨_,_,_,y,y1,y2,y3⟩:=(lq ws).2.1 _ (yM hc);have hy0:y=[]:=aiH hs y1 (by rw [y2,hE]);rcases Nat.eq_zero_or_pos (cls ws []) with h|h
 ·exact h
 ·exfalso;have h0:0<(kinds ws).length:=omg;have hp:=(lq ws).1;rw [List.pairwise_iff_getElem] at hp;have:=hp 0 _ h0 hc h;unfold dw at this;simp only [Bool.or_eq_true,Bool.and_eq_true,decide_eq_true_eq] at this;have hL:((kinds ws)[cls ws []]).L=0:=by rw [<-ni hc,<-y3,hy0];rfl
  rcases this with h1|⟨h1,h2⟩
  ·omega
  ·
   obtain ⟨f1,f2,f3⟩:=yN h0;obtain ⟨_,_,w3,_⟩:=(lq ws).2.1 _ (yM h0);have hlen:=(w3 _ f1 f3).1;rw [ni h0] at hlen f2;rw [h1,hL] at hlen;have:((kinds ws)[0]).F=[]:=List.eq_nil_of_length_eq_zero omg;rw [this] at f2;omega
theorem Xj (ws:LLI):0<(kinds ws).length:=by have:=(nk (Ov ws)).1;omega
theorem Xk (ws:LLI):(kinds ws).length<=(begs ws).length:=by
 have hn:((kinds ws).map Kd.F).Nodup:=by
  unfold List.Nodup;rw [List.pairwise_map];refine List.Pairwise.imp_of_mem ?_ (lq ws).2.2.2;intro a b ha hb hne e;exact hne (by rw [((lq ws).2.1 a ha).2.1,((lq ws).2.1 b hb).2.1,e])
 have hp:((kinds ws).map Kd.F).Perm ((begs ws).filter fun q=>decide (q∈(kinds ws).map Kd.F)):=by
  refine (List.perm_ext_iff_of_nodup hn (List.Pairwise.filter _ (IL ws))).2 fun x=>?_;rw [List.mem_filter,decide_eq_true_eq];refine ⟨fun h=>⟨?_,h⟩,fun h=>h.2⟩;obtain ⟨k,hk,rfl⟩:=List.mem_map.1 h;exact ((lq ws).2.1 k hk).1
 have h1:=hp.length_eq;have h2:=List.length_filter_le (fun q=>decide (q∈(kinds ws).map Kd.F)) (begs ws);rw [List.length_map] at h1;omega

theorem aiO {ws:LLI} (hs:Short ws) (hr:aM ws) (hg:∀w∈ws,Utf.bf w=true) (hl:ws.length<=300):check (bL ws)=true:=by
 unfold check;have h1:=Dt ws;have h2:=Xj ws;have h3:=Oy ws;have h4:=Xk ws;rw [MZ fun k hk=>?_]
 ·rw [decide_eq_true (show 1<=(bL ws).length by omega),decide_eq_true (show (bL ws).length<=6001 by omega)];rfl
 ·have hkk:k<(kinds ws).length:=omg;obtain ⟨f1,f2,f3⟩:=yN hkk;have e:(bL ws)[k]=(bL ws).getD k St.no:=by simp [hk]
  rw [e];refine MX (fun a ha=>?_) (aiK hkk) (fun q hq=>by cases hq);rw [<-f2] at ha;obtain ⟨a1,a2⟩:=(Jp hs hr f1).1 ha;have hlt:=aiM hs hr f1 a1;have hc:=(nk a1).1;rw [f2] at hlt;refine ⟨?_,by rw [a2];omega,by rw [a2,h3];exact Int.ofNat_lt.2 hc⟩;rcases (yu hs).1 a1 with h|⟨w,hw,t,ht⟩
  ·simp at h
  ·have:=hg w hw;unfold Utf.bf at this;exact List.all_eq_true.1 this a.1 (by rw [<-ht];simp)

theorem aiP {ws:LLI} (hs:Short ws) (hr:aM ws) {q:LIn} {s:Int} (hq:q∈begs ws) :
 (q++[s]∈begs ws->Tri.step (bL ws) (cls ws q:Int) s=((cls ws (q++[s]):Int),true))/\(q++[s]∉begs ws->Tri.step (bL ws) (cls ws q:Int) s=(0,false)):=by
 have hc:=(nk hq).1
 have hst:Tri.step (bL ws) (cls ws q:Int) s=match ((bL ws).getD (cls ws q) St.no).arcs.find? fun a=>decide (a.1=s) with
  | some a=>(a.2,true)
  | none=>(0,false):=by
  unfold Tri.step;have hl:=Oy ws;rw [if_neg omg,Int.toNat_natCast];try rfl
 rw [hst];constructor
 ·intro h
  cases hf:((bL ws).getD (cls ws q) St.no).arcs.find? fun a=>decide (a.1=s) with
  | none =>
    have h':=List.find?_eq_none.1 hf (s,(cls ws (q++[s]):Int)) ((Jp hs hr hq).2 ⟨h,rfl⟩);simp at h'
  | some a =>
    have h1:a.1=s:=of_decide_eq_true (List.find?_some (p:=fun a:Int × Int=>decide (a.1=s)) hf);have h2:=((Jp hs hr hq).1 (List.mem_of_find?_eq_some hf)).2;rw [h1] at h2;simp [h2]
 ·intro h
  cases hf:((bL ws).getD (cls ws q) St.no).arcs.find? fun a=>decide (a.1=s) with
  | none=>rfl
  | some a =>
    have h1:a.1=s:=of_decide_eq_true (List.find?_some (p:=fun a:Int × Int=>decide (a.1=s)) hf);have h2:=((Jp hs hr hq).1 (List.mem_of_find?_eq_some hf)).1;rw [h1] at h2;exact absurd h2 h
theorem Xl {ws:LLI} (hs:Short ws) (hr:aM ws):∀(w:LIn) {p:LIn} (_:p∈begs ws),
 (p++w∈begs ws->walk (bL ws) (cls ws p:Int) w=some (cls ws (p++w):Int))/\(p++w∉begs ws->walk (bL ws) (cls ws p:Int) w=none)
 | [],p,hp=>⟨fun _=>by rw [List.append_nil];rfl,fun h=>absurd (by rw [List.append_nil];exact hp) h⟩
 | s::w,p,hp=>by
   obtain ⟨h1,h2⟩:=aiP hs hr (s:=s) hp;have e:p++s::w=(p++[s])++w:=smp;by_cases hm:p++[s]∈begs ws
   ·have h3:=h1 hm;obtain ⟨h4,h5⟩:=Xl hs hr w hm;rw [e];unfold walk;rw [h3];exact ⟨fun h=>by simpa using h4 h,fun h=>by simpa using h5 h⟩
   ·have h3:=h2 hm;have hno:p++s::w∉begs ws:=fun h=>hm (MQ hs h (by rw [e];exact List.prefix_append _ _));refine ⟨fun h=>absurd h hno,fun _=>?_⟩;unfold walk;rw [h3];simp
theorem Xm {ws:LLI} (hs:Short ws) (hr:aM ws) (w:LIn):(w∈begs ws->walk (bL ws) 0 w=some (cls ws w:Int))/\(w∉begs ws->walk (bL ws) 0 w=none):=by
 have h:=Xl hs hr w (Ov ws);rw [aiN hs] at h;simpa using h

end Daw
end
section
namespace Daw
open Tri

def aI (ws:LLI) (i:Nat):List Kd:=yL ws ((begs ws).drop i).reverse
def jN (ws:LLI):List Kd:=aI ws 0
def num (ws:LLI) (q:LIn):Nat:=(dL (jN ws) (ends ws q)).getD 0
theorem JG {l:List Kd} {e:LLI} {k:Nat}:dL l e=some k↔k<l.length/\(l.getD k Kd.no).E=e/\∀j,j<k->(l.getD j Kd.no).E≠e:=by
 constructor
 ·intro h;obtain ⟨h1,h2⟩:=wG h;refine ⟨h1,h2,fun j hj=>?_⟩;unfold dL at h;have h3:=(List.findIdx?_eq_some_iff_getElem.1 h).2.2 j hj;have:l.getD j Kd.no=l[j]:=by simp [show j<l.length by omega]
  rw [this];simpa using h3
 ·rintro ⟨h1,h2,h3⟩;exact WZ h1 h2 h3
theorem Yh {ws:LLI} {all:List Kd} {q:LIn} {j:Nat} (hj:j<all.length):((dN ws all q).getD j Kd.no).E=(all.getD j Kd.no).E/\all.length<=(dN ws all q).length:=by
 unfold dN
 cases hf:dL all (ends ws q) with
 | none =>
   simp only [];refine ⟨?_,by simp⟩;simp only [gdq];rw [List.getElem?_append_left hj]
 | some k =>
   simp only [];refine ⟨?_,by simp⟩;simp only [gdq,List.getElem?_set];by_cases h:k=j
   ·subst h;simp [hj]
   ·rw [if_neg h]
theorem akD {ws:LLI} {all:List Kd} {q:LIn} {e:LLI} {k:Nat} (h:dL all e=some k):dL (dN ws all q) e=some k:=by
 obtain ⟨h1,h2,h3⟩:=JG.1 h;obtain ⟨g1,g2⟩:=Yh (ws:=ws) (q:=q) h1;refine JG.2 ⟨by omega,by rw [g1,h2],fun j hj=>?_⟩;rw [(Yh (ws:=ws) (q:=q) (show j<all.length by omega)).1];exact h3 j hj
theorem JH (ws:LLI):aI ws (begs ws).length=[]:=by simp [aI,yL]
theorem JI {ws:LLI} {i:Nat} (hi:i<(begs ws).length):aI ws i=dN ws (aI ws (i+1)) ((begs ws)[i]):=by
 unfold aI yL;rw [List.drop_eq_getElem_cons hi,List.reverse_cons,List.foldl_append];rfl
theorem Pe {ws:LLI}:∀(i:Nat) {e:LLI} {k:Nat},dL (aI ws i) e=some k->dL (jN ws) e=some k
 | 0,_,_,h=>h
 | i+1,e,k,h=>by
   by_cases hi:i<(begs ws).length
   ·refine Pe i ?_;rw [JI hi];exact akD h
   ·have:aI ws (i+1)=[]:=by unfold aI;rw [List.drop_eq_nil_of_le omg];rfl
    rw [this] at h;cases h
theorem Pf (ws:LLI) (i:Nat):(∀k∈aI ws i,wH ws ((begs ws).drop i).reverse k)/\(∀q∈(begs ws).drop i,∃k∈aI ws i,k.E=ends ws q)/\(aI ws i).Pairwise (fun a b=>a.E≠b.E):=by
 have h:=Ow ws ((begs ws).drop i).reverse [] [] smp smp smp;rw [List.nil_append] at h;exact ⟨h.1,fun q hq=>h.2.1 q (List.mem_reverse.2 hq),h.2.2⟩
theorem Bb (ws:LLI):(∀k∈jN ws,wH ws (begs ws) k)/\(∀q∈begs ws,∃k∈jN ws,k.E=ends ws q)/\(jN ws).Pairwise (fun a b=>a.E≠b.E):=by
 obtain ⟨h1,h2,h3⟩:=Pf ws 0;refine ⟨fun k hk=>?_,fun q hq=>h2 q (by simpa using hq),h3⟩;obtain ⟨a1,a2,a3,x,a4,a5,a6⟩:=h1 k hk;refine ⟨by simpa using a1,a2,fun q hq=>a3 q (by simpa using hq),x,by simpa using a4,a5,a6⟩
theorem Pg {ws:LLI} {q:LIn} (hq:q∈begs ws):dL (jN ws) (ends ws q)=some (num ws q):=by
 unfold num
 cases hf:dL (jN ws) (ends ws q) with
 | none =>
   obtain ⟨k,hk,he⟩:=(Bb ws).2.1 q hq;exact absurd he (Jn hf k hk)
 | some k=>rfl
theorem yS {ws:LLI} {q:LIn} (hq:q∈begs ws):num ws q<(jN ws).length/\((jN ws).getD (num ws q) Kd.no).E=ends ws q:=wG (Pg hq)
theorem akE {ws:LLI} {p q:LIn} (hp:p∈begs ws) (hq:q∈begs ws):num ws p=num ws q↔ends ws p=ends ws q:=by
 constructor
 ·intro h;rw [<-(yS hp).2,<-(yS hq).2,h]
 ·intro h;unfold num;rw [h]
theorem akF {ws:LLI} {i:Nat} {q:LIn} (hi:i<(begs ws).length) (hq:(begs ws)[i]=q) (hf:dL (aI ws (i+1)) (ends ws q)=none) :
 aI ws i=aI ws (i+1)++[⟨ends ws q,q.length,q⟩]/\num ws q=(aI ws (i+1)).length:=by
 have e:aI ws i=aI ws (i+1)++[⟨ends ws q,q.length,q⟩]:=by
  rw [JI hi,hq];unfold dN;rw [hf]
 refine ⟨e,?_⟩;have hn:=Jn hf
 have h1:dL (aI ws i) (ends ws q)=some (aI ws (i+1)).length:=by
  rw [e];refine JG.2 ⟨by simp,by simp,fun j hj=>?_⟩;rw [gdq,List.getElem?_append_left hj,geg hj,Option.getD_some];exact hn _ (List.getElem_mem _)
 have h2:=Pe i h1;have hm:q∈begs ws:=by rw [<-hq];exact List.getElem_mem _
 rw [Pg hm] at h2;simpa using h2
theorem akG {ws:LLI} {i k:Nat} {q:LIn} (hi:i<(begs ws).length) (hq:(begs ws)[i]=q) (hf:dL (aI ws (i+1)) (ends ws q)=some k) :
 k<(aI ws (i+1)).length/\num ws q=k/\aI ws i=(aI ws (i+1)).set k ⟨((aI ws (i+1)).getD k Kd.no).E,max ((aI ws (i+1)).getD k Kd.no).L q.length,if lessL q ((aI ws (i+1)).getD k Kd.no).F=true then q else ((aI ws (i+1)).getD k Kd.no).F⟩:=by
 have e:aI ws i=(aI ws (i+1)).set k ⟨((aI ws (i+1)).getD k Kd.no).E,max ((aI ws (i+1)).getD k Kd.no).L q.length,if lessL q ((aI ws (i+1)).getD k Kd.no).F=true then q else ((aI ws (i+1)).getD k Kd.no).F⟩:=by
  rw [JI hi,hq];unfold dN;rw [hf]
 refine ⟨(wG hf).1,?_,e⟩;have h2:=Pe (i+1) hf;have hm:q∈begs ws:=by rw [<-hq];exact List.getElem_mem _
 rw [Pg hm] at h2;simpa using h2
theorem Ph (ws:LLI):∀i,i<=(begs ws).length->(aI ws i).length+i<=(begs ws).length:=by
 have key:∀d i,i+d=(begs ws).length->(aI ws i).length<=d:=by
  intro d
  induction d with
  | zero=>intro i hi;rw [Nat.add_zero] at hi;subst hi;rw [JH];exact Nat.le_refl _
  | succ d ih =>
    intro i hi;have:=ih (i+1) omg;rw [JI omg];unfold dN
    cases dL (aI ws (i+1)) (ends ws ((begs ws)[i])) with
    | none=>simp;omega
    | some k=>simp;omega
 intro i hi;have:=key ((begs ws).length-i) i omg;omega

def Bc (ws:LLI) (a:Int × Int):Int × Int:=(a.1,(num ws ((begs ws).getD a.2.toNat []):Int))
def stN (ws:LLI) (q:LIn):St:=⟨decide (q∈ws),(aP (begs ws) q).map (Bc ws)⟩
theorem Yi:∀{l l':List (Int × Int)},(l.Pairwise fun a b=>a.1<b.1)->(l'.Pairwise fun a b=>a.1<b.1)->(∀x,x∈l↔x∈l')->l=l'
 | [],[],_,_,_=>rfl
 | [],y::l',_,_,h=>absurd ((h y).2 smp) smp
 | x::l,[],_,_,h=>absurd ((h x).1 smp) smp
 | x::l,y::l',h1,h2,h=>by
   rw [List.pairwise_cons] at h1 h2
   have hxy:x=y:=by
    rcases List.mem_cons.1 ((h x).1 smp) with e|e
    ·exact e
    ·rcases List.mem_cons.1 ((h y).2 smp) with e' | e'
     ·exact e'.symm
     ·have a:=h1.1 y e';have b:=h2.1 x e;omega
   subst hxy;rw [Yi h1.2 h2.2 fun z=>?_];constructor
   ·intro hz;rcases List.mem_cons.1 ((h z).1 (by simp [hz])) with e|e
    ·subst e;exact absurd (h1.1 z hz) omg
    ·exact e
   ·intro hz;rcases List.mem_cons.1 ((h z).2 (by simp [hz])) with e|e
    ·subst e;exact absurd (h2.1 z hz) omg
    ·exact e
theorem Eb {ws:LLI} {q:LIn} {a:Int × Int}:a∈(stN ws q).arcs↔q++[a.1]∈begs ws/\a.2=(num ws (q++[a.1]):Int):=by
 unfold stN;simp only [List.mem_map];constructor
 ·rintro ⟨b,hb,rfl⟩;obtain ⟨k,hk,h1,h2⟩:=mY.1 hb;have hm:q++[b.1]∈begs ws:=by rw [<-h1];exact List.getElem_mem _
  refine ⟨hm,?_⟩;show (num ws ((begs ws).getD b.2.toNat []):Int)=_
  have e:(begs ws).getD b.2.toNat []=q++[b.1]:=by
   rw [h2,Int.toNat_natCast,<-h1];simp [hk]
  rw [e];rfl
 ·rintro ⟨h1,h2⟩;obtain ⟨k,hk,e⟩:=List.getElem_of_mem h1;refine ⟨(a.1,(k:Int)),mY.2 ⟨k,hk,e,rfl⟩,?_⟩;unfold Bc
  have e2:(begs ws).getD (k:Int).toNat []=q++[a.1]:=by
   rw [Int.toNat_natCast,<-e];simp [hk]
  simp only [e2,<-h2]
theorem Yj {ws:LLI} {q:LIn}:(stN ws q).arcs.Pairwise fun a b=>a.1<b.1:=by
 show ((aP (begs ws) q).map (Bc ws)).Pairwise _;rw [List.pairwise_map];exact (MV (wh ws) _).imp fun h=>h.1
theorem Yk {ws:LLI} (hs:Short ws) (_hr:aM ws):∀(x:LIn) {p q:LIn} (_:p∈begs ws) (_:q∈begs ws),stN ws p=stN ws q->p++x∈ws->q++x∈ws
 | [],p,q,hp,hq,h,hx=>by
   have h1:(stN ws p).final=(stN ws q).final:=by rw [h]
   unfold stN at h1;simp only at h1;rw [List.append_nil] at hx ⊢;rw [decide_eq_true hx] at h1;exact of_decide_eq_true h1.symm
 | s::x,p,q,hp,hq,h,hx=>by
   have hps:p++[s]∈begs ws:=MQ hs (UJ hs hx) (by rw [show p++s::x=(p++[s])++x by simp];exact List.prefix_append _ _);have ha:=(Eb (ws:=ws) (q:=p) (a:=(s,(num ws (p++[s]):Int)))).2 ⟨hps,rfl⟩;rw [h] at ha;obtain ⟨h1,h2⟩:=Eb.1 ha;simp only at h1 h2;have hE:ends ws (p++[s])=ends ws (q++[s]):=(akE hps h1).1 omg;have:x∈ends ws (p++[s]):=qW.2 (by simpa using hx);rw [hE] at this;simpa using qW.1 this
theorem Yl {ws:LLI} (hs:Short ws) (hr:aM ws) {p q:LIn} (h:ends ws p=ends ws q):stN ws p=stN ws q:=by
 have h1:(stN ws p).final=(stN ws q).final:=decide_eq_decide.2 (Xi h)
 have h2:(stN ws p).arcs=(stN ws q).arcs:=by
  refine Yi Yj Yj fun a=>?_;rw [Eb,Eb,Jm hs hr h a.1];have:num ws (p++[a.1])=num ws (q++[a.1]):=by unfold num;rw [DW hr h a.1]
  rw [this]
 cases hp:stN ws p;cases hq:stN ws q;rw [hp,hq] at h1 h2;simp only at h1 h2;rw [h1,h2]
theorem akH {ws:LLI} (hs:Short ws) (hr:aM ws) {p q:LIn} (hp:p∈begs ws) (hq:q∈begs ws):stN ws p=stN ws q↔ends ws p=ends ws q:=by
 refine ⟨fun h=>(WX hr).2 fun x=>⟨Yk hs hr x hp hq h,Yk hs hr x hq hp h.symm⟩,Yl hs hr⟩
theorem JJ {ws:LLI} (hs:Short ws) (hr:aM ws) {i:Nat} {q:LIn} (hq:q∈begs ws) {j:Nat} (hj:j<(aI ws i).length):stN ws ((aI ws i).getD j Kd.no).F=stN ws q↔dL (aI ws i) (ends ws q)=some j:=by
 have hm:=yM hj;obtain ⟨a1,a2,_⟩:=(Pf ws i).1 _ hm;have hF:((aI ws i).getD j Kd.no).F∈begs ws:=List.mem_of_mem_drop (List.mem_reverse.1 a1);rw [akH hs hr hF hq,<-a2];constructor
 ·intro h;refine JG.2 ⟨hj,h,fun k hk e=>?_⟩;have hp:=(Pf ws i).2.2;rw [List.pairwise_iff_getElem] at hp;have hk':k<(aI ws i).length:=omg;rw [ni hk'] at e;rw [ni hj] at h;exact hp k j hk' hj hk (by rw [e,h])
 ·intro h;exact (wG h).2

theorem akI (ws:LLI) (x:Kd):x∈jN ws↔x∈kinds ws:=by
 obtain ⟨a1,a2,a3⟩:=Bb ws;obtain ⟨_,b1,b2,b3⟩:=lq ws;constructor
 ·intro h;have hx:=a1 x h;obtain ⟨k,hk,he⟩:=b2 x.F hx.1;rw [Xf hx (b1 k hk) (by rw [he,hx.2.1])];exact hk
 ·intro h;have hx:=b1 x h;obtain ⟨k,hk,he⟩:=a2 x.F hx.1;rw [Xf hx (a1 k hk) (by rw [he,hx.2.1])];exact hk
theorem akJ {ws:LLI} {L:List Kd} (hp:L.Perm (jN ws)) (hs:L.Pairwise fun a b=>dw b a=false):L=kinds ws:=by
 have hF:L.Pairwise fun a b=>a.F≠b.F:=by
  have h:=(hp.pairwise_iff (R:=fun a b:Kd=>a.E≠b.E) (fun {a b} h h'=>h h'.symm)).2 (Bb ws).2.2;refine List.Pairwise.imp_of_mem ?_ h;intro a b ha hb hne e;exact hne (by rw [((Bb ws).1 a (hp.mem_iff.1 ha)).2.1,((Bb ws).1 b (hp.mem_iff.1 hb)).2.1,e])
 refine Xe ((hs.and hF).imp fun h=>Xb (fun e=>h.2 e.symm) h.1) (lq ws).1 fun x=>?_;rw [hp.mem_iff,akI]
theorem akK {ws:LLI} {q:LIn} {c:Nat} (hq:q∈begs ws) (hc:c<(kinds ws).length) (h:(kinds ws).getD c Kd.no=(jN ws).getD (num ws q) Kd.no):c=cls ws q:=by
 obtain ⟨h1,h2⟩:=yS hq;obtain ⟨h3,h4⟩:=nk hq;exact Xg hc h3 (by rw [h,h2,h4])
theorem akL {ws:LLI} {q:LIn} {P:Int->Int} (_hq:q∈begs ws) (hP:∀p∈begs ws,P (num ws p:Int)=(cls ws p:Int)):(stN ws q).arcs.map (fun a=>(a.1,P a.2))=(aP (begs ws) q).map (lu ws):=by
 unfold stN;simp only [List.map_map];refine List.map_congr_left fun a ha=>?_;obtain ⟨k,hk,h1,h2⟩:=mY.1 ha;simp only [Function.comp,Bc,lu];rw [hP _ (by rw [h2,Int.toNat_natCast];simp [hk])]
theorem akM {ws:LLI} (hs:Short ws) (hr:aM ws) {i:Nat} {q:LIn} {P:Int->Int} (hi:i<(kinds ws).length) (_hq:q∈begs ws) (hE:ends ws q=((kinds ws).getD i Kd.no).E) (hP:∀p∈begs ws,P (num ws p:Int)=(cls ws p:Int)) :
 (⟨(stN ws q).final,(stN ws q).arcs.map (fun a=>(a.1,P a.2))⟩:St)=(bL ws).getD i St.no:=by
 obtain ⟨f1,f2,f3⟩:=yN hi;have h:stN ws q=stN ws ((kinds ws).getD i Kd.no).F:=Yl hs hr (by rw [hE,f3]);rw [Jo hi,h,akL f1 hP];rfl
end Daw
end
section
namespace Wlk
open Tri

def bhd (l:List St) (i:Nat) (b fr:LIn):LLI:=((wds l i).map (b++·)).filter fun x=>!lessL x fr
def eH (l:List St) (i k:Nat) (b fr:LIn):LLI:=((upA l i k).map (b++·)).filter fun x=>!lessL x fr
theorem alX (l:List St) (w:LIn):bhd l 0 [] w=ge l 0 w:=by
 unfold bhd ge;simp
theorem alY {l:List St} {i:Nat} (b fr:LIn) (h:wds l i=[]):bhd l i b fr=[]:=by unfold bhd;rw [h];rfl
theorem Px (l:List St) (i:Nat) (b fr:LIn) {f g:Bool} (hf:(l.getD i St.no).final=f) (hg:lessL b fr=g):eH l i 0 b fr=if f=true/\g=false then [b] else []:=by
 unfold eH;rw [DT,hf];cases f
 ·simp
 ·cases g
  ·simp [hg]
  ·simp [hg]
theorem Py (l:List St) (i:Nat) {k:Nat} {s:Int} {t:Nat} (b fr:LIn) (hk:k<(l.getD i St.no).arcs.length) (ha:(l.getD i St.no).arcs.getD k (0,0)=(s,(t:Int))):eH l i (k+1) b fr=eH l i k b fr++bhd l t (b++[s]) fr:=by
 unfold eH bhd;rw [NZ l i hk ha,List.map_append,List.filter_append]
 congr 2
 rw [List.map_map];refine List.map_congr_left fun x _=>?_;simp
theorem alZ {l:List St} (hc:check l=true) {i:Nat} (hi:i<l.length) (b fr:LIn):eH l i (l.getD i St.no).arcs.length b fr=bhd l i b fr:=by
 unfold eH bhd;rw [DU hc hi]
theorem YD:∀(u v x:LIn),lessL (u.take (min u.length v.length)) (v.take (min u.length v.length))=true->lessL (u++x) v=true
 | [],v,x,h=>by simp [lessL] at h
 | a::u,[],x,h=>by simp [lessL] at h
 | a::u,b::v,x,h=>by
   rw [List.length_cons,List.length_cons,Nat.succ_min_succ,List.take_succ_cons,List.take_succ_cons] at h;simp only [lessL,List.cons_append] at h ⊢;by_cases e:a=b
   ·rw [if_pos e] at h ⊢;exact YD u v x h
   ·rw [if_neg e] at h ⊢;exact h
theorem Pz (l:List St) (t:Nat) {b fr:LIn} (h:lessL (b.take (min b.length fr.length)) (fr.take (min b.length fr.length))=true):bhd l t b fr=[]:=by
 unfold bhd;refine List.filter_eq_nil_iff.2 fun x hx=>?_;obtain ⟨y,_,rfl⟩:=List.mem_map.1 hx;rw [YD b fr y h];simp
theorem PD (X Y:LLI) (n:Nat):(X++Y).take n=X.take n++Y.take (n-min n (X.take n).length):=by
 rw [List.take_append]
 congr 1
 rw [List.length_take]
 congr 1
 omega
end Wlk
end
end Go.Proofs.YtkiamgcpcneggaaGreat
