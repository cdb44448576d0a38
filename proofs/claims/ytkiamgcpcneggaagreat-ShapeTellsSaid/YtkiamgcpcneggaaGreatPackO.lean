import Derived.Maps.RangeWalk
import Derived.Test.YtkiamgcpcneggaaGreatPackN
import Derived.Deep.OwnRows
import Derived.Deep.Matrix
set_option linter.all false
set_option maxRecDepth 100000
set_option maxHeartbeats 12800000
namespace Go.Proofs.YtkiamgcpcneggaaGreat
section
open Go.Maps Go.RowKit

def iO {H:Type} (D:DataW H) (k:Lit):Option Int :=
 if has D k=true then (match D.atKey k (.lit (.int .u64 0)) with|.lit (.int _ c)=>some c|_=>none) else none
theorem Nq {H:Type} {D:DataW H} {k:Lit} {c:Int} (h:has D k=true) (ha:D.atKey k (.lit (.int .u64 0))=.lit (.int .u64 c)):iO D k=some c:=by
 unfold iO;rw [if_pos h,ha]
theorem Vs {H:Type} {D:DataW H} {k:Lit} (h:has D k=false):iO D k=none:=by
 unfold iO;rw [if_neg (by rw [h];decide)]
theorem agn {H:Type} (k:Lit):iO (.map []:DataW H) k=none:=Vs rfl
theorem Vt {H:Type} {D:DataW H} (hD:IsMap D) {k:Lit} (hk:WideAt.IsKeyLit k) (c:Int):iO (D.put k (.lit (.int .u64 c))) k=some c :=
 Nq (has_put_same hD hk _) (atKey_put_same hD hk _ _)
theorem Vu {H:Type} {D:DataW H} {k k':Lit} (hne:k'≠k) (c:Int):iO (D.put k (.lit (.int .u64 c))) k'=iO D k':=by
 unfold iO;rw [has_put_other hne,atKey_put_other hne]

end
section

def fU {κ:Type} (key:aj->κ) (l:List aj) (m:κ->Option Int):Prop :=
 (∀k c,m k=some c->∃r∈l,chk r=true/\key r=k/\r.C=c)/\∀r∈l,chk r=true->∃c,m (key r)=some c/\c<=r.C

theorem fU.start {κ:Type} (key:aj->κ):fU key [] fun _=>none:=⟨fun _ _ h=>(by cases h),smp⟩
theorem fU.pass {κ:Type} {key:aj->κ} {l:List aj} {m:κ->Option Int} (h:fU key l m) {r:aj} (hr:chk r=false):fU key (l++[r]) m :=
 ⟨fun k c hk=>by obtain ⟨s,hs,h'⟩:=h.1 k c hk;exact ⟨s,List.mem_append.2 (.inl hs),h'⟩,fun s hs hc=>by
  rcases map1 hs with hs|hs
  ·exact h.2 s hs hc
  ·rw [msg hs,hr] at hc;cases hc⟩
theorem fU.keep {κ:Type} {key:aj->κ} {l:List aj} {m:κ->Option Int} (h:fU key l m) {r:aj} {c:Int} (hm:m (key r)=some c) (hc:c<=r.C):fU key (l++[r]) m :=
 ⟨fun k c hk=>by obtain ⟨s,hs,h'⟩:=h.1 k c hk;exact ⟨s,List.mem_append.2 (.inl hs),h'⟩,fun s hs hs'=>by
  rcases map1 hs with hs|hs
  ·exact h.2 s hs hs'
  ·rw [msg hs];exact ⟨c,hm,hc⟩⟩
theorem fU.put {κ:Type} {key:aj->κ} {l:List aj} {m m':κ->Option Int} (h:fU key l m) {r:aj} (hr:chk r=true) (hlt:∀c,m (key r)=some c->r.C<=c) (h1:m' (key r)=some r.C) (h2:∀k,k≠key r->m' k=m k):fU key (l++[r]) m':=by
 classical
 refine ⟨fun k c hk=>?_,fun s hs hc=>?_⟩
 ·by_cases e:k=key r
  ·subst e;rw [h1] at hk;exact ⟨r,by simp,hr,rfl,by simpa using hk⟩
  ·rw [h2 k e] at hk;obtain ⟨s,hs,h'⟩:=h.1 k c hk;exact ⟨s,List.mem_append.2 (.inl hs),h'⟩
 ·rcases map1 hs with hs|hs
  ·obtain ⟨c,hm,hle⟩:=h.2 s hs hc;by_cases e:key s=key r
   ·rw [e] at hm ⊢;exact ⟨r.C,h1,Int.le_trans (hlt c hm) hle⟩
   ·exact ⟨c,by rw [h2 _ e];exact hm,hle⟩
  ·rw [msg hs];exact ⟨r.C,h1,Int.le_refl _⟩

theorem agp {l o ys:List aj} (h1:∀r∈o,r∈l/\chk r=true) (h2:∀r∈l,chk r=true->∃s∈o,s.like r/\s.C<=r.C) (hd:o.Pairwise fun a b=>¬a.like b) (hp:ys.Perm o) (hs:ys.Pairwise fun a b=>bY b a=false):jZ l ys:=by
 have hd':ys.Pairwise fun a b=>¬a.like b:=(hp.pairwise_iff (fun {a b} h h'=>h h'.symm)).2 hd;refine ⟨?_,fun r hr=>h1 r (hp.mem_iff.1 hr),fun r hr hc=>?_⟩
 ·exact (hs.and hd').imp fun {a b} h=>by
   cases hq:bY a b with
   | true=>rfl
   | false=>exact absurd (Mw hq h.1) h.2
 ·obtain ⟨s,hs',h⟩:=h2 r hr hc;exact ⟨s,hp.mem_iff.2 hs',h⟩

theorem fU.norm {κ:Type} {key:aj->κ} {l:List aj} {m:κ->Option Int} (h:fU key l m) (hk:∀r s,chk r=true->chk s=true->key r=key s->r.like s) (hk':∀r s:aj,r.like s->key r=key s) {o ys:List aj} (ho:∀s∈o,chk s=true/\m (key s)=some s.C) (ho':∀k c,m k=some c->∃s∈o,key s=k/\s.C=c)
 (hd:o.Pairwise fun a b=>key a≠key b) (hp:ys.Perm o) (hs:ys.Pairwise fun a b=>bY b a=false):jZ l ys:=by
 refine agp (fun r hr=>?_) (fun r hr hc=>?_) (hd.imp fun {a b} hne hl=>hne (hk' a b hl)) hp hs
 ·obtain ⟨hc,hm⟩:=ho r hr;obtain ⟨s,hs,hsc,hsk,tH⟩:=h.1 _ _ hm;have hl:=hk s r hsc hc hsk;have:s=r:=aj.ext' hl.1 hl.2 tH;subst this;exact ⟨hs,hc⟩
 ·obtain ⟨c,hm,hle⟩:=h.2 r hr hc;obtain ⟨s,hs,hsk,tH⟩:=ho' _ _ hm;exact ⟨s,hs,hk s r (ho s hs).1 hc hsk,by omega⟩

end
section
open Go.RowKit Go.Maps Go.WideMaps

theorem agq:laidOutB Tryz.prog=true:=krf
theorem pX:Keyed Tryz.prog 173:=Keyed.of_law (deep_law_laid agq (m:=4) omg (by decide +kernel) krf krf)
theorem IZ (w:World):(zeroValue 23).run Tryz.prog w=.ok (.int .u64 0) w:=krf

def dB (r:aj):Lit:=.string (keyBytes (wm (di true r)))
theorem Ja {l:LIn} (h:gZ l=true):WfI l:=by
 unfold gZ at h;rw [Bool.and_eq_true,List.all_eq_true] at h;intro z hz;have:=h.1 z hz;simp [Utf.good] at this;exact WalkArith.wf_i64 omg
theorem Jb {r:aj} (h:chk r=true):(di true r).length=18/\WfI (di true r) :=
 ⟨Nj (fun _=>h),afj (Ja (nX h).1) (Ja (nX h).2) (fun _=>h)⟩
theorem qR {r:aj} (h:chk r=true):keyOf Tryz.prog 173 (.agg (ax (di true r)))=some (dB r) :=
 afg _ (Jb h).1 (Jb h).2
theorem agr:∀{l l':LIn},ax l=ax l'->l=l':=by
 intro l l' h;unfold ax at h;have h':l.map (Value.int .i64)=l'.map (Value.int .i64):=by simpa using h
 clear h
 induction l generalizing l' with
 | nil=>cases l' with
   | nil=>rfl
   | cons _ _=>simp at h'
 | cons a l ih=>cases l' with
   | nil=>simp at h'
   | cons b l' =>
     simp only [List.map_cons,List.cons.injEq,Value.int.injEq,true_and] at h';rw [h'.1,ih h'.2]
theorem ags {r s:aj} (h:r.like s):dB r=dB s:=by
 unfold dB di;rw [h.1,h.2]
theorem agt {r s:aj} (hr:chk r=true) (hs:chk s=true) (h:dB r=dB s):r.like s:=by
 have h1:=pX.inj (qR hr) (by rw [h];exact qR hs);simp only [Value.agg.injEq] at h1;have h2:=agr h1;unfold di at h2;rw [if_pos rfl,if_pos rfl] at h2;have h3:=List.append_inj h2 (by rw [qP _ _ (fun _=>jl (nX hr).1),qP _ _ (fun _=>jl (nX hs).1)]);exact ⟨Ni (jl (nX hr).1) (jl (nX hs).1) h3.1,Ni (jl (nX hr).2) (jl (nX hs).2) h3.2⟩
theorem Nr {r:aj} (h:chk r=true):WideAt.IsKeyLit (dB r):=pX.key (qR h)

theorem agu {D:DataW Unit} {k:Lit} {c:Int} (h:iO D k=some c):has D k=true:=by
 unfold iO at h;split at h
 ·assumption
 ·cases h
theorem agv {D:DataW Unit} {k:Lit} {c:Int} (h:∀z,D.atKey k z=.lit (.int .u64 c)):iO D k=some c:=Nq (has_true_of_atKey h) (h _)

theorem size_le {w:World} {b n:Nat} {R:Value->Option (DataW Unit × List MemPlace)} {D:DataW Unit} (h:w.ownsMap Tryz.prog 173 R b n D):Maps.size D<=n:=by
 obtain ⟨es,clock,_,_,hs,rfl⟩:=h;show (List.foldr DataW.insert [] _).length<=n;rw [length_sorted];simpa using hs

def Got (D:DataW Unit) (left:Lit->Bool) (o:List aj):Prop :=
 (∀s∈o,chk s=true/\iO D (dB s)=some s.C/\left (dB s)=false) /\
  (∀k c,iO D k=some c->left k=true\/∃s∈o,dB s=k/\s.C=c)/\o.Pairwise fun a b=>dB a≠dB b

theorem Got.start (D:DataW Unit):Got D (has D) []:=⟨by simp,fun _ _ h=>.inl (agu h),List.Pairwise.nil⟩
theorem Got.step {D:DataW Unit} {left:Lit->Bool} {o:List aj} (h:Got D left o) {r:aj} (hr:chk r=true) (hl:left (dB r)=true) (hc:iO D (dB r)=some r.C):Got D (fun z=>left z&&!z.sameKey (dB r)) (o++[r]):=by
 obtain ⟨h1,h2,h3⟩:=h
 have hne:∀s∈o,dB s≠dB r:=fun s hs e=>by
  have:=(h1 s hs).2.2;rw [e,hl] at this;cases this
 refine ⟨fun s hs=>?_,fun k c hk=>?_,?_⟩
 ·rcases map1 hs with hs|hs
  ·obtain ⟨a,b,c⟩:=h1 s hs;exact ⟨a,b,by show (left _&&_)=false;rw [c];rfl⟩
  ·rw [msg hs];refine ⟨hr,hc,?_⟩;show (left _&&!(dB r).sameKey (dB r))=false;rw [WideAt.sameKey_self (Nr hr)];simp
 ·rcases h2 k c hk with hk' | ⟨s,hs,h⟩
  ·by_cases e:k.sameKey (dB r)=true
   ·have e':=WideAt.sameKey_eq e;subst e';rw [hc] at hk;exact .inr ⟨r,by simp,rfl,by simpa using hk⟩
   ·left;show (left k&&!k.sameKey (dB r))=true;rw [hk'];simpa using e
  ·exact .inr ⟨s,List.mem_append.2 (.inl hs),h⟩
 ·exact List.pairwise_append.2 ⟨h3,by simp,fun s hs t ht=>by rw [msg ht];exact hne s hs⟩
theorem Got.norm {D:DataW Unit} {left:Lit->Bool} {o l ys:List aj} (h:Got D left o) (hend:∀k,left k=false) (hD:fU dB l (iO D)) (hp:ys.Perm o) (hs:ys.Pairwise fun a b=>bY b a=false):ys=nrm l:=by
 refine (fU.norm hD (fun r s hr hs h=>agt hr hs h) (fun r s h=>ags h) (fun s hs=>⟨(h.1 s hs).1,(h.1 s hs).2.1⟩) (fun k c hk=>?_) h.2.2 hp hs).eq;rcases h.2.1 k c hk with h' | h'
 ·rw [hend k] at h';cases h'
 ·exact h'
theorem fU.comes {D:DataW Unit} {l:List aj} (hD:fU dB l (iO D)) {cs:Array Value} {kl:Lit} {c:Int} (hkey:keyOf Tryz.prog 173 (.agg cs)=some kl) (hat:∀z,D.atKey kl z=.lit (.int .u64 c)) :
 ∃r,r∈l/\chk r=true/\dB r=kl/\r.C=c/\cs=ax (di true r)/\iO D (dB r)=some r.C:=by
 have hc:=agv hat;obtain ⟨r,hr,hk,e,hC⟩:=hD.1 kl c hc;subst e hC;have h1:=pX.inj hkey (qR hk);simp only [Value.agg.injEq] at h1;exact ⟨r,hr,hk,rfl,rfl,h1,hc⟩

theorem agw (key:Value) (kl:Lit) (h:keyOf Tryz.prog 173 key=some kl):∃x:Array Value,key=.agg x:=by
 cases key<;>simp [keyOf,Tryz.underlying173,Value.formed] at h
 exact ⟨_,rfl⟩
theorem agx (v:Value) (y:DataW Unit × List MemPlace) (h:plainElem Tryz.prog 23 v=some y):∃c:Int,v=.int .u64 c:=by
 obtain ⟨c,rfl,_⟩:=plainElem_int_inv Tryz.underlying23 h;exact ⟨c,rfl⟩

end
section
open Go.RowKit Go.Deep

theorem agy:(Tryz.prog.info? 3).map (fun i=>(i.zero,i.size,i.bytes))=some (some (.int .i64 0),1,8):=krf
theorem agz:(Tryz.prog.info? 3).map (·.size)=some 1:=krf
theorem agA {l:LIn} {j:Nat} (hj:j<l.length):(aF true l)[j]?=some l[j]:=by
 unfold aF;rw [if_pos rfl,List.append_assoc,List.getElem?_append_left hj,geg hj]
theorem agB {l:LIn} (h8:l.length<=8):(aF true l)[8]?=some (l.length:Int):=by
 unfold aF;have e:(l++List.replicate (8-l.length) 0).length=8:=by simp;omega
 rw [if_pos rfl,List.getElem?_append_right (by rw [e];exact Nat.le_refl _),e];rfl
theorem AP (l:LIn) (w:World) (hw:WfI l) (h8:l.length<=8) :
 Calls Tryz.prog 133 #[.agg (ax (aF true l))] w fun e w'=>e=.returned (.slice (some ⟨w.heap.size+1,0,none⟩) l.length l.length)/\Sl .i64 w' (some ⟨w.heap.size+1,0,none⟩) l.length l.length l/\Below w.heap.size w w'/\w.heap.size+2<=w'.heap.size:=by
 obtain ⟨n,hn⟩:∃n,l.length=n:=⟨_,rfl⟩;have hlast:=agB h8;rw [hn] at h8 hlast ⊢;have hmk:=run_make_row' (P:=Tryz.prog) 51 3 (.int .i64 0) 8 Tryz.underlying51 agy rfl .i64 .i64 n omg omg
 have h8c:(ax (aF true l))[8]?=some (.int .i64 (n:Int)):=by
  show ((aF true l).map (Value.int .i64)).toArray[8]?=_;rw [List.getElem?_toArray,List.getElem?_map,hlast];rfl
 obtain ⟨X,hX⟩:∃X,X=l.map (Value.int .i64):=⟨_,rfl⟩;have Za:X.length=n:=by rw [hX,List.length_map,hn]
 have hpos:∀c:Array Value,∃ad,(some ⟨w.heap.size,0,none⟩:OAd)=some ad/\∀j v,X[j]?=some v->((w.alloc (.cells (ax (aF true l)) 171)).alloc (.cells c 3)).cell? (ad.add j)=some v:=fun c=>by
  refine ⟨_,rfl,fun j v hv=>?_⟩
  have hj:j<l.length:=by
   rcases Nat.lt_or_ge j l.length with h|h
   ·exact h
   ·rw [hX] at hv;simp [List.getElem?_eq_none h] at hv
  have hadd:(⟨w.heap.size,0,none⟩:Addr).add j=⟨w.heap.size,j,none⟩:=by unfold Addr.add;split<;>simp_all
  rw [hadd,cell_of_row _ _ _ _ _ _ (heap_alloc2_old w _ _)];show ((aF true l).map (Value.int .i64)).toArray[j]?=_;rw [List.getElem?_toArray,List.getElem?_map,agA hj,<-hv,hX];simp [hj]
 have h1:∀v∈X,v.oneCell'=true:=by rw [hX];exact ints_oneCell .i64 l
 have hg:∀c:Array Value,((w.alloc (.cells (ax (aF true l)) 171)).alloc (.cells c 3)).heap[w.heap.size+1]?=some (.cells c.toList.toArray 3 (0,0)):=fun c=>by simpa using heap_alloc2_new w (.cells (ax (aF true l)) 171) (.cells c 3)
 have hbw:∀c:Array Value,Below w.heap.size w ((w.alloc (.cells (ax (aF true l)) 171)).alloc (.cells c 3)):=fun c=>((Below.refl _ w).alloc lrf _).alloc smp _;have HN:=hdq hn;have HW:=hdq hw;have HX:=hdq hX;have dF:=hdq Za;have HP:=hdq hpos;have H1:=hdq h1;have HG:=hdq hg;have ai:=hdq hbw;clear hn hw hX Za hpos h1 hg hbw hlast;go_enter Tryz.func133,Tryz.ntmps133;go_wp2_with (refine wpList_copy_splice (o:=⟨some 10,_,_,_,_,_⟩) rfl (.tmp 7) (.tmp 9) 51 51 rfq 3 Tryz.underlying51 agz _ _ _ _ _ _ rfq rfq (w.heap.size+1) 0 (madeCells #[.int .i64 0] n).toList 3 (HG.out _) X (by rw [dF.out];exact (Nat.min_eq_right h8).symm) (fun _=>⟨rfl,HP.out _⟩) (by rw [dF.out];simp [madeCells]) H1.out w.heap.size w (ai.out _) (Nat.le_succ _) ?_;intro w2 HG2 hb2);go_ret;have h2:=HG2.out;have hlt:=(hltq h2);rw [aex _ _ (by rw [dF.out];simp [madeCells]),HX.out] at h2;exact ⟨rfl,Sl.of_heap h2 HW.out HN.out (by unfold maxLen;omega),hb2,by omega⟩

end
end Go.Proofs.YtkiamgcpcneggaaGreat
