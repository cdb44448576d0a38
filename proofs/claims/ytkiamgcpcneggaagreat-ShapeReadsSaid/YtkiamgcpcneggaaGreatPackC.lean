import Derived.Test.YtkiamgcpcneggaaGreatPackA
import Derived.Test.YtkiamgcpcneggaaGreatPackB
set_option linter.all false
/- Used by the law. -/
namespace Go.Proofs.YtkiamgcpcneggaaGreat
open Tri

noncomputable def made (ws:List (List Int)):List St × Int:=if (Wl.write ws).2=0 then (make ws,0) else ([],(Wl.write ws).2)
end Go.Proofs.YtkiamgcpcneggaaGreat

/- Used by the law. -/
namespace Go.Proofs.YtkiamgcpcneggaaGreat
open Tri Daw

noncomputable def dmade (ws:List (List Int)):List St × Int:=if (Wl.write ws).2=0 then (dmake ws,0) else ([],(Wl.write ws).2)
theorem made_parts {ws:List (List Int)}:(made ws).2=(Wl.write ws).2∧((Wl.write ws).2=0→(made ws).1=make ws):=by
 unfold made
 by_cases he:(Wl.write ws).2=0
 ·rw [if_pos he];exact ⟨he.symm,fun _=>rfl⟩
 ·rw [if_neg he];exact ⟨rfl,fun h=>absurd h he⟩
end Go.Proofs.YtkiamgcpcneggaaGreat

/- Used by the law. -/
namespace Go.Proofs.YtkiamgcpcneggaaGreat
namespace Wlk
open Tri Daw

theorem made_good {ws:List (List Int)} (h:(Wl.write ws).2=0):ws.length≤300∧Tri.Short ws∧Rise ws∧(∀ w ∈ ws,Utf.allGood w=true):=by
 rcases Wl.write_err ws with ⟨_,h1,h2,h3,_⟩|⟨h1,_⟩
 ·exact ⟨h1,fun z hz=>(Wl.fit_parts (h2 z hz)).2.1,h3,fun z hz=>(Wl.fit_parts (h2 z hz)).2.2.1⟩
 ·exact absurd h h1
theorem dmade_is {ws:List (List Int)}:∃ gl,dmade ws=(gl,(Wl.write ws).2)∧((Wl.write ws).2=0→gl=dmake ws):=by
 unfold dmade
 by_cases he:(Wl.write ws).2=0
 ·rw [if_pos he];exact ⟨_,Prod.ext rfl he.symm,fun _=>rfl⟩
 ·rw [if_neg he];exact ⟨_,rfl,fun h=>absurd h he⟩
set_option maxRecDepth 100000 in
theorem has_dmake {ws:List (List Int)} (hs:Tri.Short ws) (hr:Rise ws) (w:List Int):has (dmake ws) 0 w=decide (w ∈ ws):=by
 unfold has
 by_cases h:w ∈ begs ws
 ·rw [show ((0:Nat):Int)=0 from rfl,(dwalk hs hr w).1 h]
  simp only [Int.toNat_natCast]
  exact dfinal h
 ·rw [show ((0:Nat):Int)=0 from rfl,(dwalk hs hr w).2 h]
  exact (decide_eq_false fun h'=>h (word_begs hs h')).symm
set_option maxRecDepth 100000 in
theorem wds_of {l:List St} {ws:List (List Int)} (hc:check l=true) (hr:Rise ws) (h:∀ w,has l 0 w=decide (w ∈ ws)):wds l 0=ws:=by
 have h0:0 < l.length:=by have:=(check_size hc).1;omega
 refine rise_unique (wds_ris hc h0) hr fun x=>?_
 rw [mem_wds hc x h0,h x,decide_eq_true_eq]
structure Mds (l:List St) (ws:List (List Int)):Prop where
 check:check l=true
 words:wordsC l=(ws,0)
 many:manyC l=ws.length
 deep:deepC l=dp ws
 has:∀ w,hasC l w=decide (w ∈ ws)
set_option maxRecDepth 100000 in
theorem mds_of {l:List St} {ws:List (List Int)} (hc:Tri.check l=true) (hr:Rise ws) (hl:ws.length≤300) (h:∀ w,Wlk.has l 0 w=decide (w ∈ ws)):Mds l ws:=by
 have e:=wds_of hc hr h
 refine ⟨hc,?_,?_,?_,fun w=>?_⟩
 ·unfold wordsC;rw [if_neg (by rw [hc];exact Bool.noConfusion),e,if_neg (by omega)]
 ·unfold manyC mny;rw [if_pos hc,e];omega
 ·unfold deepC;rw [if_pos hc,e]
 ·unfold hasC;rw [hc,h w];rfl
theorem mds_dmake {ws:List (List Int)} (h:(Wl.write ws).2=0):Mds (dmake ws) ws:=by
 obtain ⟨h1,h2,h3,h4⟩:=made_good h
 exact mds_of (dmake_check h2 h3 h4 h1) h3 h1 (has_dmake h2 h3)
end Wlk
end Go.Proofs.YtkiamgcpcneggaaGreat

/- Used by the law. -/
namespace Go.Proofs.YtkiamgcpcneggaaGreat
namespace Wlk
open Tri Daw

theorem walk_app (l:List St):∀ (q x:List Int) (i:Int),walk l i (q ++ x)=match walk l i q with|some t=>walk l t x|none=>none
 | [],x,i=>by simp [walk]
 | s :: q,x,i=>by
   rw [List.cons_append,walk,walk]
   split
   ·exact walk_app l q x _
   ·rfl
theorem has_app {l:List St} (hc:check l=true) {q:List Int} {i:Nat} (h:walk l 0 q=some (i:Int)) (x:List Int):has l 0 (q ++ x)=has l i x:=by
 unfold has
 rw [show ((0:Nat):Int)=0 from rfl,walk_app,h]
theorem walk_lt {l:List St} (hc:check l=true) {q:List Int} {t:Int} (h:walk l 0 q=some t):∃ i:Nat,t=(i:Int)∧i < l.length:=by
 obtain ⟨h1,h2⟩:=walk_range hc q (i:=0) (by have:=(check_size hc).1;omega) t h
 exact ⟨t.toNat,by omega,by omega⟩
theorem beg_walk {l:List St} (hc:check l=true) {q:List Int} (h:q=[]∨∃ w ∈ wds l 0,q <+: w):∃ i:Nat,i < l.length∧walk l 0 q=some (i:Int):=by
 have h0:0 < l.length:=by have:=(check_size hc).1;omega
 rcases h with rfl|⟨w,hw,x,rfl⟩
 ·exact ⟨0,h0,rfl⟩
 ·have h1:=(mem_wds hc _ h0).1 hw
  unfold has at h1
  rw [show ((0:Nat):Int)=0 from rfl,walk_app] at h1
  cases hq:walk l 0 q with
  | none=>rw [hq] at h1;cases h1
  | some t =>
    obtain ⟨i,rfl,hi⟩:=walk_lt hc hq
    exact ⟨i,hi,rfl⟩
theorem ends_wds {l:List St} (hc:check l=true) {q:List Int} {i:Nat} (hi:i < l.length) (h:walk l 0 q=some (i:Int)):ends (wds l 0) q=wds l i:=by
 have h0:0 < l.length:=by omega
 refine rise_unique (ends_rise (wds_ris hc h0) q) (wds_ris hc hi) fun x=>?_
 rw [mem_ends,mem_wds hc _ h0,mem_wds hc _ hi,has_app hc h]
def at_ (l:List St) (q:List Int):Nat:=match walk l 0 q with|some t=>t.toNat|none=>0
theorem nodup_le:∀ (n:Nat) (l:List Nat),l.Nodup→(∀ x ∈ l,x < n)→l.length≤n
 | 0,l,_,h=>by
   cases l with
   | nil=>simp
   | cons x l=>have:=h x (by simp);omega
 | n + 1,l,hd,h=>by
   have h1:=nodup_le n (l.erase n) (hd.erase n) fun x hx=>by
    have h2:=h x (List.mem_of_mem_erase hx)
    have h3:x≠n:=fun e=>by subst e;exact (List.Nodup.not_mem_erase hd) hx
    omega
   have:=List.length_erase_le (a:=n) (l:=l)
   have h4:l.length≤(l.erase n).length + 1:=by
    rw [List.length_erase]
    split<;>omega
   omega
theorem kinds_states {l:List St} (hc:check l=true) (hs:Tri.Short (wds l 0)):(kinds (wds l 0)).length≤l.length:=by
 have hf:=kinds_facts (wds l 0)
 have hst:∀ k ∈ kinds (wds l 0),∃ i:Nat,i < l.length∧walk l 0 k.F=some (i:Int):=fun k hk=>beg_walk hc ((mem_begs hs).1 (hf.2.1 k hk).1)
 have hn:((kinds (wds l 0)).map fun k=>at_ l k.F).Nodup:=by
  unfold List.Nodup
  rw [List.pairwise_map]
  refine List.Pairwise.imp_of_mem ?_ hf.2.2.2
  intro a b ha hb hne e
  obtain ⟨i,hi,hwi⟩:=hst a ha
  obtain ⟨j,hj,hwj⟩:=hst b hb
  unfold at_ at e
  rw [hwi,hwj] at e
  simp only [Int.toNat_natCast] at e
  subst e
  refine hne ?_
  rw [(hf.2.1 a ha).2.1,(hf.2.1 b hb).2.1,ends_wds hc hi hwi,ends_wds hc hi hwj]
 have:=nodup_le l.length _ hn fun x hx=>by
  obtain ⟨k,hk,rfl⟩:=List.mem_map.1 hx
  obtain ⟨i,hi,hwi⟩:=hst k hk
  unfold at_
  rw [hwi]
  simpa using hi
 rwa [List.length_map] at this
end Wlk
end Go.Proofs.YtkiamgcpcneggaaGreat

/- Used by the law. -/
namespace Go.Proofs.YtkiamgcpcneggaaGreat
namespace Shp
open Tri Daw Wlk

def chk (x:Img.Im):Int :=
 if Tri.check x.sts=false then 100
 else if File.check x.c=false then 60
 else if 300 < manyC x.sts then 81
 else if 20 < deepC x.sts then 90
 else if (x.sts.getD 0 St.no).final=true then 90
 else 0
def wrd (x:Img.Im):List (List Int) × Int:=if chk x=0 then (wds x.sts 0,0) else ([],chk x)
noncomputable def mk (ws:List (List Int)) (c:File.Cst):Img.Im × Int :=
 if (dmade ws).2=0 then (if File.check c=true then (⟨(dmade ws).1,c⟩,0) else (Img.Im.no,60)) else (Img.Im.no,(dmade ws).2)

theorem chk_ok {x:Img.Im} (h:chk x=0):Tri.check x.sts=true∧File.check x.c=true∧(wds x.sts 0).length≤300∧dp (wds x.sts 0)≤20∧(x.sts.getD 0 St.no).final=false:=by
 unfold chk at h
 split at h
 ·cases h
 rename_i h1
 split at h
 ·cases h
 rename_i h2
 split at h
 ·cases h
 rename_i h3
 split at h
 ·cases h
 rename_i h4
 split at h
 ·cases h
 rename_i h5
 have h1:Tri.check x.sts=true:=by simpa using h1
 have h2:File.check x.c=true:=by simpa using h2
 have h5:(x.sts.getD 0 St.no).final=false:=by simpa using h5
 refine ⟨h1,h2,?_,?_,h5⟩
 ·unfold manyC mny at h3
  rw [if_pos h1] at h3
  omega
 ·unfold deepC at h4
  rw [if_pos h1] at h4
  omega

end Shp
end Go.Proofs.YtkiamgcpcneggaaGreat

/- Used by the law. -/
namespace Go.Proofs.YtkiamgcpcneggaaGreat
namespace Shp
open Tri Daw Wlk

theorem fits_dp {ws:List (List Int)} (h:∀ w ∈ ws,Wl.fit w=true):dp ws≤20:=by
 have:=dp_le (ws:=ws) (n:=20) fun w hw=>(Wl.fit_parts (h w hw)).2.1
 omega
set_option maxRecDepth 100000 in
theorem start_not {l:List St} {ws:List (List Int)} (hc:check l=true) (hm:Mds l ws) (h:∀ w ∈ ws,Wl.fit w=true):(l.getD 0 St.no).final=false:=by
 have h0:=hm.has []
 have hn:([]:List Int) ∉ ws:=fun hx=>(Wl.fit_parts (h [] hx)).1 rfl
 rw [decide_eq_false hn] at h0
 unfold hasC has at h0
 rw [hc] at h0
 simpa [walk] using h0
set_option maxRecDepth 100000 in
theorem wds_mds {l:List St} {ws:List (List Int)} (hl:ws.length≤300) (hm:Mds l ws):wds l 0=ws:=by
 have h:=hm.words
 rcases words_err h with ⟨_,_,e,_⟩|⟨he,_⟩|⟨he,_⟩
 ·exact e.symm
 ·exact absurd he (by decide)
 ·exact absurd he (by decide)
set_option maxRecDepth 100000 in
theorem mk_ok {ws:List (List Int)} {c:File.Cst} {x:Img.Im} (h:mk ws c=(x,0)) :
 (Wl.write ws).2=0∧File.check c=true∧x=⟨dmake ws,c⟩∧chk x=0∧wrd x=(ws,0):=by
 unfold mk at h
 obtain ⟨gl,hd,hgl⟩:=dmade_is (ws:=ws)
 by_cases hw:(Wl.write ws).2=0
 ·have hgl:=hgl hw
  subst hgl
  rw [hd,if_pos hw] at h
  by_cases hc:File.check c=true
  ·rw [if_pos hc] at h
   have hx:x=⟨dmake ws,c⟩:=(Prod.mk.inj h).1.symm
   subst hx
   have hm:=mds_dmake hw
   obtain ⟨h1,_⟩:=made_good hw
   have hf:∀ w ∈ ws,Wl.fit w=true:=by
    rcases Wl.write_err ws with ⟨_,_,h2,_⟩|⟨h2,_⟩
    ·exact h2
    ·exact absurd hw h2
   have hk:=hm.check
   have hck:chk ⟨dmake ws,c⟩=0:=by
    unfold chk
    have hma:manyC (dmake ws)=ws.length:=hm.many
    have hde:deepC (dmake ws)=dp ws:=hm.deep
    have hd20:=fits_dp hf
    have hs:=start_not hk hm hf
    show (if check (dmake ws)=false then 100 else if File.check c=false then 60 else if 300 < manyC (dmake ws) then 81 else if 20 < deepC (dmake ws) then 90 else if ((dmake ws).getD 0 St.no).final=true then 90 else (0:Int))=0
    rw [hk,hc,hma,hde,hs,if_neg Bool.noConfusion,if_neg Bool.noConfusion,if_neg (by omega),if_neg (by omega),if_neg Bool.noConfusion]
   refine ⟨hw,hc,rfl,hck,?_⟩
   unfold wrd
   rw [if_pos hck]
   show (wds (dmake ws) 0,(0:Int))=_
   rw [wds_mds h1 hm]
  ·rw [if_neg hc] at h
   exact absurd (Prod.mk.inj h).2 (by decide)
 ·rw [hd,if_neg hw] at h
  exact absurd (Prod.mk.inj h).2 hw
theorem mk_of {ws:List (List Int)} {c:File.Cst} (h:(Wl.write ws).2=0) (hc:File.check c=true):mk ws c=(⟨dmake ws,c⟩,0):=by
 unfold mk
 obtain ⟨gl,hd,hgl⟩:=dmade_is (ws:=ws)
 have hgl:=hgl h
 subst hgl
 rw [hd,if_pos h,if_pos hc]
theorem write_of {ws:List (List Int)} (hl:ws.length≤300) (hf:∀ w ∈ ws,Wl.fit w=true) (hr:Rise ws):(Wl.write ws).2=0:=by
 unfold Wl.write
 rw [if_neg (by omega),if_pos ⟨List.all_eq_true.2 hf,Wl.rises_iff.2 hr⟩]
theorem chk_first {x:Img.Im} (h:chk x=0):0 < x.sts.length:=by have:=(check_size (chk_ok h).1).1;omega
theorem chk_words {x:Img.Im} (h:chk x=0) {w:List Int} (hw:w ∈ wds x.sts 0):1≤w.length∧w.length≤20∧hasC x.sts w=true:=by
 obtain ⟨hc,_,_,hd,hs⟩:=chk_ok h
 have hh:=mem_has hc hw
 refine ⟨?_,?_,hh⟩
 ·rcases w with _|⟨a,w⟩
  ·have h2:hasC x.sts []=(x.sts.getD 0 St.no).final:=by unfold hasC has;rw [hc];rfl
   rw [h2,hs] at hh;cases hh
  ·simp
 ·have h1:∀ (l:List (List Int)),w ∈ l→(w.length:Int)≤dp l:=by
   intro l
   induction l with
   | nil=>intro hx;cases hx
   | cons a l ih =>
     intro hx
     rw [dp_cons]
     rcases List.mem_cons.1 hx with rfl|hx
     ·omega
     ·have:=ih hx;omega
  have:=h1 _ hw
  omega
theorem mk_again {x:Img.Im} (h:chk x=0) (hf:∀ w ∈ wds x.sts 0,Wl.fit w=true) :
 mk (wds x.sts 0) x.c=(⟨dmake (wds x.sts 0),x.c⟩,0)∧wrd ⟨dmake (wds x.sts 0),x.c⟩=(wds x.sts 0,0)∧(dmake (wds x.sts 0)).length≤x.sts.length:=by
 obtain ⟨hc,hk,hl,_,_⟩:=chk_ok h
 have h0:=chk_first h
 have e:=mk_of (write_of hl hf (wds_ris hc h0)) hk
 refine ⟨e,(mk_ok e).2.2.2.2,?_⟩
 rw [dmake_length]
 exact kinds_states hc fun w hw=>(chk_words h hw).2.1
theorem chk_costs {x:Img.Im} {c:File.Cst} (hx:File.check x.c=true) (hc:File.check c=true):chk ⟨x.sts,c⟩=chk x:=by
 unfold chk
 show (if check x.sts=false then 100 else if File.check c=false then 60 else _)=_
 rw [hc,hx]
theorem wrd_costs {x:Img.Im} {c:File.Cst} (hx:File.check x.c=true) (hc:File.check c=true):wrd ⟨x.sts,c⟩=wrd x:=by
 unfold wrd
 rw [chk_costs hx hc]
theorem chk_auto {x:Img.Im} (h:check x.sts=false):chk x=100:=by unfold chk;rw [if_pos h]
theorem chk_rule {x:Img.Im} (h:check x.sts=true):chk x=60↔File.check x.c=false:=by
 unfold chk
 rw [if_neg (by rw [h];exact Bool.noConfusion)]
 constructor
 ·intro he
  by_cases hk:File.check x.c=false
  ·exact hk
  ·rw [if_neg hk] at he
   split at he
   ·cases he
   split at he
   ·cases he
   split at he
   ·cases he
   ·cases he
 ·intro hk;rw [if_pos hk]
theorem wrd_err (x:Img.Im):(wrd x).2=chk x∧(chk x≠0→(wrd x).1=[]):=by
 unfold wrd
 by_cases h:chk x=0
 ·rw [if_pos h];exact ⟨h.symm,fun h1=>absurd h h1⟩
 ·rw [if_neg h];exact ⟨rfl,fun _=>rfl⟩

end Shp
end Go.Proofs.YtkiamgcpcneggaaGreat
