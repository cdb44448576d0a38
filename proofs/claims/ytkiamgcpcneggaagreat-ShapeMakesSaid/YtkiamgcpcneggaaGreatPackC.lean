import Derived.Test.YtkiamgcpcneggaaGreatPackB
set_option linter.all false
set_option maxRecDepth 100000
set_option maxHeartbeats 12800000
namespace Go.Proofs.YtkiamgcpcneggaaGreat
section
open Tri

noncomputable def made (ws:List (List Int)):List St × Int:=if (Wl.write ws).2=0 then (make ws,0) else ([],(Wl.write ws).2)
end
section
open Tri Daw

noncomputable def dmade (ws:List (List Int)):List St × Int:=if (Wl.write ws).2=0 then (dmake ws,0) else ([],(Wl.write ws).2)
theorem aap {ws:List (List Int)}:(made ws).2=(Wl.write ws).2/\((Wl.write ws).2=0->(made ws).1=make ws):=by
 unfold made;by_cases he:(Wl.write ws).2=0
 ·rw [if_pos he];exact ⟨he.symm,fun _=>rfl⟩
 ·rw [if_neg he];exact ⟨rfl,fun h=>absurd h he⟩
end
section
namespace Wlk
open Tri Daw

theorem adf {ws:List (List Int)} (h:(Wl.write ws).2=0):ws.length<=300/\Tri.Short ws/\Rise ws/\(∀w∈ws,Utf.allGood w=true):=by
 rcases Wl.ny ws with ⟨_,h1,h2,h3,_⟩|⟨h1,_⟩
 ·exact ⟨h1,fun z hz=>(Wl.fit_parts (h2 z hz)).2.1,h3,fun z hz=>(Wl.fit_parts (h2 z hz)).2.2.1⟩
 ·exact absurd h h1
theorem nc {ws:List (List Int)}:∃gl,dmade ws=(gl,(Wl.write ws).2)/\((Wl.write ws).2=0->gl=dmake ws):=by
 unfold dmade;by_cases he:(Wl.write ws).2=0
 ·rw [if_pos he];exact ⟨_,Prod.ext rfl he.symm,fun _=>rfl⟩
 ·rw [if_neg he];exact ⟨_,rfl,fun h=>absurd h he⟩
theorem apc {ws:List (List Int)} (hs:Tri.Short ws) (hr:Rise ws) (w:List Int):has (dmake ws) 0 w=decide (w∈ws):=by
 unfold has;by_cases h:w∈begs ws
 ·rw [show ((0:Nat):Int)=0 from rfl,(dwalk hs hr w).1 h];simp only [Int.toNat_natCast];exact dfinal h
 ·rw [show ((0:Nat):Int)=0 from rfl,(dwalk hs hr w).2 h];exact (decide_eq_false fun h'=>h (ach hs h')).symm
theorem aya {l:List St} {ws:List (List Int)} (hc:check l=true) (hr:Rise ws) (h:∀w,has l 0 w=decide (w∈ws)):wds l 0=ws:=by
 have h0:0<l.length:=by have:=(cp hc).1;omega
 refine oq (awn hc h0) hr fun x=>?_;rw [abr hc x h0,h x,decide_eq_true_eq]
structure Mds (l:List St) (ws:List (List Int)):Prop where
 check:check l=true
 words:wordsC l=(ws,0)
 many:manyC l=ws.length
 deep:deepC l=dp ws
 has:∀w,hasC l w=decide (w∈ws)
theorem ayb {l:List St} {ws:List (List Int)} (hc:Tri.check l=true) (hr:Rise ws) (hl:ws.length<=300) (h:∀w,Wlk.has l 0 w=decide (w∈ws)):Mds l ws:=by
 have e:=aya hc hr h;refine ⟨hc,?_,?_,?_,fun w=>?_⟩
 ·unfold wordsC;rw [if_neg (by rw [hc];exact Bool.noConfusion),e,if_neg (by omega)]
 ·unfold manyC mny;rw [if_pos hc,e];omega
 ·unfold deepC;rw [if_pos hc,e]
 ·unfold hasC;rw [hc,h w];rfl
theorem apd {ws:List (List Int)} (h:(Wl.write ws).2=0):Mds (dmake ws) ws:=by
 obtain ⟨h1,h2,h3,h4⟩:=adf h;exact ayb (aiq h2 h3 h4 h1) h3 h1 (apc h2 h3)
end Wlk
end
section
namespace Wlk
open Tri Daw

def at_ (l:List St) (q:List Int):Nat:=match walk l 0 q with|some t=>t.toNat|none=>0
end Wlk
end
section
namespace Shp
open Tri Daw Wlk

def chk (x:Img.Im):Int :=
 if Tri.check x.sts=false then 100
 else if File.check x.c=false then 60
 else if 300<manyC x.sts then 81
 else if 20<deepC x.sts then 90
 else if (x.sts.getD 0 St.no).final=true then 90
 else 0
def wrd (x:Img.Im):List (List Int) × Int:=if chk x=0 then (wds x.sts 0,0) else ([],chk x)
noncomputable def mk (ws:List (List Int)) (c:File.Cst):Img.Im × Int :=
 if (dmade ws).2=0 then (if File.check c=true then (⟨(dmade ws).1,c⟩,0) else (Img.Im.no,60)) else (Img.Im.no,(dmade ws).2)

theorem ape {x:Img.Im} (h:chk x=0):Tri.check x.sts=true/\File.check x.c=true/\(wds x.sts 0).length<=300/\dp (wds x.sts 0)<=20/\(x.sts.getD 0 St.no).final=false:=by
 unfold chk at h;split at h
 ·cases h
 rename_i h1;split at h
 ·cases h
 rename_i h2;split at h
 ·cases h
 rename_i h3;split at h
 ·cases h
 rename_i h4;split at h
 ·cases h
 rename_i h5;have h1:Tri.check x.sts=true:=by simpa using h1
 have h2:File.check x.c=true:=by simpa using h2
 have h5:(x.sts.getD 0 St.no).final=false:=by simpa using h5
 refine ⟨h1,h2,?_,?_,h5⟩
 ·unfold manyC mny at h3;rw [if_pos h1] at h3;omega
 ·unfold deepC at h4;rw [if_pos h1] at h4;omega

end Shp
end
section
namespace Shp
open Tri Daw Wlk

theorem awu {ws:List (List Int)} (h:∀w∈ws,Wl.fit w=true):dp ws<=20:=by
 have:=ave (ws:=ws) (n:=20) fun w hw=>(Wl.fit_parts (h w hw)).2.1;omega
theorem aph {l:List St} {ws:List (List Int)} (hc:check l=true) (hm:Mds l ws) (h:∀w∈ws,Wl.fit w=true):(l.getD 0 St.no).final=false:=by
 have h0:=hm.has [];have hn:([]:List Int)∉ws:=fun hx=>(Wl.fit_parts (h [] hx)).1 rfl;rw [decide_eq_false hn] at h0;unfold hasC has at h0;rw [hc] at h0;simpa [walk] using h0
theorem awv {l:List St} {ws:List (List Int)} (hl:ws.length<=300) (hm:Mds l ws):wds l 0=ws:=by
 have h:=hm.words;rcases apa h with ⟨_,_,e,_⟩|⟨he,_⟩|⟨he,_⟩
 ·exact e.symm
 ·exact absurd he (by decide)
 ·exact absurd he (by decide)
theorem avf {ws:List (List Int)} {c:File.Cst} {x:Img.Im} (h:mk ws c=(x,0)) :
 (Wl.write ws).2=0/\File.check c=true/\x=⟨dmake ws,c⟩/\chk x=0/\wrd x=(ws,0):=by
 unfold mk at h;obtain ⟨gl,hd,hgl⟩:=nc (ws:=ws);by_cases hw:(Wl.write ws).2=0
 ·have hgl:=hgl hw;subst hgl;rw [hd,if_pos hw] at h;by_cases hc:File.check c=true
  ·rw [if_pos hc] at h;have hx:x=⟨dmake ws,c⟩:=(Prod.mk.inj h).1.symm;subst hx;have hm:=apd hw;obtain ⟨h1,_⟩:=adf hw
   have hf:∀w∈ws,Wl.fit w=true:=by
    rcases Wl.ny ws with ⟨_,_,h2,_⟩|⟨h2,_⟩
    ·exact h2
    ·exact absurd hw h2
   have hk:=hm.check
   have hck:chk ⟨dmake ws,c⟩=0:=by
    unfold chk;have hma:manyC (dmake ws)=ws.length:=hm.many;have hde:deepC (dmake ws)=dp ws:=hm.deep;have hd20:=awu hf;have hs:=aph hk hm hf;show (if check (dmake ws)=false then 100 else if File.check c=false then 60 else if 300<manyC (dmake ws) then 81 else if 20<deepC (dmake ws) then 90 else if ((dmake ws).getD 0 St.no).final=true then 90 else (0:Int))=0
    rw [hk,hc,hma,hde,hs,if_neg Bool.noConfusion,if_neg Bool.noConfusion,if_neg (by omega),if_neg (by omega),if_neg Bool.noConfusion]
   refine ⟨hw,hc,rfl,hck,?_⟩;unfold wrd;rw [if_pos hck];show (wds (dmake ws) 0,(0:Int))=_;rw [awv h1 hm]
  ·rw [if_neg hc] at h;exact absurd (Prod.mk.inj h).2 (by decide)
 ·rw [hd,if_neg hw] at h;exact absurd (Prod.mk.inj h).2 hw
theorem ayc {ws:List (List Int)} {c:File.Cst} {x:Img.Im} {e:Int} (h:mk ws c=(x,e)) (he:e≠0) :
 ((Wl.write ws).2≠0\/File.check c=false)/\x=Img.Im.no:=by
 unfold mk at h;obtain ⟨gl,hd,_⟩:=nc (ws:=ws);rw [hd] at h;by_cases hw:(Wl.write ws).2=0
 ·rw [if_pos hw] at h;by_cases hc:File.check c=true
  ·rw [if_pos hc] at h;exact absurd (Prod.mk.inj h).2.symm he
  ·rw [if_neg hc] at h;exact ⟨.inr (by simpa using hc),(Prod.mk.inj h).1.symm⟩
 ·rw [if_neg hw] at h;exact ⟨.inl hw,(Prod.mk.inj h).1.symm⟩
theorem ayq {ws:List (List Int)} {c:File.Cst} (h:(Wl.write ws).2=0) (hc:File.check c=true):mk ws c=(⟨dmake ws,c⟩,0):=by
 unfold mk;obtain ⟨gl,hd,hgl⟩:=nc (ws:=ws);have hgl:=hgl h;subst hgl;rw [hd,if_pos h,if_pos hc]
theorem agn {x:Img.Im} (h:check x.sts=false):chk x=100:=by unfold chk;rw [if_pos h]
theorem ati {x:Img.Im} (h:check x.sts=true):chk x=60↔File.check x.c=false:=by
 unfold chk;rw [if_neg (by rw [h];exact Bool.noConfusion)]
 constructor
 ·intro he;by_cases hk:File.check x.c=false
  ·exact hk
  ·rw [if_neg hk] at he;split at he
   ·cases he
   split at he
   ·cases he
   split at he
   ·cases he
   ·cases he
 ·intro hk;rw [if_pos hk]
end Shp
end
end Go.Proofs.YtkiamgcpcneggaaGreat
