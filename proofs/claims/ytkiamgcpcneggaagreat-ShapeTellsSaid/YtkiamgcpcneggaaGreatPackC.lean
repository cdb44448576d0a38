import Derived.Test.YtkiamgcpcneggaaGreatPackB
set_option linter.all false
set_option maxRecDepth 100000
set_option maxHeartbeats 12800000
namespace Go.Proofs.YtkiamgcpcneggaaGreat
section
open Tri

noncomputable def made (ws:LLI):List St × Int:=if (Wl.write ws).2=0 then (make ws,0) else ([],(Wl.write ws).2)
end
section
open Tri Daw

noncomputable def og (ws:LLI):List St × Int:=if (Wl.write ws).2=0 then (bL ws,0) else ([],(Wl.write ws).2)
theorem Jq {ws:LLI}:(made ws).2=(Wl.write ws).2/\((Wl.write ws).2=0->(made ws).1=make ws):=by
 unfold made;by_cases he:(Wl.write ws).2=0
 ·rw [if_pos he];exact ⟨he.symm,fun _=>rfl⟩
 ·rw [if_neg he];exact ⟨rfl,fun h=>absurd h he⟩
end
section
namespace Wlk
open Tri Daw

theorem Xn {ws:LLI} (h:(Wl.write ws).2=0):ws.length<=300/\Tri.Short ws/\aM ws/\(∀w∈ws,Utf.bf w=true):=by
 rcases Wl.AU ws with ⟨_,h1,h2,h3,_⟩|⟨h1,_⟩
 ·exact ⟨h1,fun z hz=>(Wl.fit_parts (h2 z hz)).2.1,h3,fun z hz=>(Wl.fit_parts (h2 z hz)).2.2.1⟩
 ·exact absurd h h1
theorem Jr {ws:LLI}:∃gl,og ws=(gl,(Wl.write ws).2)/\((Wl.write ws).2=0->gl=bL ws):=by
 unfold og;by_cases he:(Wl.write ws).2=0
 ·rw [if_pos he];exact ⟨_,Prod.ext rfl he.symm,fun _=>rfl⟩
 ·rw [if_neg he];exact ⟨_,rfl,fun h=>absurd h he⟩
theorem aiQ {ws:LLI} (hs:Tri.Short ws) (hr:aM ws) (w:LIn):has (bL ws) 0 w=decide (w∈ws):=by
 unfold has;by_cases h:w∈begs ws
 ·rw [show ((0:Nat):Int)=0 from rfl,(Xm hs hr w).1 h];simp only [Int.toNat_natCast];exact aiL h
 ·rw [show ((0:Nat):Int)=0 from rfl,(Xm hs hr w).2 h];exact (decide_eq_false fun h'=>h (UJ hs h')).symm
theorem aiR {l:List St} {ws:LLI} (hc:check l=true) (hr:aM ws) (h:∀w,has l 0 w=decide (w∈ws)):wds l 0=ws:=by
 have h0:0<l.length:=by have:=(jo hc).1;omega
 refine Ms (ain hc h0) hr fun x=>?_;rw [NU hc x h0,h x,decide_eq_true_eq]
structure Kq (l:List St) (ws:LLI):Prop where
 check:check l=true
 words:kE l=(ws,0)
 many:dK l=ws.length
 deep:gT l=dp ws
 has:∀w,Ol l w=decide (w∈ws)
theorem aiS {l:List St} {ws:LLI} (hc:Tri.check l=true) (hr:aM ws) (hl:ws.length<=300) (h:∀w,Wlk.has l 0 w=decide (w∈ws)):Kq l ws:=by
 have e:=aiR hc hr h;refine ⟨hc,?_,?_,?_,fun w=>?_⟩
 ·unfold kE;rw [if_neg (by rw [hc];exact Bool.noConfusion),e,if_neg omg]
 ·unfold dK mny;rw [if_pos hc,e];omega
 ·unfold gT;rw [if_pos hc,e]
 ·unfold Ol;rw [hc,h w];rfl
theorem aiT {ws:LLI} (h:(Wl.write ws).2=0):Kq (bL ws) ws:=by
 obtain ⟨h1,h2,h3,h4⟩:=Xn h;exact aiS (aiO h2 h3 h4 h1) h3 h1 (aiQ h2 h3)
end Wlk
end
section
namespace Wlk
open Tri Daw

def at_ (l:List St) (q:LIn):Nat:=match walk l 0 q with|some t=>t.toNat|none=>0
end Wlk
end
section
namespace Shp
open Tri Daw Wlk

def chk (x:Img.Im):Int :=
 if Tri.check x.sts=false then 100
 else if File.check x.c=false then 60
 else if 300<dK x.sts then 81
 else if 20<gT x.sts then 90
 else if (x.sts.getD 0 St.no).final=true then 90
 else 0
def wrd (x:Img.Im):LLI × Int:=if chk x=0 then (wds x.sts 0,0) else ([],chk x)
noncomputable def mk (ws:LLI) (c:File.Cst):Img.Im × Int :=
 if (og ws).2=0 then (if File.check c=true then (⟨(og ws).1,c⟩,0) else (Img.Im.no,60)) else (Img.Im.no,(og ws).2)

theorem Xo {x:Img.Im} (h:chk x=0):Tri.check x.sts=true/\File.check x.c=true/\(wds x.sts 0).length<=300/\dp (wds x.sts 0)<=20/\(x.sts.getD 0 St.no).final=false:=by
 unfold chk at h;split at h
 ·cases h
 rename_i h1;split at h
 ·cases h
 rename_i h2;split at h
 ·cases h
 rename_i h3;split at h
 ·cases h
 rename_i h4;split at h
 ·cases h
 rename_i h5;have h1:Tri.check x.sts=true:=by simpa using h1
 have h2:File.check x.c=true:=by simpa using h2
 have h5:(x.sts.getD 0 St.no).final=false:=by simpa using h5
 refine ⟨h1,h2,?_,?_,h5⟩
 ·unfold dK mny at h3;rw [if_pos h1] at h3;omega
 ·unfold gT at h4;rw [if_pos h1] at h4;omega

end Shp
end
section
namespace Shp
open Tri Daw Wlk

theorem aiZ {ws:LLI} (h:∀w∈ws,Wl.fit w=true):dp ws<=20:=by
 have:=NY (ws:=ws) (n:=20) fun w hw=>(Wl.fit_parts (h w hw)).2.1;omega
theorem aja {l:List St} {ws:LLI} (hc:check l=true) (hm:Kq l ws) (h:∀w∈ws,Wl.fit w=true):(l.getD 0 St.no).final=false:=by
 have h0:=hm.has [];have hn:([]:LIn)∉ws:=fun hx=>(Wl.fit_parts (h [] hx)).1 rfl;rw [decide_eq_false hn] at h0;unfold Ol has at h0;rw [hc] at h0;simpa [walk] using h0
theorem ajb {l:List St} {ws:LLI} (hl:ws.length<=300) (hm:Kq l ws):wds l 0=ws:=by
 have h:=hm.words;rcases aiG h with ⟨_,_,e,_⟩|⟨he,_⟩|⟨he,_⟩
 ·exact e.symm
 ·exact absurd he (by decide)
 ·exact absurd he (by decide)
theorem ajc {ws:LLI} {c:File.Cst} {x:Img.Im} (h:mk ws c=(x,0)) :
 (Wl.write ws).2=0/\File.check c=true/\x=⟨bL ws,c⟩/\chk x=0/\wrd x=(ws,0):=by
 unfold mk at h;obtain ⟨gl,hd,hgl⟩:=Jr (ws:=ws);by_cases hw:(Wl.write ws).2=0
 ·have hgl:=hgl hw;subst hgl;rw [hd,if_pos hw] at h;by_cases hc:File.check c=true
  ·rw [if_pos hc] at h;have hx:x=⟨bL ws,c⟩:=(Prod.mk.inj h).1.symm;subst hx;have hm:=aiT hw;obtain ⟨h1,_⟩:=Xn hw
   have hf:∀w∈ws,Wl.fit w=true:=by
    rcases Wl.AU ws with ⟨_,_,h2,_⟩|⟨h2,_⟩
    ·exact h2
    ·exact absurd hw h2
   have hk:=hm.check
   have hck:chk ⟨bL ws,c⟩=0:=by
    unfold chk;have hma:dK (bL ws)=ws.length:=hm.many;have hde:gT (bL ws)=dp ws:=hm.deep;have asy:=aiZ hf;have hs:=aja hk hm hf;show (if check (bL ws)=false then 100 else if File.check c=false then 60 else if 300<dK (bL ws) then 81 else if 20<gT (bL ws) then 90 else if ((bL ws).getD 0 St.no).final=true then 90 else (0:Int))=0;rw [hk,hc,hma,hde,hs,if_neg Bool.noConfusion,if_neg Bool.noConfusion,if_neg omg,if_neg omg,if_neg Bool.noConfusion]
   refine ⟨hw,hc,rfl,hck,?_⟩;unfold wrd;rw [if_pos hck];show (wds (bL ws) 0,(0:Int))=_;rw [ajb h1 hm]
  ·rw [if_neg hc] at h;exact absurd (Prod.mk.inj h).2 (by decide)
 ·rw [hd,if_neg hw] at h;exact absurd (Prod.mk.inj h).2 hw
theorem ajd {ws:LLI} {c:File.Cst} (h:(Wl.write ws).2=0) (hc:File.check c=true):mk ws c=(⟨bL ws,c⟩,0):=by
 unfold mk;obtain ⟨gl,hd,hgl⟩:=Jr (ws:=ws);have hgl:=hgl h;subst hgl;rw [hd,if_pos h,if_pos hc]
theorem Xp {x:Img.Im} (h:check x.sts=false):chk x=100:=by unfold chk;rw [if_pos h]
theorem aje {x:Img.Im} (h:check x.sts=true):chk x=60↔File.check x.c=false:=by
 unfold chk;rw [if_neg (by rw [h];exact Bool.noConfusion)];constructor
 ·intro he;by_cases hk:File.check x.c=false
  ·exact hk
  ·rw [if_neg hk] at he;split at he
   ·cases he
   split at he
   ·cases he
   split at he
   ·cases he
   ·cases he
 ·intro hk;rw [if_pos hk]
end Shp
end
end Go.Proofs.YtkiamgcpcneggaaGreat
