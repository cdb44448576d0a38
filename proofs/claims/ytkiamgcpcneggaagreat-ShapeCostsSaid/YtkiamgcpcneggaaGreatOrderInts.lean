/- Used by the law. -/
import Derived.Test.YtkiamgcpcneggaaGreatPackI
set_option linter.all false
namespace Go.Proofs.YtkiamgcpcneggaaGreat
open Go.RowKit

set_option maxRecDepth 100000 in
theorem append_ints {w:World} {ops:Array Oper} {rest:List Oper} {o:Oper} {act:Act} {Q:Exit→Act→World→Prop} (hgd:o.guard=none) (s x:Operand)
 (ho:o.op=.call { callee:=.builtin .append,args:=#[s,x],argTypes:=#[51,51] }) (base:Nat) (v:Value) (n:Nat) (xs:List Int) (hs:act.eval s=v)
 (hown:w.ownsRow base 3 1 v n (i64s xs)) (a:Option Addr) (m c:Nat) (zs:List Int) (hx:act.eval x=.slice a m c) (hz:Sl .i64 w a m c zs) (ha:a=none→c=0)
 (N:Nat) (hN:n + m=N) (h63:N * 8≤140737488355328) (hbase:base≤w.heap.size)
 (h:∀ a' c' w',w'.ownsRow base 3 1 (.slice a' N c') N (i64s (xs ++ zs))→Below base w w'→(a'=none→c'=0)→wpList Tryz.prog ops Q rest (act.put o.dst (.slice a' N c')) w') :
 wpList Tryz.prog ops Q (o :: rest) act w:=by
 subst hN
 obtain ⟨i0,hi,hz0,hz1,hz2⟩:=info_parts info_int
 have form:∀ {w':World} {v':Value} {k:Nat} {l:List Value},w'.ownsRow base 3 1 v' k l→∃ a' c',v'=.slice a' k c'∧(a'=none→c'=0):=by
  intro w' v' k l ho
  rcases ho.2 with ⟨h1,h2⟩|⟨g,cap,cur,h1,_⟩
  ·subst h2;exact ⟨none,0,h1,fun _=>rfl⟩
  ·exact ⟨_,cap,h1,fun h=>by cases h⟩
 cases a with
 | none =>
   obtain rfl:=ha rfl
   obtain rfl:m=0:=by have:=hz.2.1;omega
   obtain rfl:zs=[]:=List.eq_nil_of_length_eq_zero hz.1
   obtain ⟨a',c',rfl,hnil⟩:=form hown
   refine wpList_append_own_none hgd s x 51 ho base 3 i0 1 Tryz.underlying51 hi _ n (i64s xs) hs hown hx ?_
   exact h a' c' w (by simpa using hown) (Below.refl _ _) hnil
 | some y =>
   have hnews:∀ j u,(i64s zs)[j]?=some u→w.cell? (y.add j)=some u:=by
    intro j u hj
    have hjl:j < zs.length:=by
     rcases Nat.lt_or_ge j zs.length with hlt|hge
     ·exact hlt
     ·simp [i64s,List.getElem?_eq_none hge] at hj
    obtain ⟨b,off,hy,_,hc⟩:=hz.at (by have:=hz.1;omega)
    simp only [Option.some.injEq] at hy
    subst hy
    have:=hc j (by have:=hz.1;omega)
    rw [show (⟨b,off,none⟩:Addr).add j=⟨b,off + j,none⟩ from by simp [Addr.add],this]
    simp [i64s,hjl] at hj
    rw [← hj];simp [hjl]
   refine wpList_append_own w hgd s x 51 ho base 3 i0 (.int .i64 0) 1 8 Tryz.underlying51 hi hz0 hz1 hz2 rfl (by decide) v n (i64s xs) hs hown y m c (i64s zs) hx (by simp [i64s,hz.1]) hnews (ints_oneCell .i64 zs) (by unfold maxLen;omega) h63 hbase ?_
   intro v' w' hown' hgrow _
   obtain ⟨a',c',rfl,hnil⟩:=form hown'
   refine h a' c' w' (by rw [show i64s (xs ++ zs)=i64s xs ++ i64s zs from by simp [i64s]];exact hown') ?_ hnil
   exact (Below.refl _ _).grown hgrow hbase (fun k hk=>(hown.lt k hk).1)
theorem owns_none_ints (w:World):(w.alloc (.cells #[] 3)).ownsRow w.heap.size 3 1 (.slice (some ⟨w.heap.size,0,none⟩) 0 0) 0 (i64s []):=by
 have h:=World.ownsRow_lit (base:=w.heap.size) (e:=3) (size:=1) w #[] 0 (Nat.le_refl _) (Nat.zero_le _) (by simp)
 simpa [i64s] using h

end Go.Proofs.YtkiamgcpcneggaaGreat
