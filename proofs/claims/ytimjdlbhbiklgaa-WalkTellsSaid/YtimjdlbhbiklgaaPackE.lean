import Derived.Shelf.Abstract
import Derived.Shelf.RegionOpen
import Derived.OwnWalkIn
import Derived.TacticsInMore
import Derived.LoopNIn
import Derived.LoopIn
import Derived.Test.YtimjdlbhbiklgaaIterLaw
import Derived.Test.YtimjdlbhbiklgaaPackF
import Derived.Test.YtimjdlbhbiklgaaPackK
import Derived.Test.YtimjdlbhbiklgaaPackB
import Derived.Deep.OwnRows
import Derived.Laws.CopyOwn
import Derived.Maps.OwnIn
import Derived.Maps.AppendAt
import Derived.IntWalk
/- Used by the law. -/
namespace Go.Proofs.Ytimjdlbhbiklgaa
open Go.RowKit Go.Shelf
attribute [local go_sem] Oper.semAt_some

end Go.Proofs.Ytimjdlbhbiklgaa

/- Used by the law. -/
namespace Go.Proofs.Ytimjdlbhbiklgaa

end Go.Proofs.Ytimjdlbhbiklgaa

/- Used by the law. -/
namespace Go.Proofs.Ytimjdlbhbiklgaa
open Go.RowKit Go.Shelf
attribute [local go_sem] Oper.semAt_some

end Go.Proofs.Ytimjdlbhbiklgaa

/- Used by the law. -/
namespace Go.Proofs.Ytimjdlbhbiklgaa
open Go.RowKit Go.Shelf
attribute [local go_sem] Oper.semAt_some

def Bd.In (W : World) (x : Bd) : Prop :=
  ∃ b, x.a = some ⟨b, 0, none⟩ ∧ x.cap = x.n ∧ x.zs.length = x.n ∧ x.n ≤ maxLen ∧ (∀ z ∈ x.zs, (Lit.int .u8 z).wf = true) ∧ W.heap[b]? = some (.cells (x.zs.map (Value.int .u8)).toArray 5 (0, 0))
theorem Bd.In.good {W : World} {x : Bd} (h : x.In W) : x.Good W := by
  obtain ⟨b, h1, h2, h3, h4, h5, h6⟩ := h
  unfold Bd.Good
  rw [h1, h2]
  exact Sl.of_heap h6 h5 h3 h4
theorem Bd.In.kept {W W' : World} {x : Bd} {row : Option Nat} (h : x.In W) (hg : W.grownBy W' row) (hr : ∀ r, row = some r → ∀ cs fr, W.heap[r]? ≠ some (.cells cs 5 fr)) : x.In W' := by
  obtain ⟨b, h1, h2, h3, h4, h5, h6⟩ := h
  exact ⟨b, h1, h2, h3, h4, h5, (hg.block b (Array.getElem?_eq_some_iff.1 h6).1 (fun e => hr b e.symm _ _ h6)).trans h6⟩
theorem Boxed.below {W W' : World} {B : Nat} {t : TypeId} {v : Value} (h : Boxed W B t v) (hb : Below W.heap.size W W') : Boxed W' B t v := (hb.block B (Boxed.lt h)).trans h
theorem Below.grownBy {W W' : World} (h : Below W.heap.size W W') : W.grownBy W' none := ⟨h.os, h.tape, h.output, h.size, fun k hk _ => h.block k hk⟩
theorem Bd.In.keep {S : Nat → Prop} {W W' : World} {x : Bd} (h : x.In W) (hk : Keep S W W') (hs : ∀ b, x.a = some ⟨b, 0, none⟩ → S b) : x.In W' := by
  obtain ⟨b, h1, h2, h3, h4, h5, h6⟩ := h
  exact ⟨b, h1, h2, h3, h4, h5, hk.heap h6 (hs b h1)⟩
def RowsOwn (w w' : World) (e : Ending) (l : List (List Int)) : Prop :=
  ∃ a' m c' ys, e = .returned (.slice a' m c') ∧ Bs w' a' m c' ys ∧ bnums ys = l ∧ (a' = none → c' = 0) ∧ Below w.heap.size w w' ∧ ∀ y ∈ ys, ∃ b, y.a = some ⟨b, 0, none⟩
set_option maxRecDepth 100000 in
theorem RowsOwn.is {w w' : World} {e : Ending} {l : List (List Int)} (h : RowsOwn w w' e l) : RowsIs w w' e l := by
  obtain ⟨a', m, c', ys, h1, h2, h3, h4, h5, _⟩ := h
  exact ⟨a', m, c', ys, h1, h2, h3, h4, h5⟩
end Go.Proofs.Ytimjdlbhbiklgaa

/- Used by the law. -/
namespace Go.Proofs.Ytimjdlbhbiklgaa
open Go.RowKit Go.Shelf
attribute [local go_sem] Oper.semAt_some

end Go.Proofs.Ytimjdlbhbiklgaa
