/- The document's base of layer 7, and its Same of two specs. -/
import Derived.Test.YtdondndalpmdgaaPackA
import Derived.Test.YtdondndalpmdgaaPackB
import Derived.Test.YtdondndalpmdgaaGenU64
import Derived.Test.YtdondndalpmdgaaCostSame
import Derived.Test.YtdondndalpmdgaaNumRef
import Derived.Test.YtdondndalpmdgaaRuleRefB
import Derived.WalkArith
import Derived.Laws.AppendOwn
namespace Go.Proofs.Ytdondndalpmdgaa
open Go.RowKit

/-- a spec as a call answers it -/
def SpecIs (w w' : World) (e : Ending) (s : Spec.Sp) : Prop :=
  ∃ ba bn bc ra rn rc xs, e = .returned (.tuple #[.agg #[.slice ba bn bc, .slice ra rn rc], .int .i64 s.e]) ∧ Sl .u64 w' ba bn bc s.base ∧ (ba = none → bc = 0) ∧ Rs w' ra rn rc xs ∧ ruls xs = s.rules ∧ (ra = none → rc = 0) ∧ Below w.heap.size w w'
set_option maxRecDepth 100000 in
theorem info_spec : (Try.prog.info? 41).map (·.size) = some 2 := by kernel_rfl

set_option maxRecDepth 100000 in
theorem spec_cells (x : Option Addr) (n c : Nat) (y : Option Addr) (m d : Nat) : (#[Value.slice x n c, Value.slice y m d] : Array Value).all (·.oneCell') = true := by simp [Value.oneCell']
set_option maxRecDepth 100000 in
theorem costs_next {fs : List (List Int)} {f : List Int} : Spec.costs (f :: fs) = match Num.read f with
    | none => none
    | some c => (Spec.costs fs).map fun l => (c : Int) :: l := by
  rw [Spec.costs]
  cases Num.read f with
  | none => rfl
  | some c => cases Spec.costs fs <;> rfl
set_option maxRecDepth 100000 in
theorem dropD {l : List (List Int)} {i : Nat} (h : i < l.length) : l.drop i = l.getD i [] :: l.drop (i + 1) := by
  rw [List.drop_eq_getElem_cons h]; simp [h]

end Go.Proofs.Ytdondndalpmdgaa
