/-
  No cell of these rows narrows 'for every input' (looked for: loops, veiled, ifaces, maps, wideKeys, modest, calm, conditions, laid).
  DERIVED. THE GIVEN ROWS OF THIS SEAT. 5 by the template 'for every input the law returns true; each argument reads behind the call as it read before'; 0 by the template 'total and deterministic' (their statements: YtpcebfefbnpbpaaTotals.lean).
  GIVEN WITH THE SEED: the statements are not yours to turn. If you find one false, say at which input.
  Laid BY PROGRAM, IN A SANDBOX (cutbox-rows.mjs): the forced cells as the released guide's own fill.sh prints them over the translation c0e033d4a0a6902a… (all of the seat's roots in one cut). By AI agents, Wed Nov 11 2026. No macro, syntax, notation, axiom, sorry.
-/
import Derived.Test.YtpcebfefbnpbpaaChecked
import GoSem.Claim
import GoSem.ClaimJoined
import GoSem.ClaimMapViews
import Derived.JoinedTies
import Derived.KernelRfl
namespace Go.Proofs.Ytpcebfefbnpbpaa
/- THE CELL 'sum', in the pinned program and in every row, IS THE sha256 OF THE DUMP (.gsa) THAT YtpcebfefbnpbpaaProg.lean LOADS. Nothing in Lean hashes anything: it is a label: what it is worth is what the hold of that sum in a sandbox is worth. -/
noncomputable def Try.pinned : Pinned := { name := "ytpcebfefbnpbpaa", sum := "c0e033d4a0a6902a4347d2c567dd536ed4801db72eabbf35f0b9bce522f46a7e", checked := Try.checked }
namespace Rows
def none {H : Type} : Left H := { results := [], args := [] }

/-- 'spellwrightlaw17.StepsTell': WHATEVER THE INPUT: true; the input reads as it did. -/
def stepsTellSpec : ChangeSpec := { name := "stepsTell", fn := fun _ => fun
  | [d1, d2, d3] => { results := [.lit (.bool true)], args := [d1, d2, d3] }
  | _ => none }
def stepsTellRow : OpenClaim := { program := "ytpcebfefbnpbpaa", sum := "c0e033d4a0a6902a4347d2c567dd536ed4801db72eabbf35f0b9bce522f46a7e", func := "spellwright/spellwrightlaw17.StepsTell", spec := "stepsTell", unfollowed := true, recurses := true, plainKeys := false, apart := false }
def StepsTellSaid : Prop := stepsTellRow.holds Try.pinned (OpenSpec.ofChange stepsTellSpec)

/-- ITS FALSE NEIGHBOUR: 'it returns false'. Refute it at one input. -/
def stepsTellWrong : ChangeSpec := { name := "stepsTell", fn := fun _ => fun
  | [d1, d2, d3] => { results := [.lit (.bool false)], args := [d1, d2, d3] }
  | _ => none }
def StepsTellWrongFalsely : Prop := stepsTellRow.holds Try.pinned (OpenSpec.ofChange stepsTellWrong)

/-- 'spellwrightlaw17.StepsMove': WHATEVER THE INPUT: true; the input reads as it did. -/
def stepsMoveSpec : ChangeSpec := { name := "stepsMove", fn := fun _ => fun
  | [d1, d2, d3] => { results := [.lit (.bool true)], args := [d1, d2, d3] }
  | _ => none }
def stepsMoveRow : OpenClaim := { program := "ytpcebfefbnpbpaa", sum := "c0e033d4a0a6902a4347d2c567dd536ed4801db72eabbf35f0b9bce522f46a7e", func := "spellwright/spellwrightlaw17.StepsMove", spec := "stepsMove", unfollowed := true, recurses := true, plainKeys := false, apart := false }
def StepsMoveSaid : Prop := stepsMoveRow.holds Try.pinned (OpenSpec.ofChange stepsMoveSpec)

/-- ITS FALSE NEIGHBOUR: 'it returns false'. Refute it at one input. -/
def stepsMoveWrong : ChangeSpec := { name := "stepsMove", fn := fun _ => fun
  | [d1, d2, d3] => { results := [.lit (.bool false)], args := [d1, d2, d3] }
  | _ => none }
def StepsMoveWrongFalsely : Prop := stepsMoveRow.holds Try.pinned (OpenSpec.ofChange stepsMoveWrong)

/-- 'spellwrightlaw17.StepsBehind': WHATEVER THE INPUT: true; the input reads as it did. -/
def stepsBehindSpec : ChangeSpec := { name := "stepsBehind", fn := fun _ => fun
  | [d1, d2, d3, d4] => { results := [.lit (.bool true)], args := [d1, d2, d3, d4] }
  | _ => none }
def stepsBehindRow : OpenClaim := { program := "ytpcebfefbnpbpaa", sum := "c0e033d4a0a6902a4347d2c567dd536ed4801db72eabbf35f0b9bce522f46a7e", func := "spellwright/spellwrightlaw17.StepsBehind", spec := "stepsBehind", unfollowed := true, recurses := true, plainKeys := false, apart := false }
def StepsBehindSaid : Prop := stepsBehindRow.holds Try.pinned (OpenSpec.ofChange stepsBehindSpec)

/-- ITS FALSE NEIGHBOUR: 'it returns false'. Refute it at one input. -/
def stepsBehindWrong : ChangeSpec := { name := "stepsBehind", fn := fun _ => fun
  | [d1, d2, d3, d4] => { results := [.lit (.bool false)], args := [d1, d2, d3, d4] }
  | _ => none }
def StepsBehindWrongFalsely : Prop := stepsBehindRow.holds Try.pinned (OpenSpec.ofChange stepsBehindWrong)

/-- 'spellwrightlaw17.StepsFew': WHATEVER THE INPUT: true; the input reads as it did. -/
def stepsFewSpec : ChangeSpec := { name := "stepsFew", fn := fun _ => fun
  | [d1, d2, d3, d4] => { results := [.lit (.bool true)], args := [d1, d2, d3, d4] }
  | _ => none }
def stepsFewRow : OpenClaim := { program := "ytpcebfefbnpbpaa", sum := "c0e033d4a0a6902a4347d2c567dd536ed4801db72eabbf35f0b9bce522f46a7e", func := "spellwright/spellwrightlaw17.StepsFew", spec := "stepsFew", unfollowed := true, recurses := true, plainKeys := false, apart := false }
def StepsFewSaid : Prop := stepsFewRow.holds Try.pinned (OpenSpec.ofChange stepsFewSpec)

/-- ITS FALSE NEIGHBOUR: 'it returns false'. Refute it at one input. -/
def stepsFewWrong : ChangeSpec := { name := "stepsFew", fn := fun _ => fun
  | [d1, d2, d3, d4] => { results := [.lit (.bool false)], args := [d1, d2, d3, d4] }
  | _ => none }
def StepsFewWrongFalsely : Prop := stepsFewRow.holds Try.pinned (OpenSpec.ofChange stepsFewWrong)

/-- 'spellwrightlaw17.StepsMany': WHATEVER THE INPUT: true; the input reads as it did. -/
def stepsManySpec : ChangeSpec := { name := "stepsMany", fn := fun _ => fun
  | [d1, d2, d3] => { results := [.lit (.bool true)], args := [d1, d2, d3] }
  | _ => none }
def stepsManyRow : OpenClaim := { program := "ytpcebfefbnpbpaa", sum := "c0e033d4a0a6902a4347d2c567dd536ed4801db72eabbf35f0b9bce522f46a7e", func := "spellwright/spellwrightlaw17.StepsMany", spec := "stepsMany", unfollowed := true, recurses := true, plainKeys := false, apart := false }
def StepsManySaid : Prop := stepsManyRow.holds Try.pinned (OpenSpec.ofChange stepsManySpec)

/-- ITS FALSE NEIGHBOUR: 'it returns false'. Refute it at one input. -/
def stepsManyWrong : ChangeSpec := { name := "stepsMany", fn := fun _ => fun
  | [d1, d2, d3] => { results := [.lit (.bool false)], args := [d1, d2, d3] }
  | _ => none }
def StepsManyWrongFalsely : Prop := stepsManyRow.holds Try.pinned (OpenSpec.ofChange stepsManyWrong)

/- THE SECOND FORM. 'bulk': how many values and letters a reading holds, each counted each time it is reached (what is shared counts as often as it is met; a slice's spare places count too). A statement '..UptoSaid' is the law's where the arguments, and the package variables that the reading takes, are together of bulk at most 1048576: NARROWER than '..Said'. Prove '..Said' where nothing that the law and all that it calls make is longer than what came in: it says more and counts as full. Else prove '..UptoSaid'. A law counts once. -/
mutual
def uptoBulk {H : Type} : DataW H → Nat
  | .lit (.string bytes) => bytes.length + 1
  | .lit _ => 1
  | .nil => 1
  | .ptr d => uptoBulk d + 1
  | .slice elems spare => uptoBulkAll elems + uptoBulkAll spare + 1
  | .agg parts => uptoBulkAll parts + 1
  | .iface _ d => uptoBulk d + 1
  | .map entries => uptoBulkEntries entries + 1
  | .held _ => 1
def uptoBulkAll {H : Type} : List (DataW H) → Nat
  | [] => 0
  | d :: r => uptoBulk d + uptoBulkAll r
def uptoBulkEntries {H : Type} : List (Lit × DataW H) → Nat
  | [] => 0
  | x :: r => uptoBulkEntry x + uptoBulkEntries r
def uptoBulkEntry {H : Type} : Lit × DataW H → Nat
  | (.string bytes, d) => bytes.length + uptoBulk d + 1
  | (_, d) => uptoBulk d + 1
 end
def uptoSmall : (H : Type) → List (DataW H) → Bool := fun _ ds => decide (uptoBulkAll ds ≤ 1048576)
def OpenSpec.upto (s : _root_.Go.ChangeSpec) : _root_.Go.OpenSpec := { _root_.Go.OpenSpec.ofChange s with cond := some uptoSmall }

/-- 'spellwrightlaw17.StepsTell', WHERE WHAT IT READS IS OF BULK AT MOST 1048576: true; the input reads as it did. -/
def stepsTellUptoRow : OpenClaim := { program := "ytpcebfefbnpbpaa", sum := "c0e033d4a0a6902a4347d2c567dd536ed4801db72eabbf35f0b9bce522f46a7e", func := "spellwright/spellwrightlaw17.StepsTell", spec := "stepsTell", unfollowed := true, recurses := true, plainKeys := false, apart := false, narrowed := true }
def StepsTellUptoSaid : Prop := stepsTellUptoRow.holds Try.pinned (OpenSpec.upto stepsTellSpec)

/-- 'spellwrightlaw17.StepsMove', WHERE WHAT IT READS IS OF BULK AT MOST 1048576: true; the input reads as it did. -/
def stepsMoveUptoRow : OpenClaim := { program := "ytpcebfefbnpbpaa", sum := "c0e033d4a0a6902a4347d2c567dd536ed4801db72eabbf35f0b9bce522f46a7e", func := "spellwright/spellwrightlaw17.StepsMove", spec := "stepsMove", unfollowed := true, recurses := true, plainKeys := false, apart := false, narrowed := true }
def StepsMoveUptoSaid : Prop := stepsMoveUptoRow.holds Try.pinned (OpenSpec.upto stepsMoveSpec)

/-- 'spellwrightlaw17.StepsBehind', WHERE WHAT IT READS IS OF BULK AT MOST 1048576: true; the input reads as it did. -/
def stepsBehindUptoRow : OpenClaim := { program := "ytpcebfefbnpbpaa", sum := "c0e033d4a0a6902a4347d2c567dd536ed4801db72eabbf35f0b9bce522f46a7e", func := "spellwright/spellwrightlaw17.StepsBehind", spec := "stepsBehind", unfollowed := true, recurses := true, plainKeys := false, apart := false, narrowed := true }
def StepsBehindUptoSaid : Prop := stepsBehindUptoRow.holds Try.pinned (OpenSpec.upto stepsBehindSpec)

/-- 'spellwrightlaw17.StepsFew', WHERE WHAT IT READS IS OF BULK AT MOST 1048576: true; the input reads as it did. -/
def stepsFewUptoRow : OpenClaim := { program := "ytpcebfefbnpbpaa", sum := "c0e033d4a0a6902a4347d2c567dd536ed4801db72eabbf35f0b9bce522f46a7e", func := "spellwright/spellwrightlaw17.StepsFew", spec := "stepsFew", unfollowed := true, recurses := true, plainKeys := false, apart := false, narrowed := true }
def StepsFewUptoSaid : Prop := stepsFewUptoRow.holds Try.pinned (OpenSpec.upto stepsFewSpec)

/-- 'spellwrightlaw17.StepsMany', WHERE WHAT IT READS IS OF BULK AT MOST 1048576: true; the input reads as it did. -/
def stepsManyUptoRow : OpenClaim := { program := "ytpcebfefbnpbpaa", sum := "c0e033d4a0a6902a4347d2c567dd536ed4801db72eabbf35f0b9bce522f46a7e", func := "spellwright/spellwrightlaw17.StepsMany", spec := "stepsMany", unfollowed := true, recurses := true, plainKeys := false, apart := false, narrowed := true }
def StepsManyUptoSaid : Prop := stepsManyUptoRow.holds Try.pinned (OpenSpec.upto stepsManySpec)

end Rows
end Go.Proofs.Ytpcebfefbnpbpaa
