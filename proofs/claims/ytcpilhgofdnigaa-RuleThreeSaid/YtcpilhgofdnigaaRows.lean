/-
  No cell of these rows narrows 'for every input' (looked for: loops, veiled, ifaces, maps, wideKeys, modest, calm, conditions, laid).
  DERIVED. THE GIVEN ROWS OF THIS SEAT. 5 by the template 'for every input the law returns true; each argument reads behind the call as it read before'; 0 by the template 'total and deterministic' (their statements: YtcpilhgofdnigaaTotals.lean).
  GIVEN WITH THE SEED: the statements are not yours to turn. If you find one false, say at which input.
  Laid BY PROGRAM, IN A SANDBOX (cutbox-rows.mjs): the forced cells as the released guide's own fill.sh prints them over the translation a5d55d81aa28b699… (all of the seat's roots in one cut). By AI agents, Wed Nov 11 2026. No macro, syntax, notation, axiom, sorry.
-/
import Derived.Test.YtcpilhgofdnigaaChecked
import GoSem.Claim
import GoSem.ClaimJoined
import GoSem.ClaimMapViews
import Derived.JoinedTies
import Derived.KernelRfl
namespace Go.Proofs.Ytcpilhgofdnigaa
/- THE CELL 'sum', in the pinned program and in every row, IS THE sha256 OF THE DUMP (.gsa) THAT YtcpilhgofdnigaaProg.lean LOADS. Nothing in Lean hashes anything: it is a label: what it is worth is what the hold of that sum in a sandbox is worth. -/
noncomputable def Try.pinned : Pinned := { name := "ytcpilhgofdnigaa", sum := "a5d55d81aa28b69925bce0fb070bf4f6bdd9699a8338eb612a05a910e1a0ef93", checked := Try.checked }
namespace Rows
def none {H : Type} : Left H := { results := [], args := [] }

/-- 'spellwrightlaw06.RuleTells': WHATEVER THE INPUT: true; the input reads as it did. -/
def ruleTellsSpec : ChangeSpec := { name := "ruleTells", fn := fun _ => fun
  | [d1, d2, d3] => { results := [.lit (.bool true)], args := [d1, d2, d3] }
  | _ => none }
def ruleTellsRow : OpenClaim := { program := "ytcpilhgofdnigaa", sum := "a5d55d81aa28b69925bce0fb070bf4f6bdd9699a8338eb612a05a910e1a0ef93", func := "spellwright/spellwrightlaw06.RuleTells", spec := "ruleTells", unfollowed := true, recurses := true, plainKeys := false, apart := false }
def RuleTellsSaid : Prop := ruleTellsRow.holds Try.pinned (OpenSpec.ofChange ruleTellsSpec)

/-- ITS FALSE NEIGHBOUR: 'it returns false'. Refute it at one input. -/
def ruleTellsWrong : ChangeSpec := { name := "ruleTells", fn := fun _ => fun
  | [d1, d2, d3] => { results := [.lit (.bool false)], args := [d1, d2, d3] }
  | _ => none }
def RuleTellsWrongFalsely : Prop := ruleTellsRow.holds Try.pinned (OpenSpec.ofChange ruleTellsWrong)

/-- 'spellwrightlaw06.RuleNorm': WHATEVER THE INPUT: true; the input reads as it did. -/
def ruleNormSpec : ChangeSpec := { name := "ruleNorm", fn := fun _ => fun
  | [d1, d2] => { results := [.lit (.bool true)], args := [d1, d2] }
  | _ => none }
def ruleNormRow : OpenClaim := { program := "ytcpilhgofdnigaa", sum := "a5d55d81aa28b69925bce0fb070bf4f6bdd9699a8338eb612a05a910e1a0ef93", func := "spellwright/spellwrightlaw06.RuleNorm", spec := "ruleNorm", unfollowed := true, recurses := true, plainKeys := false, apart := false }
def RuleNormSaid : Prop := ruleNormRow.holds Try.pinned (OpenSpec.ofChange ruleNormSpec)

/-- ITS FALSE NEIGHBOUR: 'it returns false'. Refute it at one input. -/
def ruleNormWrong : ChangeSpec := { name := "ruleNorm", fn := fun _ => fun
  | [d1, d2] => { results := [.lit (.bool false)], args := [d1, d2] }
  | _ => none }
def RuleNormWrongFalsely : Prop := ruleNormRow.holds Try.pinned (OpenSpec.ofChange ruleNormWrong)

/-- 'spellwrightlaw06.RuleHas': WHATEVER THE INPUT: true; the input reads as it did. -/
def ruleHasSpec : ChangeSpec := { name := "ruleHas", fn := fun _ => fun
  | [d] => { results := [.lit (.bool true)], args := [d] }
  | _ => none }
def ruleHasRow : OpenClaim := { program := "ytcpilhgofdnigaa", sum := "a5d55d81aa28b69925bce0fb070bf4f6bdd9699a8338eb612a05a910e1a0ef93", func := "spellwright/spellwrightlaw06.RuleHas", spec := "ruleHas", unfollowed := true, recurses := true, plainKeys := false, apart := false }
def RuleHasSaid : Prop := ruleHasRow.holds Try.pinned (OpenSpec.ofChange ruleHasSpec)

/-- ITS FALSE NEIGHBOUR: 'it returns false'. Refute it at one input. -/
def ruleHasWrong : ChangeSpec := { name := "ruleHas", fn := fun _ => fun
  | [d] => { results := [.lit (.bool false)], args := [d] }
  | _ => none }
def RuleHasWrongFalsely : Prop := ruleHasRow.holds Try.pinned (OpenSpec.ofChange ruleHasWrong)

/-- 'spellwrightlaw06.RuleThree': WHATEVER THE INPUT: true; the input reads as it did. -/
def ruleThreeSpec : ChangeSpec := { name := "ruleThree", fn := fun _ => fun
  | [d1, d2, d3] => { results := [.lit (.bool true)], args := [d1, d2, d3] }
  | _ => none }
def ruleThreeRow : OpenClaim := { program := "ytcpilhgofdnigaa", sum := "a5d55d81aa28b69925bce0fb070bf4f6bdd9699a8338eb612a05a910e1a0ef93", func := "spellwright/spellwrightlaw06.RuleThree", spec := "ruleThree", unfollowed := true, recurses := true, plainKeys := false, apart := false }
def RuleThreeSaid : Prop := ruleThreeRow.holds Try.pinned (OpenSpec.ofChange ruleThreeSpec)

/-- ITS FALSE NEIGHBOUR: 'it returns false'. Refute it at one input. -/
def ruleThreeWrong : ChangeSpec := { name := "ruleThree", fn := fun _ => fun
  | [d1, d2, d3] => { results := [.lit (.bool false)], args := [d1, d2, d3] }
  | _ => none }
def RuleThreeWrongFalsely : Prop := ruleThreeRow.holds Try.pinned (OpenSpec.ofChange ruleThreeWrong)

/-- 'spellwrightlaw06.RuleTurns': WHATEVER THE INPUT: true; the input reads as it did. -/
def ruleTurnsSpec : ChangeSpec := { name := "ruleTurns", fn := fun _ => fun
  | [d] => { results := [.lit (.bool true)], args := [d] }
  | _ => none }
def ruleTurnsRow : OpenClaim := { program := "ytcpilhgofdnigaa", sum := "a5d55d81aa28b69925bce0fb070bf4f6bdd9699a8338eb612a05a910e1a0ef93", func := "spellwright/spellwrightlaw06.RuleTurns", spec := "ruleTurns", unfollowed := true, recurses := true, plainKeys := false, apart := false }
def RuleTurnsSaid : Prop := ruleTurnsRow.holds Try.pinned (OpenSpec.ofChange ruleTurnsSpec)

/-- ITS FALSE NEIGHBOUR: 'it returns false'. Refute it at one input. -/
def ruleTurnsWrong : ChangeSpec := { name := "ruleTurns", fn := fun _ => fun
  | [d] => { results := [.lit (.bool false)], args := [d] }
  | _ => none }
def RuleTurnsWrongFalsely : Prop := ruleTurnsRow.holds Try.pinned (OpenSpec.ofChange ruleTurnsWrong)

/- THE SECOND FORM. 'bulk': how many values and letters a reading holds, each counted each time it is reached (what is shared counts as often as it is met; a slice's spare places count too). A statement '..UptoSaid' is the law's where the arguments, and the package variables that the reading takes, are together of bulk at most 1048576: NARROWER than '..Said'. Prove '..Said' where nothing that the law and all that it calls make is longer than what came in: it says more and counts as full. Else prove '..UptoSaid'. A law counts once. -/
mutual
def uptoBulk {H : Type} : DataW H → Nat
  | .lit (.string bytes) => bytes.length + 1
  | .lit _ => 1
  | .nil => 1
  | .ptr d => uptoBulk d + 1
  | .slice elems spare => uptoBulkAll elems + uptoBulkAll spare + 1
  | .agg parts => uptoBulkAll parts + 1
  | .iface _ d => uptoBulk d + 1
  | .map entries => uptoBulkEntries entries + 1
  | .held _ => 1
def uptoBulkAll {H : Type} : List (DataW H) → Nat
  | [] => 0
  | d :: r => uptoBulk d + uptoBulkAll r
def uptoBulkEntries {H : Type} : List (Lit × DataW H) → Nat
  | [] => 0
  | x :: r => uptoBulkEntry x + uptoBulkEntries r
def uptoBulkEntry {H : Type} : Lit × DataW H → Nat
  | (.string bytes, d) => bytes.length + uptoBulk d + 1
  | (_, d) => uptoBulk d + 1
 end
def uptoSmall : (H : Type) → List (DataW H) → Bool := fun _ ds => decide (uptoBulkAll ds ≤ 1048576)
def OpenSpec.upto (s : _root_.Go.ChangeSpec) : _root_.Go.OpenSpec := { _root_.Go.OpenSpec.ofChange s with cond := some uptoSmall }

/-- 'spellwrightlaw06.RuleTells', WHERE WHAT IT READS IS OF BULK AT MOST 1048576: true; the input reads as it did. -/
def ruleTellsUptoRow : OpenClaim := { program := "ytcpilhgofdnigaa", sum := "a5d55d81aa28b69925bce0fb070bf4f6bdd9699a8338eb612a05a910e1a0ef93", func := "spellwright/spellwrightlaw06.RuleTells", spec := "ruleTells", unfollowed := true, recurses := true, plainKeys := false, apart := false, narrowed := true }
def RuleTellsUptoSaid : Prop := ruleTellsUptoRow.holds Try.pinned (OpenSpec.upto ruleTellsSpec)

/-- 'spellwrightlaw06.RuleNorm', WHERE WHAT IT READS IS OF BULK AT MOST 1048576: true; the input reads as it did. -/
def ruleNormUptoRow : OpenClaim := { program := "ytcpilhgofdnigaa", sum := "a5d55d81aa28b69925bce0fb070bf4f6bdd9699a8338eb612a05a910e1a0ef93", func := "spellwright/spellwrightlaw06.RuleNorm", spec := "ruleNorm", unfollowed := true, recurses := true, plainKeys := false, apart := false, narrowed := true }
def RuleNormUptoSaid : Prop := ruleNormUptoRow.holds Try.pinned (OpenSpec.upto ruleNormSpec)

/-- 'spellwrightlaw06.RuleHas', WHERE WHAT IT READS IS OF BULK AT MOST 1048576: true; the input reads as it did. -/
def ruleHasUptoRow : OpenClaim := { program := "ytcpilhgofdnigaa", sum := "a5d55d81aa28b69925bce0fb070bf4f6bdd9699a8338eb612a05a910e1a0ef93", func := "spellwright/spellwrightlaw06.RuleHas", spec := "ruleHas", unfollowed := true, recurses := true, plainKeys := false, apart := false, narrowed := true }
def RuleHasUptoSaid : Prop := ruleHasUptoRow.holds Try.pinned (OpenSpec.upto ruleHasSpec)

/-- 'spellwrightlaw06.RuleThree', WHERE WHAT IT READS IS OF BULK AT MOST 1048576: true; the input reads as it did. -/
def ruleThreeUptoRow : OpenClaim := { program := "ytcpilhgofdnigaa", sum := "a5d55d81aa28b69925bce0fb070bf4f6bdd9699a8338eb612a05a910e1a0ef93", func := "spellwright/spellwrightlaw06.RuleThree", spec := "ruleThree", unfollowed := true, recurses := true, plainKeys := false, apart := false, narrowed := true }
def RuleThreeUptoSaid : Prop := ruleThreeUptoRow.holds Try.pinned (OpenSpec.upto ruleThreeSpec)

/-- 'spellwrightlaw06.RuleTurns', WHERE WHAT IT READS IS OF BULK AT MOST 1048576: true; the input reads as it did. -/
def ruleTurnsUptoRow : OpenClaim := { program := "ytcpilhgofdnigaa", sum := "a5d55d81aa28b69925bce0fb070bf4f6bdd9699a8338eb612a05a910e1a0ef93", func := "spellwright/spellwrightlaw06.RuleTurns", spec := "ruleTurns", unfollowed := true, recurses := true, plainKeys := false, apart := false, narrowed := true }
def RuleTurnsUptoSaid : Prop := ruleTurnsUptoRow.holds Try.pinned (OpenSpec.upto ruleTurnsSpec)

end Rows
end Go.Proofs.Ytcpilhgofdnigaa
