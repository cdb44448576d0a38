/-
  No cell of these rows narrows 'for every input' (looked for: loops, veiled, ifaces, maps, wideKeys, modest, calm, conditions, laid).
  DERIVED. THE GIVEN ROWS OF THIS SEAT. 4 by the template 'for every input the law returns true; each argument reads behind the call as it read before'; 0 by the template 'total and deterministic' (their statements: YtdondndalpmdgaaTotals.lean).
  GIVEN WITH THE SEED: the statements are not yours to turn. If you find one false, say at which input.
  Laid BY PROGRAM, IN A SANDBOX (cutbox-rows.mjs): the forced cells as the released guide's own fill.sh prints them over the translation 38c850e0fc3ff78b… (all of the seat's roots in one cut). By AI agents, Wed Nov 11 2026. No macro, syntax, notation, axiom, sorry.
-/
import Derived.Test.YtdondndalpmdgaaChecked
import GoSem.Claim
import GoSem.ClaimJoined
import GoSem.ClaimMapViews
import Derived.JoinedTies
import Derived.KernelRfl
namespace Go.Proofs.Ytdondndalpmdgaa
/- THE CELL 'sum', in the pinned program and in every row, IS THE sha256 OF THE DUMP (.gsa) THAT YtdondndalpmdgaaProg.lean LOADS. Nothing in Lean hashes anything: it is a label: what it is worth is what the hold of that sum in a sandbox is worth. -/
noncomputable def Try.pinned : Pinned := { name := "ytdondndalpmdgaa", sum := "38c850e0fc3ff78be2253ee2976d767626b5c2fbfd75d21fe8132d46ea167a5d", checked := Try.checked }
namespace Rows
def none {H : Type} : Left H := { results := [], args := [] }

/-- 'spellwrightlaw08.RulesBack': WHATEVER THE INPUT: true; the input reads as it did. -/
def rulesBackSpec : ChangeSpec := { name := "rulesBack", fn := fun _ => fun
  | [d1, d2] => { results := [.lit (.bool true)], args := [d1, d2] }
  | _ => none }
def rulesBackRow : OpenClaim := { program := "ytdondndalpmdgaa", sum := "38c850e0fc3ff78be2253ee2976d767626b5c2fbfd75d21fe8132d46ea167a5d", func := "spellwright/spellwrightlaw08.RulesBack", spec := "rulesBack", inPlace := ["internal/bytealg.MakeNoZero"], unfollowed := true, recurses := true, plainKeys := false, apart := false }
def RulesBackSaid : Prop := rulesBackRow.holds Try.pinned (OpenSpec.ofChange rulesBackSpec)

/-- ITS FALSE NEIGHBOUR: 'it returns false'. Refute it at one input. -/
def rulesBackWrong : ChangeSpec := { name := "rulesBack", fn := fun _ => fun
  | [d1, d2] => { results := [.lit (.bool false)], args := [d1, d2] }
  | _ => none }
def RulesBackWrongFalsely : Prop := rulesBackRow.holds Try.pinned (OpenSpec.ofChange rulesBackWrong)

/-- 'spellwrightlaw08.RulesLines': WHATEVER THE INPUT: true; the input reads as it did. -/
def rulesLinesSpec : ChangeSpec := { name := "rulesLines", fn := fun _ => fun
  | [d1, d2] => { results := [.lit (.bool true)], args := [d1, d2] }
  | _ => none }
def rulesLinesRow : OpenClaim := { program := "ytdondndalpmdgaa", sum := "38c850e0fc3ff78be2253ee2976d767626b5c2fbfd75d21fe8132d46ea167a5d", func := "spellwright/spellwrightlaw08.RulesLines", spec := "rulesLines", inPlace := ["internal/bytealg.MakeNoZero"], unfollowed := true, recurses := true, plainKeys := false, apart := false }
def RulesLinesSaid : Prop := rulesLinesRow.holds Try.pinned (OpenSpec.ofChange rulesLinesSpec)

/-- ITS FALSE NEIGHBOUR: 'it returns false'. Refute it at one input. -/
def rulesLinesWrong : ChangeSpec := { name := "rulesLines", fn := fun _ => fun
  | [d1, d2] => { results := [.lit (.bool false)], args := [d1, d2] }
  | _ => none }
def RulesLinesWrongFalsely : Prop := rulesLinesRow.holds Try.pinned (OpenSpec.ofChange rulesLinesWrong)

/-- 'spellwrightlaw08.RulesCheap': WHATEVER THE INPUT: true; the input reads as it did. -/
def rulesCheapSpec : ChangeSpec := { name := "rulesCheap", fn := fun _ => fun
  | [d1, d2] => { results := [.lit (.bool true)], args := [d1, d2] }
  | _ => none }
def rulesCheapRow : OpenClaim := { program := "ytdondndalpmdgaa", sum := "38c850e0fc3ff78be2253ee2976d767626b5c2fbfd75d21fe8132d46ea167a5d", func := "spellwright/spellwrightlaw08.RulesCheap", spec := "rulesCheap", inPlace := ["internal/bytealg.MakeNoZero"], unfollowed := true, recurses := true, plainKeys := false, apart := false }
def RulesCheapSaid : Prop := rulesCheapRow.holds Try.pinned (OpenSpec.ofChange rulesCheapSpec)

/-- ITS FALSE NEIGHBOUR: 'it returns false'. Refute it at one input. -/
def rulesCheapWrong : ChangeSpec := { name := "rulesCheap", fn := fun _ => fun
  | [d1, d2] => { results := [.lit (.bool false)], args := [d1, d2] }
  | _ => none }
def RulesCheapWrongFalsely : Prop := rulesCheapRow.holds Try.pinned (OpenSpec.ofChange rulesCheapWrong)

/-- 'spellwrightlaw08.RulesJoins': WHATEVER THE INPUT: true; the input reads as it did. -/
def rulesJoinsSpec : ChangeSpec := { name := "rulesJoins", fn := fun _ => fun
  | [d1, d2] => { results := [.lit (.bool true)], args := [d1, d2] }
  | _ => none }
def rulesJoinsRow : OpenClaim := { program := "ytdondndalpmdgaa", sum := "38c850e0fc3ff78be2253ee2976d767626b5c2fbfd75d21fe8132d46ea167a5d", func := "spellwright/spellwrightlaw08.RulesJoins", spec := "rulesJoins", inPlace := ["internal/bytealg.MakeNoZero"], unfollowed := true, recurses := true, plainKeys := false, apart := false }
def RulesJoinsSaid : Prop := rulesJoinsRow.holds Try.pinned (OpenSpec.ofChange rulesJoinsSpec)

/-- ITS FALSE NEIGHBOUR: 'it returns false'. Refute it at one input. -/
def rulesJoinsWrong : ChangeSpec := { name := "rulesJoins", fn := fun _ => fun
  | [d1, d2] => { results := [.lit (.bool false)], args := [d1, d2] }
  | _ => none }
def RulesJoinsWrongFalsely : Prop := rulesJoinsRow.holds Try.pinned (OpenSpec.ofChange rulesJoinsWrong)

/- THE SECOND FORM. 'bulk': how many values and letters a reading holds, each counted each time it is reached (what is shared counts as often as it is met; a slice's spare places count too). A statement '..UptoSaid' is the law's where the arguments, and the package variables that the reading takes, are together of bulk at most 1048576: NARROWER than '..Said'. Prove '..Said' where nothing that the law and all that it calls make is longer than what came in: it says more and counts as full. Else prove '..UptoSaid'. A law counts once. -/
mutual
def uptoBulk {H : Type} : DataW H → Nat
  | .lit (.string bytes) => bytes.length + 1
  | .lit _ => 1
  | .nil => 1
  | .ptr d => uptoBulk d + 1
  | .slice elems spare => uptoBulkAll elems + uptoBulkAll spare + 1
  | .agg parts => uptoBulkAll parts + 1
  | .iface _ d => uptoBulk d + 1
  | .map entries => uptoBulkEntries entries + 1
  | .held _ => 1
def uptoBulkAll {H : Type} : List (DataW H) → Nat
  | [] => 0
  | d :: r => uptoBulk d + uptoBulkAll r
def uptoBulkEntries {H : Type} : List (Lit × DataW H) → Nat
  | [] => 0
  | x :: r => uptoBulkEntry x + uptoBulkEntries r
def uptoBulkEntry {H : Type} : Lit × DataW H → Nat
  | (.string bytes, d) => bytes.length + uptoBulk d + 1
  | (_, d) => uptoBulk d + 1
 end
def uptoSmall : (H : Type) → List (DataW H) → Bool := fun _ ds => decide (uptoBulkAll ds ≤ 1048576)
def OpenSpec.upto (s : _root_.Go.ChangeSpec) : _root_.Go.OpenSpec := { _root_.Go.OpenSpec.ofChange s with cond := some uptoSmall }

/-- 'spellwrightlaw08.RulesBack', WHERE WHAT IT READS IS OF BULK AT MOST 1048576: true; the input reads as it did. -/
def rulesBackUptoRow : OpenClaim := { program := "ytdondndalpmdgaa", sum := "38c850e0fc3ff78be2253ee2976d767626b5c2fbfd75d21fe8132d46ea167a5d", func := "spellwright/spellwrightlaw08.RulesBack", spec := "rulesBack", inPlace := ["internal/bytealg.MakeNoZero"], unfollowed := true, recurses := true, plainKeys := false, apart := false, narrowed := true }
def RulesBackUptoSaid : Prop := rulesBackUptoRow.holds Try.pinned (OpenSpec.upto rulesBackSpec)

/-- 'spellwrightlaw08.RulesLines', WHERE WHAT IT READS IS OF BULK AT MOST 1048576: true; the input reads as it did. -/
def rulesLinesUptoRow : OpenClaim := { program := "ytdondndalpmdgaa", sum := "38c850e0fc3ff78be2253ee2976d767626b5c2fbfd75d21fe8132d46ea167a5d", func := "spellwright/spellwrightlaw08.RulesLines", spec := "rulesLines", inPlace := ["internal/bytealg.MakeNoZero"], unfollowed := true, recurses := true, plainKeys := false, apart := false, narrowed := true }
def RulesLinesUptoSaid : Prop := rulesLinesUptoRow.holds Try.pinned (OpenSpec.upto rulesLinesSpec)

/-- 'spellwrightlaw08.RulesCheap', WHERE WHAT IT READS IS OF BULK AT MOST 1048576: true; the input reads as it did. -/
def rulesCheapUptoRow : OpenClaim := { program := "ytdondndalpmdgaa", sum := "38c850e0fc3ff78be2253ee2976d767626b5c2fbfd75d21fe8132d46ea167a5d", func := "spellwright/spellwrightlaw08.RulesCheap", spec := "rulesCheap", inPlace := ["internal/bytealg.MakeNoZero"], unfollowed := true, recurses := true, plainKeys := false, apart := false, narrowed := true }
def RulesCheapUptoSaid : Prop := rulesCheapUptoRow.holds Try.pinned (OpenSpec.upto rulesCheapSpec)

/-- 'spellwrightlaw08.RulesJoins', WHERE WHAT IT READS IS OF BULK AT MOST 1048576: true; the input reads as it did. -/
def rulesJoinsUptoRow : OpenClaim := { program := "ytdondndalpmdgaa", sum := "38c850e0fc3ff78be2253ee2976d767626b5c2fbfd75d21fe8132d46ea167a5d", func := "spellwright/spellwrightlaw08.RulesJoins", spec := "rulesJoins", inPlace := ["internal/bytealg.MakeNoZero"], unfollowed := true, recurses := true, plainKeys := false, apart := false, narrowed := true }
def RulesJoinsUptoSaid : Prop := rulesJoinsUptoRow.holds Try.pinned (OpenSpec.upto rulesJoinsSpec)

end Rows
end Go.Proofs.Ytdondndalpmdgaa
