/-
  No cell of these rows narrows 'for every input' (looked for: loops, veiled, ifaces, maps, wideKeys, modest, calm, conditions, laid).
  DERIVED. THE GIVEN ROWS OF THIS SEAT. 5 by the template 'for every input the law returns true; each argument reads behind the call as it read before'; 0 by the template 'total and deterministic' (their statements: YtimjdlbhbiklgaaTotals.lean).
  GIVEN WITH THE SEED: the statements are not yours to turn. If you find one false, say at which input.
  Laid BY PROGRAM, IN A SANDBOX (cutbox-rows.mjs): the forced cells as the released guide's own fill.sh prints them over the translation 14d1ec8f024ae1dd… (all of the seat's roots in one cut). By AI agents, Wed Nov 11 2026. No macro, syntax, notation, axiom, sorry.
-/
import Derived.Test.YtimjdlbhbiklgaaChecked
import GoSem.Claim
import GoSem.ClaimJoined
import GoSem.ClaimMapViews
import Derived.JoinedTies
import Derived.KernelRfl
namespace Go.Proofs.Ytimjdlbhbiklgaa
/- THE CELL 'sum', in the pinned program and in every row, IS THE sha256 OF THE DUMP (.gsa) THAT YtimjdlbhbiklgaaProg.lean LOADS. Nothing in Lean hashes anything: it is a label: what it is worth is what the hold of that sum in a sandbox is worth. -/
noncomputable def Try.pinned : Pinned := { name := "ytimjdlbhbiklgaa", sum := "14d1ec8f024ae1dd3da2755822bba0ecfb4e4b4b81ab4c118294e18f9a52f224", checked := Try.checked }
namespace Rows
def none {H : Type} : Left H := { results := [], args := [] }

/-- 'spellwrightlaw12.WalkTells': WHATEVER THE INPUT: true; the input reads as it did. -/
def walkTellsSpec : ChangeSpec := { name := "walkTells", fn := fun _ => fun
  | [d1, d2, d3] => { results := [.lit (.bool true)], args := [d1, d2, d3] }
  | _ => none }
def walkTellsRow : OpenClaim := { program := "ytimjdlbhbiklgaa", sum := "14d1ec8f024ae1dd3da2755822bba0ecfb4e4b4b81ab4c118294e18f9a52f224", func := "spellwright/spellwrightlaw12.WalkTells", spec := "walkTells", unfollowed := true, recurses := true, plainKeys := false, apart := false }
def WalkTellsSaid : Prop := walkTellsRow.holds Try.pinned (OpenSpec.ofChange walkTellsSpec)

/-- ITS FALSE NEIGHBOUR: 'it returns false'. Refute it at one input. -/
def walkTellsWrong : ChangeSpec := { name := "walkTells", fn := fun _ => fun
  | [d1, d2, d3] => { results := [.lit (.bool false)], args := [d1, d2, d3] }
  | _ => none }
def WalkTellsWrongFalsely : Prop := walkTellsRow.holds Try.pinned (OpenSpec.ofChange walkTellsWrong)

/-- 'spellwrightlaw12.WalkMakes': WHATEVER THE INPUT: true; the input reads as it did. -/
def walkMakesSpec : ChangeSpec := { name := "walkMakes", fn := fun _ => fun
  | [d1, d2] => { results := [.lit (.bool true)], args := [d1, d2] }
  | _ => none }
def walkMakesRow : OpenClaim := { program := "ytimjdlbhbiklgaa", sum := "14d1ec8f024ae1dd3da2755822bba0ecfb4e4b4b81ab4c118294e18f9a52f224", func := "spellwright/spellwrightlaw12.WalkMakes", spec := "walkMakes", inPlace := ["internal/reflectlite.ValueOf", "internal/reflectlite.Swapper", "(internal/reflectlite.Value).Len"], unfollowed := true, recurses := true, plainKeys := false, apart := false }
def WalkMakesSaid : Prop := walkMakesRow.holds Try.pinned (OpenSpec.ofChange walkMakesSpec)

/-- ITS FALSE NEIGHBOUR: 'it returns false'. Refute it at one input. -/
def walkMakesWrong : ChangeSpec := { name := "walkMakes", fn := fun _ => fun
  | [d1, d2] => { results := [.lit (.bool false)], args := [d1, d2] }
  | _ => none }
def WalkMakesWrongFalsely : Prop := walkMakesRow.holds Try.pinned (OpenSpec.ofChange walkMakesWrong)

/-- 'spellwrightlaw12.WalkRises': WHATEVER THE INPUT: true; the input reads as it did. -/
def walkRisesSpec : ChangeSpec := { name := "walkRises", fn := fun _ => fun
  | [d1, d2, d3] => { results := [.lit (.bool true)], args := [d1, d2, d3] }
  | _ => none }
def walkRisesRow : OpenClaim := { program := "ytimjdlbhbiklgaa", sum := "14d1ec8f024ae1dd3da2755822bba0ecfb4e4b4b81ab4c118294e18f9a52f224", func := "spellwright/spellwrightlaw12.WalkRises", spec := "walkRises", unfollowed := true, recurses := true, plainKeys := false, apart := false }
def WalkRisesSaid : Prop := walkRisesRow.holds Try.pinned (OpenSpec.ofChange walkRisesSpec)

/-- ITS FALSE NEIGHBOUR: 'it returns false'. Refute it at one input. -/
def walkRisesWrong : ChangeSpec := { name := "walkRises", fn := fun _ => fun
  | [d1, d2, d3] => { results := [.lit (.bool false)], args := [d1, d2, d3] }
  | _ => none }
def WalkRisesWrongFalsely : Prop := walkRisesRow.holds Try.pinned (OpenSpec.ofChange walkRisesWrong)

/-- 'spellwrightlaw12.WalkLeast': WHATEVER THE INPUT: true; the input reads as it did. -/
def walkLeastSpec : ChangeSpec := { name := "walkLeast", fn := fun _ => fun
  | [d] => { results := [.lit (.bool true)], args := [d] }
  | _ => none }
def walkLeastRow : OpenClaim := { program := "ytimjdlbhbiklgaa", sum := "14d1ec8f024ae1dd3da2755822bba0ecfb4e4b4b81ab4c118294e18f9a52f224", func := "spellwright/spellwrightlaw12.WalkLeast", spec := "walkLeast", inPlace := ["internal/reflectlite.ValueOf", "internal/reflectlite.Swapper", "(internal/reflectlite.Value).Len"], unfollowed := true, recurses := true, plainKeys := false, apart := false }
def WalkLeastSaid : Prop := walkLeastRow.holds Try.pinned (OpenSpec.ofChange walkLeastSpec)

/-- ITS FALSE NEIGHBOUR: 'it returns false'. Refute it at one input. -/
def walkLeastWrong : ChangeSpec := { name := "walkLeast", fn := fun _ => fun
  | [d] => { results := [.lit (.bool false)], args := [d] }
  | _ => none }
def WalkLeastWrongFalsely : Prop := walkLeastRow.holds Try.pinned (OpenSpec.ofChange walkLeastWrong)

/-- 'spellwrightlaw12.WalkOn': WHATEVER THE INPUT: true; the input reads as it did. -/
def walkOnSpec : ChangeSpec := { name := "walkOn", fn := fun _ => fun
  | [d1, d2, d3, d4] => { results := [.lit (.bool true)], args := [d1, d2, d3, d4] }
  | _ => none }
def walkOnRow : OpenClaim := { program := "ytimjdlbhbiklgaa", sum := "14d1ec8f024ae1dd3da2755822bba0ecfb4e4b4b81ab4c118294e18f9a52f224", func := "spellwright/spellwrightlaw12.WalkOn", spec := "walkOn", unfollowed := true, recurses := true, plainKeys := false, apart := false }
def WalkOnSaid : Prop := walkOnRow.holds Try.pinned (OpenSpec.ofChange walkOnSpec)

/-- ITS FALSE NEIGHBOUR: 'it returns false'. Refute it at one input. -/
def walkOnWrong : ChangeSpec := { name := "walkOn", fn := fun _ => fun
  | [d1, d2, d3, d4] => { results := [.lit (.bool false)], args := [d1, d2, d3, d4] }
  | _ => none }
def WalkOnWrongFalsely : Prop := walkOnRow.holds Try.pinned (OpenSpec.ofChange walkOnWrong)

/- THE SECOND FORM. 'bulk': how many values and letters a reading holds, each counted each time it is reached (what is shared counts as often as it is met; a slice's spare places count too). A statement '..UptoSaid' is the law's where the arguments, and the package variables that the reading takes, are together of bulk at most 1048576: NARROWER than '..Said'. Prove '..Said' where nothing that the law and all that it calls make is longer than what came in: it says more and counts as full. Else prove '..UptoSaid'. A law counts once. -/
mutual
def uptoBulk {H : Type} : DataW H → Nat
  | .lit (.string bytes) => bytes.length + 1
  | .lit _ => 1
  | .nil => 1
  | .ptr d => uptoBulk d + 1
  | .slice elems spare => uptoBulkAll elems + uptoBulkAll spare + 1
  | .agg parts => uptoBulkAll parts + 1
  | .iface _ d => uptoBulk d + 1
  | .map entries => uptoBulkEntries entries + 1
  | .held _ => 1
def uptoBulkAll {H : Type} : List (DataW H) → Nat
  | [] => 0
  | d :: r => uptoBulk d + uptoBulkAll r
def uptoBulkEntries {H : Type} : List (Lit × DataW H) → Nat
  | [] => 0
  | x :: r => uptoBulkEntry x + uptoBulkEntries r
def uptoBulkEntry {H : Type} : Lit × DataW H → Nat
  | (.string bytes, d) => bytes.length + uptoBulk d + 1
  | (_, d) => uptoBulk d + 1
 end
def uptoSmall : (H : Type) → List (DataW H) → Bool := fun _ ds => decide (uptoBulkAll ds ≤ 1048576)
def OpenSpec.upto (s : _root_.Go.ChangeSpec) : _root_.Go.OpenSpec := { _root_.Go.OpenSpec.ofChange s with cond := some uptoSmall }

/-- 'spellwrightlaw12.WalkTells', WHERE WHAT IT READS IS OF BULK AT MOST 1048576: true; the input reads as it did. -/
def walkTellsUptoRow : OpenClaim := { program := "ytimjdlbhbiklgaa", sum := "14d1ec8f024ae1dd3da2755822bba0ecfb4e4b4b81ab4c118294e18f9a52f224", func := "spellwright/spellwrightlaw12.WalkTells", spec := "walkTells", unfollowed := true, recurses := true, plainKeys := false, apart := false, narrowed := true }
def WalkTellsUptoSaid : Prop := walkTellsUptoRow.holds Try.pinned (OpenSpec.upto walkTellsSpec)

/-- 'spellwrightlaw12.WalkMakes', WHERE WHAT IT READS IS OF BULK AT MOST 1048576: true; the input reads as it did. -/
def walkMakesUptoRow : OpenClaim := { program := "ytimjdlbhbiklgaa", sum := "14d1ec8f024ae1dd3da2755822bba0ecfb4e4b4b81ab4c118294e18f9a52f224", func := "spellwright/spellwrightlaw12.WalkMakes", spec := "walkMakes", inPlace := ["internal/reflectlite.ValueOf", "internal/reflectlite.Swapper", "(internal/reflectlite.Value).Len"], unfollowed := true, recurses := true, plainKeys := false, apart := false, narrowed := true }
def WalkMakesUptoSaid : Prop := walkMakesUptoRow.holds Try.pinned (OpenSpec.upto walkMakesSpec)

/-- 'spellwrightlaw12.WalkRises', WHERE WHAT IT READS IS OF BULK AT MOST 1048576: true; the input reads as it did. -/
def walkRisesUptoRow : OpenClaim := { program := "ytimjdlbhbiklgaa", sum := "14d1ec8f024ae1dd3da2755822bba0ecfb4e4b4b81ab4c118294e18f9a52f224", func := "spellwright/spellwrightlaw12.WalkRises", spec := "walkRises", unfollowed := true, recurses := true, plainKeys := false, apart := false, narrowed := true }
def WalkRisesUptoSaid : Prop := walkRisesUptoRow.holds Try.pinned (OpenSpec.upto walkRisesSpec)

/-- 'spellwrightlaw12.WalkLeast', WHERE WHAT IT READS IS OF BULK AT MOST 1048576: true; the input reads as it did. -/
def walkLeastUptoRow : OpenClaim := { program := "ytimjdlbhbiklgaa", sum := "14d1ec8f024ae1dd3da2755822bba0ecfb4e4b4b81ab4c118294e18f9a52f224", func := "spellwright/spellwrightlaw12.WalkLeast", spec := "walkLeast", inPlace := ["internal/reflectlite.ValueOf", "internal/reflectlite.Swapper", "(internal/reflectlite.Value).Len"], unfollowed := true, recurses := true, plainKeys := false, apart := false, narrowed := true }
def WalkLeastUptoSaid : Prop := walkLeastUptoRow.holds Try.pinned (OpenSpec.upto walkLeastSpec)

/-- 'spellwrightlaw12.WalkOn', WHERE WHAT IT READS IS OF BULK AT MOST 1048576: true; the input reads as it did. -/
def walkOnUptoRow : OpenClaim := { program := "ytimjdlbhbiklgaa", sum := "14d1ec8f024ae1dd3da2755822bba0ecfb4e4b4b81ab4c118294e18f9a52f224", func := "spellwright/spellwrightlaw12.WalkOn", spec := "walkOn", unfollowed := true, recurses := true, plainKeys := false, apart := false, narrowed := true }
def WalkOnUptoSaid : Prop := walkOnUptoRow.holds Try.pinned (OpenSpec.upto walkOnSpec)

end Rows
end Go.Proofs.Ytimjdlbhbiklgaa
