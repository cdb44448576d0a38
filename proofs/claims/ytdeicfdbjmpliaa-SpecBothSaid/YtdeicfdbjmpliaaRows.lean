/-
  No cell of these rows narrows 'for every input' (looked for: loops, veiled, ifaces, maps, wideKeys, modest, calm, conditions, laid).
  DERIVED. THE GIVEN ROWS OF THIS SEAT. 5 by the template 'for every input the law returns true; each argument reads behind the call as it read before'; 0 by the template 'total and deterministic' (their statements: YtdeicfdbjmpliaaTotals.lean).
  GIVEN WITH THE SEED: the statements are not yours to turn. If you find one false, say at which input.
  Laid BY PROGRAM, IN A SANDBOX (cutbox-rows.mjs): the forced cells as the released guide's own fill.sh prints them over the translation 94bd3a62f813753d… (all of the seat's roots in one cut). By AI agents, Wed Nov 11 2026. No macro, syntax, notation, axiom, sorry.
-/
import Derived.Test.YtdeicfdbjmpliaaChecked
import GoSem.Claim
import GoSem.ClaimJoined
import GoSem.ClaimMapViews
import Derived.JoinedTies
import Derived.KernelRfl
namespace Go.Proofs.Ytdeicfdbjmpliaa
/- THE CELL 'sum', in the pinned program and in every row, IS THE sha256 OF THE DUMP (.gsa) THAT YtdeicfdbjmpliaaProg.lean LOADS. Nothing in Lean hashes anything: it is a label: what it is worth is what the hold of that sum in a sandbox is worth. -/
noncomputable def Try.pinned : Pinned := { name := "ytdeicfdbjmpliaa", sum := "94bd3a62f813753d581bc0b323ac2d8e3ceb5bcb190ee8bb223172d5a29e2d2e", checked := Try.checked }
namespace Rows
def none {H : Type} : Left H := { results := [], args := [] }

/-- 'spellwrightlaw07.SpecTells': WHATEVER THE INPUT: true; the input reads as it did. -/
def specTellsSpec : ChangeSpec := { name := "specTells", fn := fun _ => fun
  | [d1, d2] => { results := [.lit (.bool true)], args := [d1, d2] }
  | _ => none }
def specTellsRow : OpenClaim := { program := "ytdeicfdbjmpliaa", sum := "94bd3a62f813753d581bc0b323ac2d8e3ceb5bcb190ee8bb223172d5a29e2d2e", func := "spellwright/spellwrightlaw07.SpecTells", spec := "specTells", inPlace := ["internal/bytealg.MakeNoZero"], unfollowed := true, recurses := true, plainKeys := false, apart := false }
def SpecTellsSaid : Prop := specTellsRow.holds Try.pinned (OpenSpec.ofChange specTellsSpec)

/-- ITS FALSE NEIGHBOUR: 'it returns false'. Refute it at one input. -/
def specTellsWrong : ChangeSpec := { name := "specTells", fn := fun _ => fun
  | [d1, d2] => { results := [.lit (.bool false)], args := [d1, d2] }
  | _ => none }
def SpecTellsWrongFalsely : Prop := specTellsRow.holds Try.pinned (OpenSpec.ofChange specTellsWrong)

/-- 'spellwrightlaw07.SpecBack': WHATEVER THE INPUT: true; the input reads as it did. -/
def specBackSpec : ChangeSpec := { name := "specBack", fn := fun _ => fun
  | [d1, d2] => { results := [.lit (.bool true)], args := [d1, d2] }
  | _ => none }
def specBackRow : OpenClaim := { program := "ytdeicfdbjmpliaa", sum := "94bd3a62f813753d581bc0b323ac2d8e3ceb5bcb190ee8bb223172d5a29e2d2e", func := "spellwright/spellwrightlaw07.SpecBack", spec := "specBack", inPlace := ["internal/bytealg.MakeNoZero"], unfollowed := true, recurses := true, plainKeys := false, apart := false }
def SpecBackSaid : Prop := specBackRow.holds Try.pinned (OpenSpec.ofChange specBackSpec)

/-- ITS FALSE NEIGHBOUR: 'it returns false'. Refute it at one input. -/
def specBackWrong : ChangeSpec := { name := "specBack", fn := fun _ => fun
  | [d1, d2] => { results := [.lit (.bool false)], args := [d1, d2] }
  | _ => none }
def SpecBackWrongFalsely : Prop := specBackRow.holds Try.pinned (OpenSpec.ofChange specBackWrong)

/-- 'spellwrightlaw07.SpecBoth': WHATEVER THE INPUT: true; the input reads as it did. -/
def specBothSpec : ChangeSpec := { name := "specBoth", fn := fun _ => fun
  | [d1, d2, d3, d4] => { results := [.lit (.bool true)], args := [d1, d2, d3, d4] }
  | _ => none }
def specBothRow : OpenClaim := { program := "ytdeicfdbjmpliaa", sum := "94bd3a62f813753d581bc0b323ac2d8e3ceb5bcb190ee8bb223172d5a29e2d2e", func := "spellwright/spellwrightlaw07.SpecBoth", spec := "specBoth", inPlace := ["internal/bytealg.MakeNoZero"], unfollowed := true, recurses := true, plainKeys := false, apart := false }
def SpecBothSaid : Prop := specBothRow.holds Try.pinned (OpenSpec.ofChange specBothSpec)

/-- ITS FALSE NEIGHBOUR: 'it returns false'. Refute it at one input. -/
def specBothWrong : ChangeSpec := { name := "specBoth", fn := fun _ => fun
  | [d1, d2, d3, d4] => { results := [.lit (.bool false)], args := [d1, d2, d3, d4] }
  | _ => none }
def SpecBothWrongFalsely : Prop := specBothRow.holds Try.pinned (OpenSpec.ofChange specBothWrong)

/-- 'spellwrightlaw07.SpecMany': WHATEVER THE INPUT: true; the input reads as it did. -/
def specManySpec : ChangeSpec := { name := "specMany", fn := fun _ => fun
  | [d1, d2, d3] => { results := [.lit (.bool true)], args := [d1, d2, d3] }
  | _ => none }
def specManyRow : OpenClaim := { program := "ytdeicfdbjmpliaa", sum := "94bd3a62f813753d581bc0b323ac2d8e3ceb5bcb190ee8bb223172d5a29e2d2e", func := "spellwright/spellwrightlaw07.SpecMany", spec := "specMany", inPlace := ["internal/bytealg.MakeNoZero"], unfollowed := true, recurses := true, plainKeys := false, apart := false }
def SpecManySaid : Prop := specManyRow.holds Try.pinned (OpenSpec.ofChange specManySpec)

/-- ITS FALSE NEIGHBOUR: 'it returns false'. Refute it at one input. -/
def specManyWrong : ChangeSpec := { name := "specMany", fn := fun _ => fun
  | [d1, d2, d3] => { results := [.lit (.bool false)], args := [d1, d2, d3] }
  | _ => none }
def SpecManyWrongFalsely : Prop := specManyRow.holds Try.pinned (OpenSpec.ofChange specManyWrong)

/-- 'spellwrightlaw07.SpecBlanks': WHATEVER THE INPUT: true; the input reads as it did. -/
def specBlanksSpec : ChangeSpec := { name := "specBlanks", fn := fun _ => fun
  | [d1, d2] => { results := [.lit (.bool true)], args := [d1, d2] }
  | _ => none }
def specBlanksRow : OpenClaim := { program := "ytdeicfdbjmpliaa", sum := "94bd3a62f813753d581bc0b323ac2d8e3ceb5bcb190ee8bb223172d5a29e2d2e", func := "spellwright/spellwrightlaw07.SpecBlanks", spec := "specBlanks", inPlace := ["internal/bytealg.MakeNoZero"], unfollowed := true, recurses := true, plainKeys := false, apart := false }
def SpecBlanksSaid : Prop := specBlanksRow.holds Try.pinned (OpenSpec.ofChange specBlanksSpec)

/-- ITS FALSE NEIGHBOUR: 'it returns false'. Refute it at one input. -/
def specBlanksWrong : ChangeSpec := { name := "specBlanks", fn := fun _ => fun
  | [d1, d2] => { results := [.lit (.bool false)], args := [d1, d2] }
  | _ => none }
def SpecBlanksWrongFalsely : Prop := specBlanksRow.holds Try.pinned (OpenSpec.ofChange specBlanksWrong)

/- THE SECOND FORM. 'bulk': how many values and letters a reading holds, each counted each time it is reached (what is shared counts as often as it is met; a slice's spare places count too). A statement '..UptoSaid' is the law's where the arguments, and the package variables that the reading takes, are together of bulk at most 1048576: NARROWER than '..Said'. Prove '..Said' where nothing that the law and all that it calls make is longer than what came in: it says more and counts as full. Else prove '..UptoSaid'. A law counts once. -/
mutual
def uptoBulk {H : Type} : DataW H → Nat
  | .lit (.string bytes) => bytes.length + 1
  | .lit _ => 1
  | .nil => 1
  | .ptr d => uptoBulk d + 1
  | .slice elems spare => uptoBulkAll elems + uptoBulkAll spare + 1
  | .agg parts => uptoBulkAll parts + 1
  | .iface _ d => uptoBulk d + 1
  | .map entries => uptoBulkEntries entries + 1
  | .held _ => 1
def uptoBulkAll {H : Type} : List (DataW H) → Nat
  | [] => 0
  | d :: r => uptoBulk d + uptoBulkAll r
def uptoBulkEntries {H : Type} : List (Lit × DataW H) → Nat
  | [] => 0
  | x :: r => uptoBulkEntry x + uptoBulkEntries r
def uptoBulkEntry {H : Type} : Lit × DataW H → Nat
  | (.string bytes, d) => bytes.length + uptoBulk d + 1
  | (_, d) => uptoBulk d + 1
 end
def uptoSmall : (H : Type) → List (DataW H) → Bool := fun _ ds => decide (uptoBulkAll ds ≤ 1048576)
def OpenSpec.upto (s : _root_.Go.ChangeSpec) : _root_.Go.OpenSpec := { _root_.Go.OpenSpec.ofChange s with cond := some uptoSmall }

/-- 'spellwrightlaw07.SpecTells', WHERE WHAT IT READS IS OF BULK AT MOST 1048576: true; the input reads as it did. -/
def specTellsUptoRow : OpenClaim := { program := "ytdeicfdbjmpliaa", sum := "94bd3a62f813753d581bc0b323ac2d8e3ceb5bcb190ee8bb223172d5a29e2d2e", func := "spellwright/spellwrightlaw07.SpecTells", spec := "specTells", inPlace := ["internal/bytealg.MakeNoZero"], unfollowed := true, recurses := true, plainKeys := false, apart := false, narrowed := true }
def SpecTellsUptoSaid : Prop := specTellsUptoRow.holds Try.pinned (OpenSpec.upto specTellsSpec)

/-- 'spellwrightlaw07.SpecBack', WHERE WHAT IT READS IS OF BULK AT MOST 1048576: true; the input reads as it did. -/
def specBackUptoRow : OpenClaim := { program := "ytdeicfdbjmpliaa", sum := "94bd3a62f813753d581bc0b323ac2d8e3ceb5bcb190ee8bb223172d5a29e2d2e", func := "spellwright/spellwrightlaw07.SpecBack", spec := "specBack", inPlace := ["internal/bytealg.MakeNoZero"], unfollowed := true, recurses := true, plainKeys := false, apart := false, narrowed := true }
def SpecBackUptoSaid : Prop := specBackUptoRow.holds Try.pinned (OpenSpec.upto specBackSpec)

/-- 'spellwrightlaw07.SpecBoth', WHERE WHAT IT READS IS OF BULK AT MOST 1048576: true; the input reads as it did. -/
def specBothUptoRow : OpenClaim := { program := "ytdeicfdbjmpliaa", sum := "94bd3a62f813753d581bc0b323ac2d8e3ceb5bcb190ee8bb223172d5a29e2d2e", func := "spellwright/spellwrightlaw07.SpecBoth", spec := "specBoth", inPlace := ["internal/bytealg.MakeNoZero"], unfollowed := true, recurses := true, plainKeys := false, apart := false, narrowed := true }
def SpecBothUptoSaid : Prop := specBothUptoRow.holds Try.pinned (OpenSpec.upto specBothSpec)

/-- 'spellwrightlaw07.SpecMany', WHERE WHAT IT READS IS OF BULK AT MOST 1048576: true; the input reads as it did. -/
def specManyUptoRow : OpenClaim := { program := "ytdeicfdbjmpliaa", sum := "94bd3a62f813753d581bc0b323ac2d8e3ceb5bcb190ee8bb223172d5a29e2d2e", func := "spellwright/spellwrightlaw07.SpecMany", spec := "specMany", inPlace := ["internal/bytealg.MakeNoZero"], unfollowed := true, recurses := true, plainKeys := false, apart := false, narrowed := true }
def SpecManyUptoSaid : Prop := specManyUptoRow.holds Try.pinned (OpenSpec.upto specManySpec)

/-- 'spellwrightlaw07.SpecBlanks', WHERE WHAT IT READS IS OF BULK AT MOST 1048576: true; the input reads as it did. -/
def specBlanksUptoRow : OpenClaim := { program := "ytdeicfdbjmpliaa", sum := "94bd3a62f813753d581bc0b323ac2d8e3ceb5bcb190ee8bb223172d5a29e2d2e", func := "spellwright/spellwrightlaw07.SpecBlanks", spec := "specBlanks", inPlace := ["internal/bytealg.MakeNoZero"], unfollowed := true, recurses := true, plainKeys := false, apart := false, narrowed := true }
def SpecBlanksUptoSaid : Prop := specBlanksUptoRow.holds Try.pinned (OpenSpec.upto specBlanksSpec)

end Rows
end Go.Proofs.Ytdeicfdbjmpliaa
