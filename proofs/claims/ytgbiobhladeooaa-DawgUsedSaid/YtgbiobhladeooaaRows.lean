/-
  No cell of these rows narrows 'for every input' (looked for: loops, veiled, ifaces, maps, wideKeys, modest, calm, conditions, laid).
  DERIVED. THE GIVEN ROWS OF THIS SEAT. 5 by the template 'for every input the law returns true; each argument reads behind the call as it read before'; 0 by the template 'total and deterministic' (their statements: YtgbiobhladeooaaTotals.lean).
  GIVEN WITH THE SEED: the statements are not yours to turn. If you find one false, say at which input.
  Laid BY PROGRAM, IN A SANDBOX (cutbox-rows.mjs): the forced cells as the released guide's own fill.sh prints them over the translation 77f52d26be22ecb0… (all of the seat's roots in one cut). By AI agents, Wed Nov 11 2026. No macro, syntax, notation, axiom, sorry.
-/
import Derived.Test.YtgbiobhladeooaaChecked
import GoSem.Claim
import GoSem.ClaimJoined
import GoSem.ClaimMapViews
import Derived.JoinedTies
import Derived.KernelRfl
namespace Go.Proofs.Ytgbiobhladeooaa
/- THE CELL 'sum', in the pinned program and in every row, IS THE sha256 OF THE DUMP (.gsa) THAT YtgbiobhladeooaaProg.lean LOADS. Nothing in Lean hashes anything: it is a label: what it is worth is what the hold of that sum in a sandbox is worth. -/
noncomputable def Try.pinned : Pinned := { name := "ytgbiobhladeooaa", sum := "77f52d26be22ecb024293254c93feabdef80a81ee3248979359bb1f10a183cc4", checked := Try.checked }
namespace Rows
def none {H : Type} : Left H := { results := [], args := [] }

/-- 'spellwrightlaw11.DawgTells': WHATEVER THE INPUT: true; the input reads as it did. -/
def dawgTellsSpec : ChangeSpec := { name := "dawgTells", fn := fun _ => fun
  | [d1, d2] => { results := [.lit (.bool true)], args := [d1, d2] }
  | _ => none }
def dawgTellsRow : OpenClaim := { program := "ytgbiobhladeooaa", sum := "77f52d26be22ecb024293254c93feabdef80a81ee3248979359bb1f10a183cc4", func := "spellwright/spellwrightlaw11.DawgTells", spec := "dawgTells", inPlace := ["internal/reflectlite.ValueOf", "internal/reflectlite.Swapper", "(internal/reflectlite.Value).Len"], unfollowed := true, recurses := true, plainKeys := false, apart := false }
def DawgTellsSaid : Prop := dawgTellsRow.holds Try.pinned (OpenSpec.ofChange dawgTellsSpec)

/-- ITS FALSE NEIGHBOUR: 'it returns false'. Refute it at one input. -/
def dawgTellsWrong : ChangeSpec := { name := "dawgTells", fn := fun _ => fun
  | [d1, d2] => { results := [.lit (.bool false)], args := [d1, d2] }
  | _ => none }
def DawgTellsWrongFalsely : Prop := dawgTellsRow.holds Try.pinned (OpenSpec.ofChange dawgTellsWrong)

/-- 'spellwrightlaw11.DawgHas': WHATEVER THE INPUT: true; the input reads as it did. -/
def dawgHasSpec : ChangeSpec := { name := "dawgHas", fn := fun _ => fun
  | [d1, d2] => { results := [.lit (.bool true)], args := [d1, d2] }
  | _ => none }
def dawgHasRow : OpenClaim := { program := "ytgbiobhladeooaa", sum := "77f52d26be22ecb024293254c93feabdef80a81ee3248979359bb1f10a183cc4", func := "spellwright/spellwrightlaw11.DawgHas", spec := "dawgHas", inPlace := ["internal/reflectlite.ValueOf", "internal/reflectlite.Swapper", "(internal/reflectlite.Value).Len"], unfollowed := true, recurses := true, plainKeys := false, apart := false }
def DawgHasSaid : Prop := dawgHasRow.holds Try.pinned (OpenSpec.ofChange dawgHasSpec)

/-- ITS FALSE NEIGHBOUR: 'it returns false'. Refute it at one input. -/
def dawgHasWrong : ChangeSpec := { name := "dawgHas", fn := fun _ => fun
  | [d1, d2] => { results := [.lit (.bool false)], args := [d1, d2] }
  | _ => none }
def DawgHasWrongFalsely : Prop := dawgHasRow.holds Try.pinned (OpenSpec.ofChange dawgHasWrong)

/-- 'spellwrightlaw11.DawgUsed': WHATEVER THE INPUT: true; the input reads as it did. -/
def dawgUsedSpec : ChangeSpec := { name := "dawgUsed", fn := fun _ => fun
  | [d] => { results := [.lit (.bool true)], args := [d] }
  | _ => none }
def dawgUsedRow : OpenClaim := { program := "ytgbiobhladeooaa", sum := "77f52d26be22ecb024293254c93feabdef80a81ee3248979359bb1f10a183cc4", func := "spellwright/spellwrightlaw11.DawgUsed", spec := "dawgUsed", inPlace := ["internal/reflectlite.ValueOf", "internal/reflectlite.Swapper", "(internal/reflectlite.Value).Len"], unfollowed := true, recurses := true, plainKeys := false, apart := false }
def DawgUsedSaid : Prop := dawgUsedRow.holds Try.pinned (OpenSpec.ofChange dawgUsedSpec)

/-- ITS FALSE NEIGHBOUR: 'it returns false'. Refute it at one input. -/
def dawgUsedWrong : ChangeSpec := { name := "dawgUsed", fn := fun _ => fun
  | [d] => { results := [.lit (.bool false)], args := [d] }
  | _ => none }
def DawgUsedWrongFalsely : Prop := dawgUsedRow.holds Try.pinned (OpenSpec.ofChange dawgUsedWrong)

/-- 'spellwrightlaw11.DawgTail': WHATEVER THE INPUT: true; the input reads as it did. -/
def dawgTailSpec : ChangeSpec := { name := "dawgTail", fn := fun _ => fun
  | [d] => { results := [.lit (.bool true)], args := [d] }
  | _ => none }
def dawgTailRow : OpenClaim := { program := "ytgbiobhladeooaa", sum := "77f52d26be22ecb024293254c93feabdef80a81ee3248979359bb1f10a183cc4", func := "spellwright/spellwrightlaw11.DawgTail", spec := "dawgTail", inPlace := ["internal/reflectlite.ValueOf", "internal/reflectlite.Swapper", "(internal/reflectlite.Value).Len"], unfollowed := true, recurses := true, plainKeys := false, apart := false }
def DawgTailSaid : Prop := dawgTailRow.holds Try.pinned (OpenSpec.ofChange dawgTailSpec)

/-- ITS FALSE NEIGHBOUR: 'it returns false'. Refute it at one input. -/
def dawgTailWrong : ChangeSpec := { name := "dawgTail", fn := fun _ => fun
  | [d] => { results := [.lit (.bool false)], args := [d] }
  | _ => none }
def DawgTailWrongFalsely : Prop := dawgTailRow.holds Try.pinned (OpenSpec.ofChange dawgTailWrong)

/-- 'spellwrightlaw11.DawgHead': WHATEVER THE INPUT: true; the input reads as it did. -/
def dawgHeadSpec : ChangeSpec := { name := "dawgHead", fn := fun _ => fun
  | [d1, d2] => { results := [.lit (.bool true)], args := [d1, d2] }
  | _ => none }
def dawgHeadRow : OpenClaim := { program := "ytgbiobhladeooaa", sum := "77f52d26be22ecb024293254c93feabdef80a81ee3248979359bb1f10a183cc4", func := "spellwright/spellwrightlaw11.DawgHead", spec := "dawgHead", inPlace := ["internal/reflectlite.ValueOf", "internal/reflectlite.Swapper", "(internal/reflectlite.Value).Len"], unfollowed := true, recurses := true, plainKeys := false, apart := false }
def DawgHeadSaid : Prop := dawgHeadRow.holds Try.pinned (OpenSpec.ofChange dawgHeadSpec)

/-- ITS FALSE NEIGHBOUR: 'it returns false'. Refute it at one input. -/
def dawgHeadWrong : ChangeSpec := { name := "dawgHead", fn := fun _ => fun
  | [d1, d2] => { results := [.lit (.bool false)], args := [d1, d2] }
  | _ => none }
def DawgHeadWrongFalsely : Prop := dawgHeadRow.holds Try.pinned (OpenSpec.ofChange dawgHeadWrong)

/- THE SECOND FORM. 'bulk': how many values and letters a reading holds, each counted each time it is reached (what is shared counts as often as it is met; a slice's spare places count too). A statement '..UptoSaid' is the law's where the arguments, and the package variables that the reading takes, are together of bulk at most 1048576: NARROWER than '..Said'. Prove '..Said' where nothing that the law and all that it calls make is longer than what came in: it says more and counts as full. Else prove '..UptoSaid'. A law counts once. -/
mutual
def uptoBulk {H : Type} : DataW H → Nat
  | .lit (.string bytes) => bytes.length + 1
  | .lit _ => 1
  | .nil => 1
  | .ptr d => uptoBulk d + 1
  | .slice elems spare => uptoBulkAll elems + uptoBulkAll spare + 1
  | .agg parts => uptoBulkAll parts + 1
  | .iface _ d => uptoBulk d + 1
  | .map entries => uptoBulkEntries entries + 1
  | .held _ => 1
def uptoBulkAll {H : Type} : List (DataW H) → Nat
  | [] => 0
  | d :: r => uptoBulk d + uptoBulkAll r
def uptoBulkEntries {H : Type} : List (Lit × DataW H) → Nat
  | [] => 0
  | x :: r => uptoBulkEntry x + uptoBulkEntries r
def uptoBulkEntry {H : Type} : Lit × DataW H → Nat
  | (.string bytes, d) => bytes.length + uptoBulk d + 1
  | (_, d) => uptoBulk d + 1
 end
def uptoSmall : (H : Type) → List (DataW H) → Bool := fun _ ds => decide (uptoBulkAll ds ≤ 1048576)
def OpenSpec.upto (s : _root_.Go.ChangeSpec) : _root_.Go.OpenSpec := { _root_.Go.OpenSpec.ofChange s with cond := some uptoSmall }

/-- 'spellwrightlaw11.DawgTells', WHERE WHAT IT READS IS OF BULK AT MOST 1048576: true; the input reads as it did. -/
def dawgTellsUptoRow : OpenClaim := { program := "ytgbiobhladeooaa", sum := "77f52d26be22ecb024293254c93feabdef80a81ee3248979359bb1f10a183cc4", func := "spellwright/spellwrightlaw11.DawgTells", spec := "dawgTells", inPlace := ["internal/reflectlite.ValueOf", "internal/reflectlite.Swapper", "(internal/reflectlite.Value).Len"], unfollowed := true, recurses := true, plainKeys := false, apart := false, narrowed := true }
def DawgTellsUptoSaid : Prop := dawgTellsUptoRow.holds Try.pinned (OpenSpec.upto dawgTellsSpec)

/-- 'spellwrightlaw11.DawgHas', WHERE WHAT IT READS IS OF BULK AT MOST 1048576: true; the input reads as it did. -/
def dawgHasUptoRow : OpenClaim := { program := "ytgbiobhladeooaa", sum := "77f52d26be22ecb024293254c93feabdef80a81ee3248979359bb1f10a183cc4", func := "spellwright/spellwrightlaw11.DawgHas", spec := "dawgHas", inPlace := ["internal/reflectlite.ValueOf", "internal/reflectlite.Swapper", "(internal/reflectlite.Value).Len"], unfollowed := true, recurses := true, plainKeys := false, apart := false, narrowed := true }
def DawgHasUptoSaid : Prop := dawgHasUptoRow.holds Try.pinned (OpenSpec.upto dawgHasSpec)

/-- 'spellwrightlaw11.DawgUsed', WHERE WHAT IT READS IS OF BULK AT MOST 1048576: true; the input reads as it did. -/
def dawgUsedUptoRow : OpenClaim := { program := "ytgbiobhladeooaa", sum := "77f52d26be22ecb024293254c93feabdef80a81ee3248979359bb1f10a183cc4", func := "spellwright/spellwrightlaw11.DawgUsed", spec := "dawgUsed", inPlace := ["internal/reflectlite.ValueOf", "internal/reflectlite.Swapper", "(internal/reflectlite.Value).Len"], unfollowed := true, recurses := true, plainKeys := false, apart := false, narrowed := true }
def DawgUsedUptoSaid : Prop := dawgUsedUptoRow.holds Try.pinned (OpenSpec.upto dawgUsedSpec)

/-- 'spellwrightlaw11.DawgTail', WHERE WHAT IT READS IS OF BULK AT MOST 1048576: true; the input reads as it did. -/
def dawgTailUptoRow : OpenClaim := { program := "ytgbiobhladeooaa", sum := "77f52d26be22ecb024293254c93feabdef80a81ee3248979359bb1f10a183cc4", func := "spellwright/spellwrightlaw11.DawgTail", spec := "dawgTail", inPlace := ["internal/reflectlite.ValueOf", "internal/reflectlite.Swapper", "(internal/reflectlite.Value).Len"], unfollowed := true, recurses := true, plainKeys := false, apart := false, narrowed := true }
def DawgTailUptoSaid : Prop := dawgTailUptoRow.holds Try.pinned (OpenSpec.upto dawgTailSpec)

/-- 'spellwrightlaw11.DawgHead', WHERE WHAT IT READS IS OF BULK AT MOST 1048576: true; the input reads as it did. -/
def dawgHeadUptoRow : OpenClaim := { program := "ytgbiobhladeooaa", sum := "77f52d26be22ecb024293254c93feabdef80a81ee3248979359bb1f10a183cc4", func := "spellwright/spellwrightlaw11.DawgHead", spec := "dawgHead", inPlace := ["internal/reflectlite.ValueOf", "internal/reflectlite.Swapper", "(internal/reflectlite.Value).Len"], unfollowed := true, recurses := true, plainKeys := false, apart := false, narrowed := true }
def DawgHeadUptoSaid : Prop := dawgHeadUptoRow.holds Try.pinned (OpenSpec.upto dawgHeadSpec)

end Rows
end Go.Proofs.Ytgbiobhladeooaa
