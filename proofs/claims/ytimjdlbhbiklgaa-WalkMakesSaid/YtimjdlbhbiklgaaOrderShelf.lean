/-
  DERIVED: THE SHELF's CONTRACTS AT THIS DUMP, IN PLAIN WORDS (tools/lay-plain.mjs out of 'YtimjdlbhbiklgaaOrderLay.lean', which tools/lay-shelf.mjs wrote): THE SAME DECLARATIONS UNDER THE SAME NAMES: 'import', 'namespace', 'open', 'def', 'theorem' AND NOTHING ELSE: no command of the shelf's: FOR A HAND-IN. Each laying: the table of numbers ('.._ren') and one theorem, a field a fact of the dump's own or the kernel's comparison; each contract: ONE APPLICATION.
-/
import Derived.Shelf.SlSorted.Search
import Derived.Test.YtimjdlbhbiklgaaProg
namespace Go.Proofs
open Go.Shelf
def Try.searchO_ren : Go.Shelf.Ren := ⟨fun | 16 => 46 | n => n, fun | 3 => 3 | 35 => 79 | 4 => 4 | 38 => 111 | n => n, fun | n => n⟩
theorem Try.searchO : Go.Proofs.SlLaysO.n16 Try.prog Try.searchO_ren := {
  mixed := by kernel_rfl
  f16 := Try.func46.trans (congrArg some (by kernel_rfl))
  t3 := Try.underlying3
  a3 := Try.isAgg3
  z3 := Try.sizeOf3
  v3 := Try.zeroValue3
  t4 := Try.underlying4
  a4 := Try.isAgg4
  z4 := Try.sizeOf4
  v4 := Try.zeroValue4
  t35 := Try.underlying79
  a35 := Try.isAgg79
  z35 := Try.sizeOf79
  v35 := Try.zeroValue79
  t38 := Try.underlying111
  a38 := Try.isAgg111
  z38 := Try.sizeOf111
  v38 := Try.zeroValue111 }
end Go.Proofs
