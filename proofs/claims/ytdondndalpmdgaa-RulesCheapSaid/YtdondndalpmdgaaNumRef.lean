/- The document's Write and Read of layer 5. -/
import Derived.Deep.RegionWith
import Derived.Test.YtdondndalpmdgaaGenStr
import Derived.Test.YtdondndalpmdgaaPackA
namespace Go.Proofs.Ytdondndalpmdgaa
open Go.RowKit

/-- what a call answers that makes bytes: these, in memory of its own, and nothing that was there is turned -/
def BytesIs (w w' : World) (e : Ending) (l : List Int) : Prop :=
  ∃ a' n c', e = .returned (.slice a' n c') ∧ n = l.length ∧ w'.ownsRow w.heap.size 5 1 (.slice a' n c') n (u8s l) ∧ (a' = none → c' = 0) ∧ Below w.heap.size w w'

set_option maxRecDepth 100000 in
theorem wrap_u64 (x : Int) : IntKind.u64.wrap x = x % 18446744073709551616 := by
  simp [IntKind.wrap, IntKind.signed, IntKind.bits]

set_option maxRecDepth 100000 in
theorem read_wf {zs : List Int} : (Num.read zs).getD 0 < 18446744073709551616 := by
  cases h : Num.read zs with
  | none => simp
  | some c => have := (Num.read_some h).2; simp; omega

/-- what a call answers that reads a cost: it, or the error -/
def Told (e : Ending) (r : Option Nat) : Prop :=
  (∃ c, r = some c ∧ e = .returned (.tuple #[.int .u64 (c : Int), .int .i64 0])) ∨ (r = none ∧ e = .returned (.tuple #[.int .u64 0, .int .i64 50]))

set_option maxRecDepth 100000 in
theorem val_take {zs : List Int} {i : Nat} (h : i < zs.length) : Num.val (zs.take (i + 1)) = Num.val (zs.take i) * 10 + (zs.getD i 0 - 48).toNat := by
  rw [List.take_succ_eq_append_getElem h, Num.val_snoc]
  simp [h]
set_option maxRecDepth 100000 in
theorem digits_take {zs : List Int} {i : Nat} (h : i < zs.length) (h1 : ∀ d ∈ zs.take i, 48 ≤ d ∧ d ≤ 57) (h2 : 48 ≤ zs.getD i 0 ∧ zs.getD i 0 ≤ 57) : ∀ d ∈ zs.take (i + 1), 48 ≤ d ∧ d ≤ 57 := by
  intro d hd
  rw [List.take_succ_eq_append_getElem h] at hd
  rcases List.mem_append.1 hd with hd | hd
  · exact h1 d hd
  · rw [List.mem_singleton.1 hd]; simpa [h] using h2
set_option maxRecDepth 100000 in
theorem getD_mem {zs : List Int} {i : Nat} (h : i < zs.length) : zs.getD i 0 ∈ zs := by
  rw [List.getD_eq_getElem?_getD, List.getElem?_eq_getElem h]; exact List.getElem_mem _

end Go.Proofs.Ytdondndalpmdgaa
