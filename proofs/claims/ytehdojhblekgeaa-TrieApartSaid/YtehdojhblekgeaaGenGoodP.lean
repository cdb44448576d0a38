/- Whether a number is a sign: the program's utf.Good, for whatever layer (UtfWalkA holds it for layer 1: never import both). -/
import Derived.Test.YtehdojhblekgeaaChecked
import Derived.Test.YtehdojhblekgeaaPackA
import Derived.WalkKit
import Derived.WalkLawsBesides
import Derived.Below
import Derived.ProofKit
import Derived.Outline
import Derived.BigQuiet
import Derived.BigGuardPart
import Derived.Deep.QuietTactic
namespace Go.Proofs.Ytehdojhblekgeaa
open Go.RowKit

set_option maxRecDepth 100000 in
set_option maxHeartbeats 400000 in
theorem good_any (n : Int) (w : World) (h0 : -9223372036854775808 ≤ n) (h1 : n ≤ 9223372036854775807) :
    Calls Try.prog 29 #[.int .i64 n] w fun e w' => e = .returned (.bool (Utf.good n)) ∧ w = w' := by
  by_cases a : n < 0
  · have hg : Utf.good n = false := by simp [Utf.good]; omega
    rw [hg]
    go_enter Try.func29, Try.ntmps29
    go_wp2
    go_ret
    exact ⟨rfl, rfl⟩
  · by_cases b : 1114111 < n
    · have hg : Utf.good n = false := by simp [Utf.good]; omega
      rw [hg]
      go_enter Try.func29, Try.ntmps29
      go_wp2
      go_ret
      exact ⟨rfl, rfl⟩
    · by_cases c : 55296 ≤ n
      · by_cases d : n ≤ 57343
        · have hg : Utf.good n = false := by simp [Utf.good]; omega
          rw [hg]
          go_enter Try.func29, Try.ntmps29
          go_wp2
          go_ret
          exact ⟨rfl, rfl⟩
        · have hg : Utf.good n = true := by simp [Utf.good]; omega
          rw [hg]
          go_enter Try.func29, Try.ntmps29
          go_wp2
          go_ret
          exact ⟨rfl, rfl⟩
      · have hg : Utf.good n = true := by simp [Utf.good]; omega
        rw [hg]
        go_enter Try.func29, Try.ntmps29
        go_wp2
        go_ret
        exact ⟨rfl, rfl⟩

end Go.Proofs.Ytehdojhblekgeaa
