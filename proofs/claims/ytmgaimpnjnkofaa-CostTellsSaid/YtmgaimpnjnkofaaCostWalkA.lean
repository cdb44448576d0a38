/- The leaves of package cost and of the document's answer for it: Add (both), Times: each answers by its numbers alone, and leaves the world as it was. -/
import Derived.Test.YtmgaimpnjnkofaaChecked
import Derived.Test.YtmgaimpnjnkofaaCostMath
import Derived.WalkKit
import Derived.WalkLawsBesides
import Derived.Below
import Derived.ProofKit
import Derived.Outline
import Derived.BigQuiet
import Derived.BigGuardPart
import Derived.Deep.QuietTactic
namespace Go.Proofs.Ytmgaimpnjnkofaa
open Go.RowKit

theorem ret_u64 {a b : Int} (h : a = b) : Ending.returned (.int .u64 a) = .returned (.int .u64 b) := by rw [h]

set_option maxHeartbeats 400000 in
theorem cadd_any (a b : Int) (w : World) (ha : 0 ≤ a) (ha1 : a ≤ 18446744073709551615) (hb : 0 ≤ b) (hb1 : b ≤ 18446744073709551615) :
    Calls Try.prog 12 #[.int .u64 a, .int .u64 b] w fun e w' => e = .returned (.int .u64 (Cost.add a b)) ∧ w = w' := by
  by_cases h : 18446744073709551615 - b < a
  · rw [show Cost.add a b = 18446744073709551615 from by unfold Cost.add Cost.cap; rw [if_pos (by omega)]]
    go_enter Try.func12, Try.ntmps12
    go_wp2
    go_ret
    exact ⟨rfl, rfl⟩
  · rw [show Cost.add a b = a + b from by unfold Cost.add Cost.cap; rw [if_neg (by omega)]]
    have hs : a + b ≤ 18446744073709551615 := by omega
    go_enter Try.func12, Try.ntmps12
    go_wp2
    go_ret
    exact ⟨rfl, rfl⟩

set_option maxHeartbeats 400000 in
theorem ctimes_any (c n : Int) (w : World) (hc : 0 ≤ c) (hn : -9223372036854775808 ≤ n) (hn1 : n ≤ 9223372036854775807) :
    Calls Try.prog 18 #[.int .u64 c, .int .i64 n] w fun e w' => e = .returned (.int .u64 (Cost.times c n)) ∧ w = w' := by
  by_cases h : n < 1
  · rw [Cost.times_zero c h]
    go_enter Try.func18, Try.ntmps18
    go_wp2
    go_ret
    exact ⟨rfl, rfl⟩
  · by_cases h2 : c ≤ 18446744073709551615 / n
    · obtain ⟨e1, e2⟩ := Cost.times_in (c := c) (n := n) (by omega) h2
      rw [e1]
      have e3 : 0 ≤ c * n := Int.mul_nonneg hc (by omega)
      go_enter Try.func18, Try.ntmps18
      go_wp2
      go_ret
      exact ⟨rfl, rfl⟩
    · rw [Cost.times_out (c := c) (n := n) (by omega) h2]
      go_enter Try.func18, Try.ntmps18
      go_wp2
      go_ret
      exact ⟨rfl, rfl⟩

end Go.Proofs.Ytmgaimpnjnkofaa
