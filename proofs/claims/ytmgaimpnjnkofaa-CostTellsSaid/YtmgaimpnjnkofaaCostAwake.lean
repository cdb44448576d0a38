/- awake, the head of all laws of layer 2: it answers true. -/
import Derived.Test.YtmgaimpnjnkofaaCostWalkC
namespace Go.Proofs.Ytmgaimpnjnkofaa
open Go.RowKit

set_option maxHeartbeats 1000000 in
theorem awake_any (w : World) : Calls Try.prog 11 #[] w fun e w' => e = .returned (.bool true) ∧ Below w.heap.size w w' := by
  go_enter Try.func11, Try.ntmps11
  go_wp2_with fail
  refine (cadd_is 2 3 5 _ (by decide) (by decide) (by decide) (by decide) (by decide)).mono ?_
  rintro e w1 ⟨rfl, rfl⟩
  go_wp2_with fail
  refine (cadd_is _ _ 18446744073709551615 _ (by decide) (by decide) (by decide) (by decide) (by decide)).mono ?_
  rintro e w1 ⟨rfl, rfl⟩
  go_wp2_with fail
  refine (csum_is _ _ _ [] 0 _ Sl.nil (by decide)).mono ?_
  rintro e w1 ⟨rfl, rfl⟩
  go_wp2_with fail
  refine (csum_is _ _ _ [1, 2, 3] 6 _ (Sl.newc [1, 2, 3] (by intro x hx; simp at hx; omega) (by decide)) (by decide)).mono ?_
  rintro e w1 ⟨rfl, rfl⟩
  go_wp2_with fail
  refine (cleast_is _ _ _ [] 18446744073709551615 _ Sl.nil (by decide)).mono ?_
  rintro e w1 ⟨rfl, rfl⟩
  go_wp2_with fail
  refine (cleast_is _ _ _ [4, 2, 3] 2 _ (Sl.newcB [4, 2, 3] (by intro x hx; simp at hx; omega) (by decide) (by simp) rfl rfl) (by decide)).mono ?_
  rintro e w1 ⟨rfl, rfl⟩
  go_wp2_with fail
  refine (ctimes_is 5 3 15 _ (by decide) (by decide) (by decide) (by decide)).mono ?_
  rintro e w1 ⟨rfl, rfl⟩
  go_wp2_with fail
  refine (ctimes_is 5 (-1) 0 _ (by decide) (by decide) (by decide) (by decide)).mono ?_
  rintro e w1 ⟨rfl, rfl⟩
  go_wp2_with fail
  refine (ctimes_is _ 2 18446744073709551615 _ (by decide) (by decide) (by decide) (by decide)).mono ?_
  rintro e w1 ⟨rfl, rfl⟩
  go_wp2
  go_ret
  exact ⟨rfl, ((Below.refl _ w).alloc (Nat.le_refl _) _).alloc (by simp) _⟩

end Go.Proofs.Ytmgaimpnjnkofaa
