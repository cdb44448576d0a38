/- small, of layer 10's laws. -/
import Derived.Test.YtehdojhblekgeaaOrderWalkB
namespace Go.Proofs.Ytehdojhblekgeaa
open Go.RowKit

set_option maxRecDepth 100000 in
theorem small_is (a : Option Addr) (n cap : Nat) (xs : List Wd) (w : World) (ha : Ws w a n cap xs) :
    Calls Try.prog 9 #[.slice a n cap] w fun e w' => (e = .returned (.bool false) ∨ e = .returned (.bool true) ∧ FewK 60 xs n) ∧ w = w' := by
  have HA := Lib.hid ha
  clear ha
  go_enter Try.func9, Try.ntmps9
  go_wp2_with fail
  refine (few_of 60 60 a n cap xs w rfl HA.out).mono ?_
  rintro e w1 ⟨he, rfl⟩
  rcases he with rfl | ⟨rfl, hf⟩
  · go_wp2
    go_ret
    exact ⟨.inl rfl, rfl⟩
  · have HF := Lib.hid hf
    clear hf
    go_wp2
    go_ret
    exact ⟨.inr ⟨rfl, HF.out⟩, rfl⟩

end Go.Proofs.Ytehdojhblekgeaa
