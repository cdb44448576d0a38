/- The leaves of package utf and of the document's answer for it: Good (both), sizeOf, headMark, sizeByHead answer by their one number alone, and leave the world as it was. -/
import Derived.Test.YtflikfnehpaohaaGenGoodP
import Derived.Test.YtflikfnehpaohaaGenGoodR
import Derived.Test.YtflikfnehpaohaaChecked
import Derived.Test.YtflikfnehpaohaaUtfMath
import Derived.WalkKit
import Derived.WalkLawsBesides
import Derived.Below
import Derived.ProofKit
import Derived.Outline
import Derived.BigQuiet
import Derived.BigGuardPart
import Derived.Deep.QuietTactic
namespace Go.Proofs.Ytflikfnehpaohaa
open Go.RowKit

set_option maxRecDepth 100000 in
theorem sizeOf_any (n : Int) (w : World) :
    Calls Try.prog 65 #[.int .i32 n] w fun e w' => e = .returned (.int .i64 (Utf.size n : Nat)) ∧ w = w' := by
  by_cases a : n < 128
  · rw [show Utf.size n = 1 from by unfold Utf.size; rw [if_pos a]]
    go_enter Try.func65, Try.ntmps65
    go_wp2
    go_ret
    exact ⟨rfl, rfl⟩
  · by_cases b : n < 2048
    · rw [show Utf.size n = 2 from by unfold Utf.size; rw [if_neg a, if_pos b]]
      go_enter Try.func65, Try.ntmps65
      go_wp2
      go_ret
      exact ⟨rfl, rfl⟩
    · by_cases c : n < 65536
      · rw [show Utf.size n = 3 from by unfold Utf.size; rw [if_neg a, if_neg b, if_pos c]]
        go_enter Try.func65, Try.ntmps65
        go_wp2
        go_ret
        exact ⟨rfl, rfl⟩
      · rw [show Utf.size n = 4 from by unfold Utf.size; rw [if_neg a, if_neg b, if_neg c]]
        go_enter Try.func65, Try.ntmps65
        go_wp2
        go_ret
        exact ⟨rfl, rfl⟩

set_option maxRecDepth 100000 in
theorem headMark_any (k : Int) (w : World) :
    Calls Try.prog 64 #[.int .i64 k] w fun e w' => e = .returned (.int .u8 (Utf.mark k)) ∧ w = w' := by
  by_cases a : k = 1
  · subst a
    rw [show Utf.mark 1 = 0 from rfl]
    go_enter Try.func64, Try.ntmps64
    go_wp2
    go_ret
    exact ⟨rfl, rfl⟩
  · by_cases b : k = 2
    · subst b
      rw [show Utf.mark 2 = 192 from rfl]
      go_enter Try.func64, Try.ntmps64
      go_wp2
      go_ret
      exact ⟨rfl, rfl⟩
    · by_cases c : k = 3
      · subst c
        rw [show Utf.mark 3 = 224 from rfl]
        go_enter Try.func64, Try.ntmps64
        go_wp2
        go_ret
        exact ⟨rfl, rfl⟩
      · rw [show Utf.mark k = 240 from by unfold Utf.mark; rw [if_neg a, if_neg b, if_neg c]]
        have a' : (k == 1) = false := by simpa using a
        have b' : (k == 2) = false := by simpa using b
        have c' : (k == 3) = false := by simpa using c
        clear a b c
        go_enter Try.func64, Try.ntmps64
        go_wp2
        go_ret
        exact ⟨rfl, rfl⟩

set_option maxRecDepth 100000 in
theorem sizeByHead_any (n : Int) (w : World) :
    Calls Try.prog 63 #[.int .u8 n] w fun e w' => e = .returned (.int .i64 (Utf.byHead n : Nat)) ∧ w = w' := by
  by_cases a : n < 128
  · rw [show Utf.byHead n = 1 from by unfold Utf.byHead; rw [if_pos a]]
    go_enter Try.func63, Try.ntmps63
    go_wp2
    go_ret
    exact ⟨rfl, rfl⟩
  · by_cases b : n < 192
    · rw [show Utf.byHead n = 0 from by unfold Utf.byHead; rw [if_neg a, if_pos b]]
      go_enter Try.func63, Try.ntmps63
      go_wp2
      go_ret
      exact ⟨rfl, rfl⟩
    · by_cases c : n < 224
      · rw [show Utf.byHead n = 2 from by unfold Utf.byHead; rw [if_neg a, if_neg b, if_pos c]]
        go_enter Try.func63, Try.ntmps63
        go_wp2
        go_ret
        exact ⟨rfl, rfl⟩
      · by_cases d : n < 240
        · rw [show Utf.byHead n = 3 from by unfold Utf.byHead; rw [if_neg a, if_neg b, if_neg c, if_pos d]]
          go_enter Try.func63, Try.ntmps63
          go_wp2
          go_ret
          exact ⟨rfl, rfl⟩
        · by_cases f : n < 248
          · rw [show Utf.byHead n = 4 from by unfold Utf.byHead; rw [if_neg a, if_neg b, if_neg c, if_neg d, if_pos f]]
            go_enter Try.func63, Try.ntmps63
            go_wp2
            go_ret
            exact ⟨rfl, rfl⟩
          · rw [show Utf.byHead n = 0 from by unfold Utf.byHead; rw [if_neg a, if_neg b, if_neg c, if_neg d, if_neg f]]
            go_enter Try.func63, Try.ntmps63
            go_wp2
            go_ret
            exact ⟨rfl, rfl⟩

end Go.Proofs.Ytflikfnehpaohaa
