/- The leaves of package utf and of the document's answer for it: Good (both), sizeOf, headMark, sizeByHead answer by their one number alone, and leave the world as it was. -/
import Derived.Test.YtkamlhkieblnoaaChecked
import Derived.Test.YtkamlhkieblnoaaUtfMath
import Derived.WalkKit
import Derived.WalkLawsBesides
import Derived.Below
import Derived.ProofKit
import Derived.Outline
import Derived.BigQuiet
import Derived.BigGuardPart
import Derived.Deep.QuietTactic
namespace Go.Proofs.Ytkamlhkieblnoaa
open Go.RowKit

set_option maxHeartbeats 400000 in
theorem good_any (n : Int) (w : World) (h0 : -9223372036854775808 ≤ n) (h1 : n ≤ 9223372036854775807) :
    Calls Try.prog 18 #[.int .i64 n] w fun e w' => e = .returned (.bool (Utf.good n)) ∧ w = w' := by
  by_cases a : n < 0
  · have hg : Utf.good n = false := by simp [Utf.good]; omega
    rw [hg]
    go_enter Try.func18, Try.ntmps18
    go_wp2
    go_ret
    exact ⟨rfl, rfl⟩
  · by_cases b : 1114111 < n
    · have hg : Utf.good n = false := by simp [Utf.good]; omega
      rw [hg]
      go_enter Try.func18, Try.ntmps18
      go_wp2
      go_ret
      exact ⟨rfl, rfl⟩
    · by_cases c : 55296 ≤ n
      · by_cases d : n ≤ 57343
        · have hg : Utf.good n = false := by simp [Utf.good]; omega
          rw [hg]
          go_enter Try.func18, Try.ntmps18
          go_wp2
          go_ret
          exact ⟨rfl, rfl⟩
        · have hg : Utf.good n = true := by simp [Utf.good]; omega
          rw [hg]
          go_enter Try.func18, Try.ntmps18
          go_wp2
          go_ret
          exact ⟨rfl, rfl⟩
      · have hg : Utf.good n = true := by simp [Utf.good]; omega
        rw [hg]
        go_enter Try.func18, Try.ntmps18
        go_wp2
        go_ret
        exact ⟨rfl, rfl⟩

theorem ret_bool {a b : Bool} (h : a = b) : Ending.returned (.bool a) = .returned (.bool b) := by rw [h]
theorem ret_i64 {a b : Int} (h : a = b) : Ending.returned (.int .i64 a) = .returned (.int .i64 b) := by rw [h]

set_option maxHeartbeats 400000 in
theorem rgood_any (n : Int) (w : World) (h0 : -9223372036854775808 ≤ n) (h1 : n ≤ 9223372036854775807) :
    Calls Try.prog 19 #[.int .i64 n] w fun e w' => e = .returned (.bool (Utf.good n)) ∧ w = w' := by
  go_enter Try.func19, Try.ntmps19
  go_wp2
  all_goals (go_ret; refine ⟨ret_bool ?_, rfl⟩)
  all_goals (rw [Bool.eq_iff_iff, Utf.good_iff]; simp only [decide_eq_true_eq, Bool.false_eq_true, true_iff, false_iff]; omega)

theorem sizeOf_any (n : Int) (w : World) :
    Calls Try.prog 24 #[.int .i32 n] w fun e w' => e = .returned (.int .i64 (Utf.size n : Nat)) ∧ w = w' := by
  by_cases a : n < 128
  · rw [show Utf.size n = 1 from by unfold Utf.size; rw [if_pos a]]
    go_enter Try.func24, Try.ntmps24
    go_wp2
    go_ret
    exact ⟨rfl, rfl⟩
  · by_cases b : n < 2048
    · rw [show Utf.size n = 2 from by unfold Utf.size; rw [if_neg a, if_pos b]]
      go_enter Try.func24, Try.ntmps24
      go_wp2
      go_ret
      exact ⟨rfl, rfl⟩
    · by_cases c : n < 65536
      · rw [show Utf.size n = 3 from by unfold Utf.size; rw [if_neg a, if_neg b, if_pos c]]
        go_enter Try.func24, Try.ntmps24
        go_wp2
        go_ret
        exact ⟨rfl, rfl⟩
      · rw [show Utf.size n = 4 from by unfold Utf.size; rw [if_neg a, if_neg b, if_neg c]]
        go_enter Try.func24, Try.ntmps24
        go_wp2
        go_ret
        exact ⟨rfl, rfl⟩

theorem headMark_any (k : Int) (w : World) :
    Calls Try.prog 23 #[.int .i64 k] w fun e w' => e = .returned (.int .u8 (Utf.mark k)) ∧ w = w' := by
  by_cases a : k = 1
  · subst a
    rw [show Utf.mark 1 = 0 from rfl]
    go_enter Try.func23, Try.ntmps23
    go_wp2
    go_ret
    exact ⟨rfl, rfl⟩
  · by_cases b : k = 2
    · subst b
      rw [show Utf.mark 2 = 192 from rfl]
      go_enter Try.func23, Try.ntmps23
      go_wp2
      go_ret
      exact ⟨rfl, rfl⟩
    · by_cases c : k = 3
      · subst c
        rw [show Utf.mark 3 = 224 from rfl]
        go_enter Try.func23, Try.ntmps23
        go_wp2
        go_ret
        exact ⟨rfl, rfl⟩
      · rw [show Utf.mark k = 240 from by unfold Utf.mark; rw [if_neg a, if_neg b, if_neg c]]
        have a' : (k == 1) = false := by simpa using a
        have b' : (k == 2) = false := by simpa using b
        have c' : (k == 3) = false := by simpa using c
        clear a b c
        go_enter Try.func23, Try.ntmps23
        go_wp2
        go_ret
        exact ⟨rfl, rfl⟩

theorem sizeByHead_any (n : Int) (w : World) :
    Calls Try.prog 22 #[.int .u8 n] w fun e w' => e = .returned (.int .i64 (Utf.byHead n : Nat)) ∧ w = w' := by
  by_cases a : n < 128
  · rw [show Utf.byHead n = 1 from by unfold Utf.byHead; rw [if_pos a]]
    go_enter Try.func22, Try.ntmps22
    go_wp2
    go_ret
    exact ⟨rfl, rfl⟩
  · by_cases b : n < 192
    · rw [show Utf.byHead n = 0 from by unfold Utf.byHead; rw [if_neg a, if_pos b]]
      go_enter Try.func22, Try.ntmps22
      go_wp2
      go_ret
      exact ⟨rfl, rfl⟩
    · by_cases c : n < 224
      · rw [show Utf.byHead n = 2 from by unfold Utf.byHead; rw [if_neg a, if_neg b, if_pos c]]
        go_enter Try.func22, Try.ntmps22
        go_wp2
        go_ret
        exact ⟨rfl, rfl⟩
      · by_cases d : n < 240
        · rw [show Utf.byHead n = 3 from by unfold Utf.byHead; rw [if_neg a, if_neg b, if_neg c, if_pos d]]
          go_enter Try.func22, Try.ntmps22
          go_wp2
          go_ret
          exact ⟨rfl, rfl⟩
        · by_cases f : n < 248
          · rw [show Utf.byHead n = 4 from by unfold Utf.byHead; rw [if_neg a, if_neg b, if_neg c, if_neg d, if_pos f]]
            go_enter Try.func22, Try.ntmps22
            go_wp2
            go_ret
            exact ⟨rfl, rfl⟩
          · rw [show Utf.byHead n = 0 from by unfold Utf.byHead; rw [if_neg a, if_neg b, if_neg c, if_neg d, if_neg f]]
            go_enter Try.func22, Try.ntmps22
            go_wp2
            go_ret
            exact ⟨rfl, rfl⟩

end Go.Proofs.Ytkamlhkieblnoaa
