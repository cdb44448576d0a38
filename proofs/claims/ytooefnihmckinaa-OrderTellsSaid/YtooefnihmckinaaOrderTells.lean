/- For every list of words, and every two lists of numbers, OrderTells answers true, and turns nothing that was there. No condition. -/
import Derived.Test.YtooefnihmckinaaRows
import Derived.Test.YtooefnihmckinaaOrderAwake
import Derived.Test.YtooefnihmckinaaOrderRefB
import Derived.WalkKit
import Derived.ProofKit
import Derived.OpenShut
import Derived.ShutString
import Derived.ChangeOld
import Derived.Below
import Derived.Deep.Matrix
namespace Go.Proofs.Ytooefnihmckinaa.orderTells
open Go.ChangeShapes Go.WideShapes Go.ChangeAt Go.RowKit
set_option linter.unusedVariables false

theorem own : ownKnob Try.prog.godebug = none := by kernel_rfl
theorem laidOut : laidOutB Try.prog = true := by kernel_rfl

/-- a slice of integers that came in -/
def IsRow (k : IntKind) (w : World) (a : Option Addr) (len cap : Nat) (zs : List Int) : Prop :=
  (a = none ∧ len = 0 ∧ cap = 0 ∧ zs = []) ∨
  ∃ x, a = some x ∧ len ≤ cap ∧ cap ≤ maxLen ∧ zs.length = cap ∧ (∀ i, i < zs.length → w.cell? (x.add i) = some (.int k (zs.getD i 0))) ∧ ∀ n ∈ zs, (Lit.int k n).wf = true

/-! ### STEP 1: the walk -/
set_option maxRecDepth 100000 in
set_option maxHeartbeats 6000000 in
theorem walk (a0 : Option Addr) (len0 cap0 : Nat) (x0 : List Wd) (a1 : Option Addr) (len1 cap1 : Nat) (z1 : List Int) (a2 : Option Addr) (len2 cap2 : Nat) (z2 : List Int) (w : World) (w0 : Ws w a0 len0 cap0 x0) (n0 : a0 = none → cap0 = 0) (w1 : IsRow .i64 w a1 len1 cap1 z1) (w2 : IsRow .i64 w a2 len2 cap2 z2) :
    Calls Try.prog 3 #[.slice a0 len0 cap0, .slice a1 len1 cap1, .slice a2 len2 cap2] w fun e w' => e = .returned (.bool true) ∧ Below w.heap.size w w' := by
  have hcm0 := w0.2.2.1
  have hnc0 := w0.2.1
  unfold maxLen at hcm0
  have HX := Lib.hid w0
  have HN0 := Lib.hid n0
  clear w0 n0
  have hs1 := Sl.of_row w1
  generalize z1.take len1 = zs at hs1
  have hcm1 := hs1.2.2.1
  have hnc1 := hs1.2.1
  unfold maxLen at hcm1
  have HS := Lib.hid hs1
  clear hs1 w1
  have hs2 := Sl.of_row w2
  generalize z2.take len2 = vs at hs2
  have hcm2 := hs2.2.2.1
  have hnc2 := hs2.2.1
  unfold maxLen at hcm2
  have HT := Lib.hid hs2
  clear hs2 w2
  obtain ⟨k, hk⟩ : ∃ k, cnt (srt (nums x0)) zs = k := ⟨_, rfl⟩
  obtain ⟨c, hc⟩ : ∃ c, common zs vs = c := ⟨_, rfl⟩
  have HK := Lib.hid hk
  have HC := Lib.hid hc
  clear hk hc
  go_enter Try.func3, Try.ntmps3
  go_wp2_with fail
  refine (awake_any _).mono ?_
  rintro e w3 ⟨rfl, B1⟩
  have X1 := Lib.hid (HX.out.below B1 (Nat.le_refl _))
  have S1 := Lib.hid (HS.out.below B1 (Nat.le_refl _))
  have T1 := Lib.hid (HT.out.below B1 (Nat.le_refl _))
  go_wp2_with fail
  refine (few_any _ _ _ _ _ X1.out).mono ?_
  rintro e w4 ⟨he, rfl⟩
  rcases he with rfl | ⟨rfl, hshort, hn200⟩
  · go_wp2
    go_ret
    exact ⟨rfl, B1⟩
  have HSH := Lib.hid hshort
  clear hshort
  by_cases h1 : 100 < len1
  · have hi1 : (100 : Int) < (len1 : Int) := by omega
    go_wp2
    go_ret
    exact ⟨rfl, B1⟩
  have hi1 : ¬ (100 : Int) < (len1 : Int) := by omega
  by_cases h2 : 100 < len2
  · have hi2 : (100 : Int) < (len2 : Int) := by omega
    go_wp2
    go_ret
    exact ⟨rfl, B1⟩
  clear hi1
  have hi1 : decide ((100 : Int) < (len1 : Int)) = false := by simp; omega
  have hi2 : decide ((100 : Int) < (len2 : Int)) = false := by simp; omega
  cases hr : decide (zs ∈ srt (nums x0))
  · have HR := Lib.hid hr
    clear hr
    cases hrl : lessL zs vs
    · have HRL := Lib.hid hrl
      clear hrl
      go_wp2_with fail
      refine (sort_any _ _ _ x0 _ X1.out HSH.out (by omega)).mono ?_
      rintro e w4 ⟨sa, sm, sc, ys, rfl, hys, hnum, _, _, hb4⟩
      have YS4 := Lib.hid hys
      have HNUM := Lib.hid hnum
      have X4 := Lib.hid (X1.out.below hb4 (Nat.le_refl _))
      have S4 := Lib.hid (S1.out.below hb4 (Nat.le_refl _))
      have T4 := Lib.hid (T1.out.below hb4 (Nat.le_refl _))
      have B4 := B1.trans (hb4.mono B1.size)
      clear hys hnum hb4
      go_wp2_with fail
      refine (rsort_any _ _ _ x0 _ X4.out (by omega)).mono ?_
      rintro e w5 ⟨ra, rm, rc, qs, rfl, hqs, hqn, hb5⟩
      have Q5 := Lib.hid hqs
      have HQN := Lib.hid hqn
      have YS5 := Lib.hid (YS4.out.below hb5 (Nat.le_refl _))
      have X5 := Lib.hid (X4.out.below hb5 (Nat.le_refl _))
      have S5 := Lib.hid (S4.out.below hb5 (Nat.le_refl _))
      have T5 := Lib.hid (T4.out.below hb5 (Nat.le_refl _))
      have B5 := B4.trans (hb5.mono B4.size)
      have hrm : rm ≤ 300 := by rw [← hqs.1, ← nums_length, hqn]; have := srt_length (nums x0); rw [nums_length, HX.out.1] at this; omega
      clear hqs hqn hb5
      go_wp2_with fail
      refine (find_is _ _ _ _ _ _ qs zs k false _ Q5.out S5.out (by rw [HQN.out]; exact rise_srt _) (by rw [HQN.out]; exact HK.out) (by rw [HQN.out]; exact HR.out) (by omega)).mono ?_
      rintro e w6 ⟨rfl, hb6⟩
      have YS6 := Lib.hid (YS5.out.below hb6 (Nat.le_refl _))
      have X6 := Lib.hid (X5.out.below hb6 (Nat.le_refl _))
      have S6 := Lib.hid (S5.out.below hb6 (Nat.le_refl _))
      have T6 := Lib.hid (T5.out.below hb6 (Nat.le_refl _))
      have B6 := B5.trans (hb6.mono B5.size)
      clear hb6
      go_wp2_with fail
      refine (rsort_any _ _ _ x0 _ X6.out (by omega)).mono ?_
      rintro e w7 ⟨ra2, rm2, rc2, qs2, rfl, hqs, hqn, hb7⟩
      have Q7 := Lib.hid hqs
      have HQN2 := Lib.hid hqn
      have YS7 := Lib.hid (YS6.out.below hb7 (Nat.le_refl _))
      have X7 := Lib.hid (X6.out.below hb7 (Nat.le_refl _))
      have S7 := Lib.hid (S6.out.below hb7 (Nat.le_refl _))
      have T7 := Lib.hid (T6.out.below hb7 (Nat.le_refl _))
      have B7 := B6.trans (hb7.mono B6.size)
      clear hqs hqn hb7
      go_wp2_with fail
      refine (rfind_is _ _ _ _ _ _ qs2 zs k false _ Q7.out S7.out (by rw [HQN2.out]; exact HK.out) (by rw [HQN2.out]; exact HR.out)).mono ?_
      rintro e w8 ⟨rfl, hq8⟩
      have YS8 := Lib.hid (YS7.out.drawn hq8)
      have X8 := Lib.hid (X7.out.drawn hq8)
      have S8 := Lib.hid (S7.out.drawn hq8)
      have T8 := Lib.hid (T7.out.drawn hq8)
      have B8 := below_drawn B7 hq8
      clear hq8
      go_wp2_with fail
      refine (rsort_any _ _ _ x0 _ X8.out (by omega)).mono ?_
      rintro e w9 ⟨ra3, rm3, rc3, qs3, rfl, hqs, hqn, hb9⟩
      have Q9 := Lib.hid hqs
      have HQN3 := Lib.hid hqn
      have YS9 := Lib.hid (YS8.out.below hb9 (Nat.le_refl _))
      have S9 := Lib.hid (S8.out.below hb9 (Nat.le_refl _))
      have T9 := Lib.hid (T8.out.below hb9 (Nat.le_refl _))
      have B9 := B8.trans (hb9.mono B8.size)
      clear hqs hqn hb9
      go_wp2_with fail
      refine (sames_is _ _ _ _ _ _ ys qs3 true _ YS9.out Q9.out (by rw [HNUM.out, HQN3.out]; simp)).mono ?_
      rintro e w10 ⟨rfl, q1, rfl⟩
      go_wp2_with fail
      refine (less_is _ _ _ _ _ _ zs vs false _ (S9.out.drewN _) (T9.out.drewN _) HRL.out).mono ?_
      rintro e w10 ⟨rfl, q2, rfl⟩
      go_wp2_with fail
      refine (rless_is _ _ _ _ _ _ zs vs false _ (S9.out.drewN _) (T9.out.drewN _) HRL.out).mono ?_
      rintro e w10 ⟨rfl, q3, rfl⟩
      go_wp2_with fail
      refine (common_is _ _ _ _ _ _ zs vs c _ (S9.out.drewN _) (T9.out.drewN _) HC.out).mono ?_
      rintro e w10 ⟨rfl, q4, rfl⟩
      go_wp2_with fail
      refine (rcommon_is _ _ _ _ _ _ zs vs c _ (S9.out.drewN _) (T9.out.drewN _) HC.out).mono ?_
      rintro e w10 ⟨rfl, q5, hq5⟩
      have B10 : Below w.heap.size w w10 := by rw [hq5]; exact below_drewN (below_drewN B9 _) _
      clear hq5
      go_wp2
      go_ret
      exact ⟨by first | rfl | simp, B10⟩
    · have HRL := Lib.hid hrl
      clear hrl
      go_wp2_with fail
      refine (sort_any _ _ _ x0 _ X1.out HSH.out (by omega)).mono ?_
      rintro e w4 ⟨sa, sm, sc, ys, rfl, hys, hnum, _, _, hb4⟩
      have YS4 := Lib.hid hys
      have HNUM := Lib.hid hnum
      have X4 := Lib.hid (X1.out.below hb4 (Nat.le_refl _))
      have S4 := Lib.hid (S1.out.below hb4 (Nat.le_refl _))
      have T4 := Lib.hid (T1.out.below hb4 (Nat.le_refl _))
      have B4 := B1.trans (hb4.mono B1.size)
      clear hys hnum hb4
      go_wp2_with fail
      refine (rsort_any _ _ _ x0 _ X4.out (by omega)).mono ?_
      rintro e w5 ⟨ra, rm, rc, qs, rfl, hqs, hqn, hb5⟩
      have Q5 := Lib.hid hqs
      have HQN := Lib.hid hqn
      have YS5 := Lib.hid (YS4.out.below hb5 (Nat.le_refl _))
      have X5 := Lib.hid (X4.out.below hb5 (Nat.le_refl _))
      have S5 := Lib.hid (S4.out.below hb5 (Nat.le_refl _))
      have T5 := Lib.hid (T4.out.below hb5 (Nat.le_refl _))
      have B5 := B4.trans (hb5.mono B4.size)
      have hrm : rm ≤ 300 := by rw [← hqs.1, ← nums_length, hqn]; have := srt_length (nums x0); rw [nums_length, HX.out.1] at this; omega
      clear hqs hqn hb5
      go_wp2_with fail
      refine (find_is _ _ _ _ _ _ qs zs k false _ Q5.out S5.out (by rw [HQN.out]; exact rise_srt _) (by rw [HQN.out]; exact HK.out) (by rw [HQN.out]; exact HR.out) (by omega)).mono ?_
      rintro e w6 ⟨rfl, hb6⟩
      have YS6 := Lib.hid (YS5.out.below hb6 (Nat.le_refl _))
      have X6 := Lib.hid (X5.out.below hb6 (Nat.le_refl _))
      have S6 := Lib.hid (S5.out.below hb6 (Nat.le_refl _))
      have T6 := Lib.hid (T5.out.below hb6 (Nat.le_refl _))
      have B6 := B5.trans (hb6.mono B5.size)
      clear hb6
      go_wp2_with fail
      refine (rsort_any _ _ _ x0 _ X6.out (by omega)).mono ?_
      rintro e w7 ⟨ra2, rm2, rc2, qs2, rfl, hqs, hqn, hb7⟩
      have Q7 := Lib.hid hqs
      have HQN2 := Lib.hid hqn
      have YS7 := Lib.hid (YS6.out.below hb7 (Nat.le_refl _))
      have X7 := Lib.hid (X6.out.below hb7 (Nat.le_refl _))
      have S7 := Lib.hid (S6.out.below hb7 (Nat.le_refl _))
      have T7 := Lib.hid (T6.out.below hb7 (Nat.le_refl _))
      have B7 := B6.trans (hb7.mono B6.size)
      clear hqs hqn hb7
      go_wp2_with fail
      refine (rfind_is _ _ _ _ _ _ qs2 zs k false _ Q7.out S7.out (by rw [HQN2.out]; exact HK.out) (by rw [HQN2.out]; exact HR.out)).mono ?_
      rintro e w8 ⟨rfl, hq8⟩
      have YS8 := Lib.hid (YS7.out.drawn hq8)
      have X8 := Lib.hid (X7.out.drawn hq8)
      have S8 := Lib.hid (S7.out.drawn hq8)
      have T8 := Lib.hid (T7.out.drawn hq8)
      have B8 := below_drawn B7 hq8
      clear hq8
      go_wp2_with fail
      refine (rsort_any _ _ _ x0 _ X8.out (by omega)).mono ?_
      rintro e w9 ⟨ra3, rm3, rc3, qs3, rfl, hqs, hqn, hb9⟩
      have Q9 := Lib.hid hqs
      have HQN3 := Lib.hid hqn
      have YS9 := Lib.hid (YS8.out.below hb9 (Nat.le_refl _))
      have S9 := Lib.hid (S8.out.below hb9 (Nat.le_refl _))
      have T9 := Lib.hid (T8.out.below hb9 (Nat.le_refl _))
      have B9 := B8.trans (hb9.mono B8.size)
      clear hqs hqn hb9
      go_wp2_with fail
      refine (sames_is _ _ _ _ _ _ ys qs3 true _ YS9.out Q9.out (by rw [HNUM.out, HQN3.out]; simp)).mono ?_
      rintro e w10 ⟨rfl, q1, rfl⟩
      go_wp2_with fail
      refine (less_is _ _ _ _ _ _ zs vs true _ (S9.out.drewN _) (T9.out.drewN _) HRL.out).mono ?_
      rintro e w10 ⟨rfl, q2, rfl⟩
      go_wp2_with fail
      refine (rless_is _ _ _ _ _ _ zs vs true _ (S9.out.drewN _) (T9.out.drewN _) HRL.out).mono ?_
      rintro e w10 ⟨rfl, q3, rfl⟩
      go_wp2_with fail
      refine (common_is _ _ _ _ _ _ zs vs c _ (S9.out.drewN _) (T9.out.drewN _) HC.out).mono ?_
      rintro e w10 ⟨rfl, q4, rfl⟩
      go_wp2_with fail
      refine (rcommon_is _ _ _ _ _ _ zs vs c _ (S9.out.drewN _) (T9.out.drewN _) HC.out).mono ?_
      rintro e w10 ⟨rfl, q5, hq5⟩
      have B10 : Below w.heap.size w w10 := by rw [hq5]; exact below_drewN (below_drewN B9 _) _
      clear hq5
      go_wp2
      go_ret
      exact ⟨by first | rfl | simp, B10⟩
  · have HR := Lib.hid hr
    clear hr
    cases hrl : lessL zs vs
    · have HRL := Lib.hid hrl
      clear hrl
      go_wp2_with fail
      refine (sort_any _ _ _ x0 _ X1.out HSH.out (by omega)).mono ?_
      rintro e w4 ⟨sa, sm, sc, ys, rfl, hys, hnum, _, _, hb4⟩
      have YS4 := Lib.hid hys
      have HNUM := Lib.hid hnum
      have X4 := Lib.hid (X1.out.below hb4 (Nat.le_refl _))
      have S4 := Lib.hid (S1.out.below hb4 (Nat.le_refl _))
      have T4 := Lib.hid (T1.out.below hb4 (Nat.le_refl _))
      have B4 := B1.trans (hb4.mono B1.size)
      clear hys hnum hb4
      go_wp2_with fail
      refine (rsort_any _ _ _ x0 _ X4.out (by omega)).mono ?_
      rintro e w5 ⟨ra, rm, rc, qs, rfl, hqs, hqn, hb5⟩
      have Q5 := Lib.hid hqs
      have HQN := Lib.hid hqn
      have YS5 := Lib.hid (YS4.out.below hb5 (Nat.le_refl _))
      have X5 := Lib.hid (X4.out.below hb5 (Nat.le_refl _))
      have S5 := Lib.hid (S4.out.below hb5 (Nat.le_refl _))
      have T5 := Lib.hid (T4.out.below hb5 (Nat.le_refl _))
      have B5 := B4.trans (hb5.mono B4.size)
      have hrm : rm ≤ 300 := by rw [← hqs.1, ← nums_length, hqn]; have := srt_length (nums x0); rw [nums_length, HX.out.1] at this; omega
      clear hqs hqn hb5
      go_wp2_with fail
      refine (find_is _ _ _ _ _ _ qs zs k true _ Q5.out S5.out (by rw [HQN.out]; exact rise_srt _) (by rw [HQN.out]; exact HK.out) (by rw [HQN.out]; exact HR.out) (by omega)).mono ?_
      rintro e w6 ⟨rfl, hb6⟩
      have YS6 := Lib.hid (YS5.out.below hb6 (Nat.le_refl _))
      have X6 := Lib.hid (X5.out.below hb6 (Nat.le_refl _))
      have S6 := Lib.hid (S5.out.below hb6 (Nat.le_refl _))
      have T6 := Lib.hid (T5.out.below hb6 (Nat.le_refl _))
      have B6 := B5.trans (hb6.mono B5.size)
      clear hb6
      go_wp2_with fail
      refine (rsort_any _ _ _ x0 _ X6.out (by omega)).mono ?_
      rintro e w7 ⟨ra2, rm2, rc2, qs2, rfl, hqs, hqn, hb7⟩
      have Q7 := Lib.hid hqs
      have HQN2 := Lib.hid hqn
      have YS7 := Lib.hid (YS6.out.below hb7 (Nat.le_refl _))
      have X7 := Lib.hid (X6.out.below hb7 (Nat.le_refl _))
      have S7 := Lib.hid (S6.out.below hb7 (Nat.le_refl _))
      have T7 := Lib.hid (T6.out.below hb7 (Nat.le_refl _))
      have B7 := B6.trans (hb7.mono B6.size)
      clear hqs hqn hb7
      go_wp2_with fail
      refine (rfind_is _ _ _ _ _ _ qs2 zs k true _ Q7.out S7.out (by rw [HQN2.out]; exact HK.out) (by rw [HQN2.out]; exact HR.out)).mono ?_
      rintro e w8 ⟨rfl, hq8⟩
      have YS8 := Lib.hid (YS7.out.drawn hq8)
      have X8 := Lib.hid (X7.out.drawn hq8)
      have S8 := Lib.hid (S7.out.drawn hq8)
      have T8 := Lib.hid (T7.out.drawn hq8)
      have B8 := below_drawn B7 hq8
      clear hq8
      go_wp2_with fail
      refine (rsort_any _ _ _ x0 _ X8.out (by omega)).mono ?_
      rintro e w9 ⟨ra3, rm3, rc3, qs3, rfl, hqs, hqn, hb9⟩
      have Q9 := Lib.hid hqs
      have HQN3 := Lib.hid hqn
      have YS9 := Lib.hid (YS8.out.below hb9 (Nat.le_refl _))
      have S9 := Lib.hid (S8.out.below hb9 (Nat.le_refl _))
      have T9 := Lib.hid (T8.out.below hb9 (Nat.le_refl _))
      have B9 := B8.trans (hb9.mono B8.size)
      clear hqs hqn hb9
      go_wp2_with fail
      refine (sames_is _ _ _ _ _ _ ys qs3 true _ YS9.out Q9.out (by rw [HNUM.out, HQN3.out]; simp)).mono ?_
      rintro e w10 ⟨rfl, q1, rfl⟩
      go_wp2_with fail
      refine (less_is _ _ _ _ _ _ zs vs false _ (S9.out.drewN _) (T9.out.drewN _) HRL.out).mono ?_
      rintro e w10 ⟨rfl, q2, rfl⟩
      go_wp2_with fail
      refine (rless_is _ _ _ _ _ _ zs vs false _ (S9.out.drewN _) (T9.out.drewN _) HRL.out).mono ?_
      rintro e w10 ⟨rfl, q3, rfl⟩
      go_wp2_with fail
      refine (common_is _ _ _ _ _ _ zs vs c _ (S9.out.drewN _) (T9.out.drewN _) HC.out).mono ?_
      rintro e w10 ⟨rfl, q4, rfl⟩
      go_wp2_with fail
      refine (rcommon_is _ _ _ _ _ _ zs vs c _ (S9.out.drewN _) (T9.out.drewN _) HC.out).mono ?_
      rintro e w10 ⟨rfl, q5, hq5⟩
      have B10 : Below w.heap.size w w10 := by rw [hq5]; exact below_drewN (below_drewN B9 _) _
      clear hq5
      go_wp2
      go_ret
      exact ⟨by first | rfl | simp, B10⟩
    · have HRL := Lib.hid hrl
      clear hrl
      go_wp2_with fail
      refine (sort_any _ _ _ x0 _ X1.out HSH.out (by omega)).mono ?_
      rintro e w4 ⟨sa, sm, sc, ys, rfl, hys, hnum, _, _, hb4⟩
      have YS4 := Lib.hid hys
      have HNUM := Lib.hid hnum
      have X4 := Lib.hid (X1.out.below hb4 (Nat.le_refl _))
      have S4 := Lib.hid (S1.out.below hb4 (Nat.le_refl _))
      have T4 := Lib.hid (T1.out.below hb4 (Nat.le_refl _))
      have B4 := B1.trans (hb4.mono B1.size)
      clear hys hnum hb4
      go_wp2_with fail
      refine (rsort_any _ _ _ x0 _ X4.out (by omega)).mono ?_
      rintro e w5 ⟨ra, rm, rc, qs, rfl, hqs, hqn, hb5⟩
      have Q5 := Lib.hid hqs
      have HQN := Lib.hid hqn
      have YS5 := Lib.hid (YS4.out.below hb5 (Nat.le_refl _))
      have X5 := Lib.hid (X4.out.below hb5 (Nat.le_refl _))
      have S5 := Lib.hid (S4.out.below hb5 (Nat.le_refl _))
      have T5 := Lib.hid (T4.out.below hb5 (Nat.le_refl _))
      have B5 := B4.trans (hb5.mono B4.size)
      have hrm : rm ≤ 300 := by rw [← hqs.1, ← nums_length, hqn]; have := srt_length (nums x0); rw [nums_length, HX.out.1] at this; omega
      clear hqs hqn hb5
      go_wp2_with fail
      refine (find_is _ _ _ _ _ _ qs zs k true _ Q5.out S5.out (by rw [HQN.out]; exact rise_srt _) (by rw [HQN.out]; exact HK.out) (by rw [HQN.out]; exact HR.out) (by omega)).mono ?_
      rintro e w6 ⟨rfl, hb6⟩
      have YS6 := Lib.hid (YS5.out.below hb6 (Nat.le_refl _))
      have X6 := Lib.hid (X5.out.below hb6 (Nat.le_refl _))
      have S6 := Lib.hid (S5.out.below hb6 (Nat.le_refl _))
      have T6 := Lib.hid (T5.out.below hb6 (Nat.le_refl _))
      have B6 := B5.trans (hb6.mono B5.size)
      clear hb6
      go_wp2_with fail
      refine (rsort_any _ _ _ x0 _ X6.out (by omega)).mono ?_
      rintro e w7 ⟨ra2, rm2, rc2, qs2, rfl, hqs, hqn, hb7⟩
      have Q7 := Lib.hid hqs
      have HQN2 := Lib.hid hqn
      have YS7 := Lib.hid (YS6.out.below hb7 (Nat.le_refl _))
      have X7 := Lib.hid (X6.out.below hb7 (Nat.le_refl _))
      have S7 := Lib.hid (S6.out.below hb7 (Nat.le_refl _))
      have T7 := Lib.hid (T6.out.below hb7 (Nat.le_refl _))
      have B7 := B6.trans (hb7.mono B6.size)
      clear hqs hqn hb7
      go_wp2_with fail
      refine (rfind_is _ _ _ _ _ _ qs2 zs k true _ Q7.out S7.out (by rw [HQN2.out]; exact HK.out) (by rw [HQN2.out]; exact HR.out)).mono ?_
      rintro e w8 ⟨rfl, hq8⟩
      have YS8 := Lib.hid (YS7.out.drawn hq8)
      have X8 := Lib.hid (X7.out.drawn hq8)
      have S8 := Lib.hid (S7.out.drawn hq8)
      have T8 := Lib.hid (T7.out.drawn hq8)
      have B8 := below_drawn B7 hq8
      clear hq8
      go_wp2_with fail
      refine (rsort_any _ _ _ x0 _ X8.out (by omega)).mono ?_
      rintro e w9 ⟨ra3, rm3, rc3, qs3, rfl, hqs, hqn, hb9⟩
      have Q9 := Lib.hid hqs
      have HQN3 := Lib.hid hqn
      have YS9 := Lib.hid (YS8.out.below hb9 (Nat.le_refl _))
      have S9 := Lib.hid (S8.out.below hb9 (Nat.le_refl _))
      have T9 := Lib.hid (T8.out.below hb9 (Nat.le_refl _))
      have B9 := B8.trans (hb9.mono B8.size)
      clear hqs hqn hb9
      go_wp2_with fail
      refine (sames_is _ _ _ _ _ _ ys qs3 true _ YS9.out Q9.out (by rw [HNUM.out, HQN3.out]; simp)).mono ?_
      rintro e w10 ⟨rfl, q1, rfl⟩
      go_wp2_with fail
      refine (less_is _ _ _ _ _ _ zs vs true _ (S9.out.drewN _) (T9.out.drewN _) HRL.out).mono ?_
      rintro e w10 ⟨rfl, q2, rfl⟩
      go_wp2_with fail
      refine (rless_is _ _ _ _ _ _ zs vs true _ (S9.out.drewN _) (T9.out.drewN _) HRL.out).mono ?_
      rintro e w10 ⟨rfl, q3, rfl⟩
      go_wp2_with fail
      refine (common_is _ _ _ _ _ _ zs vs c _ (S9.out.drewN _) (T9.out.drewN _) HC.out).mono ?_
      rintro e w10 ⟨rfl, q4, rfl⟩
      go_wp2_with fail
      refine (rcommon_is _ _ _ _ _ _ zs vs c _ (S9.out.drewN _) (T9.out.drewN _) HC.out).mono ?_
      rintro e w10 ⟨rfl, q5, hq5⟩
      have B10 : Below w.heap.size w w10 := by rw [hq5]; exact below_drewN (below_drewN B9 _) _
      clear hq5
      go_wp2
      go_ret
      exact ⟨by first | rfl | simp, B10⟩

set_option maxRecDepth 100000 in
theorem lifted (os : Os) (started : os.Started) (H : Type) (enc : TypeId × Value → H) :
    ReturnsInHanded {} Try.checked os 3 .any (Rows.orderTellsSpec.pre6 enc Try.prog Try.f3 Rows.orderTellsRow.domain false) (Rows.orderTellsSpec.post enc Try.prog Try.f3 false true false false) := by
  refine returnsInHanded_of_change (C := Try.checked) own started (by kernel_rfl) Try.func3
    (ChangeSpec.witness6 (enc := enc) (C := Try.checked) false ⟨#[], #[.slice none 0 0, .slice none 0 0, .slice none 0 0], []⟩ 8 (by kernel_rfl) (by kernel_rfl) (by kernel_rfl) (by kernel_rfl)) ?_
  intro W base args ds gs before hval0 hW hcnd _
  have hval : ∀ (j : Nat) t v, Try.f3.params[j]? = some t → args[j]? = some v → Value.okWide Try.prog W .any base t v := hval0
  have hW' := hW
  obtain ⟨p, q, hA0, hV, rfl, hfz, hnd⟩ := hW
  have hA : DataW.TrodAll enc Try.prog W 0 (fun _ => true) true Try.f3.params.toList args.toList ds p := hA0
  rw [Try.params3] at hA hval
  obtain ⟨v0, vs0, d0, ds0, p0, q0, hargs, rfl, rfl, h0, r0⟩ := trodAll_cons hA
  obtain ⟨v1, vs1, d1, ds1, p1, q1, rfl, rfl, rfl, h1, r1⟩ := trodAll_cons r0
  obtain ⟨v2, vs2, d2, ds2, p2, q2, rfl, rfl, rfl, h2, r2⟩ := trodAll_cons r1
  obtain ⟨rfl, rfl, rfl⟩ := trodAll_nil r2
  obtain rfl : args = #[v0, v1, v2] := by cases args; simp_all
  obtain ⟨rfl, rfl⟩ := trodVars_none hV
  obtain ⟨a0, len0, cap0, rfl⟩ := okWide_slice Try.underlying22 (hval 0 22 v0 rfl rfl)
  have k0 := h0
  have lt0 : ∀ x ∈ p0, x.block < W.heap.size := by obtain ⟨m, hm⟩ := k0; exact DataW.trod_lt m _ _ _ hm
  obtain ⟨x0, w0, n0⟩ : ∃ xs, Ws W a0 len0 cap0 xs ∧ (a0 = none → cap0 = 0) := by
    obtain ⟨fuel, hf⟩ := h0
    rcases Go.Deep.open_int_rows Try.underlying22 Try.underlying23 Try.underlying3 (by kernel_rfl) (by kernel_rfl) hf with ⟨hcs, _⟩ | ⟨x, l, c, A, L, C, Z, hcs, _, hl, hm, _, hr⟩
    · simp [Value.cells] at hcs
      obtain ⟨rfl, rfl, rfl⟩ := hcs
      exact ⟨[], Ws.nil, fun _ => rfl⟩
    · simp [Value.cells] at hcs
      obtain ⟨rfl, rfl, rfl⟩ := hcs
      exact ⟨_, Ws.of_rows hl hm hr, fun h => by cases h⟩
  obtain ⟨a1, len1, cap1, rfl⟩ := okWide_slice Try.underlying23 (hval 1 23 v1 rfl rfl)
  have k1 := h1
  have lt1 : ∀ x ∈ p1, x.block < W.heap.size := by obtain ⟨m, hm⟩ := k1; exact DataW.trod_lt m _ _ _ hm
  obtain ⟨z1, w1⟩ : ∃ zs, IsRow .i64 W a1 len1 cap1 zs := by
    obtain ⟨fuel, hf⟩ := h1
    rcases open_ints Try.underlying23 Try.underlying3 (by kernel_rfl) hf with ⟨hcs, _⟩ | ⟨x, l, c, zs, hcs, _, hl, hm, hz, _, hcell, hwz⟩
    · simp [Value.cells] at hcs
      obtain ⟨rfl, rfl, rfl⟩ := hcs
      exact ⟨[], .inl ⟨rfl, rfl, rfl, rfl⟩⟩
    · simp [Value.cells] at hcs
      obtain ⟨rfl, rfl, rfl⟩ := hcs
      exact ⟨zs, .inr ⟨_, rfl, hl, hm, by simpa using hz, hcell, hwz⟩⟩
  obtain ⟨a2, len2, cap2, rfl⟩ := okWide_slice Try.underlying23 (hval 2 23 v2 rfl rfl)
  have k2 := h2
  have lt2 : ∀ x ∈ p2, x.block < W.heap.size := by obtain ⟨m, hm⟩ := k2; exact DataW.trod_lt m _ _ _ hm
  obtain ⟨z2, w2⟩ : ∃ zs, IsRow .i64 W a2 len2 cap2 zs := by
    obtain ⟨fuel, hf⟩ := h2
    rcases open_ints Try.underlying23 Try.underlying3 (by kernel_rfl) hf with ⟨hcs, _⟩ | ⟨x, l, c, zs, hcs, _, hl, hm, hz, _, hcell, hwz⟩
    · simp [Value.cells] at hcs
      obtain ⟨rfl, rfl, rfl⟩ := hcs
      exact ⟨[], .inl ⟨rfl, rfl, rfl, rfl⟩⟩
    · simp [Value.cells] at hcs
      obtain ⟨rfl, rfl, rfl⟩ := hcs
      exact ⟨zs, .inr ⟨_, rfl, hl, hm, by simpa using hz, hcell, hwz⟩⟩
  clear hA0 hval0
  refine (walk a0 len0 cap0 x0 a1 len1 cap1 z1 a2 len2 cap2 z2 W w0 n0 w1 w2).mono fun e W' ⟨he, bel⟩ => ?_
  subst he
  exact ⟨_, rfl, _, _, _, [], _, [], hW', trodAll_mk1 (shut_bool Try.underlying4 _), (trodAll_cons_mk (Below.trod laidOut (by kernel_rfl) (of_decide_eq_true (by kernel_rfl)) k0 bel lt0) (trodAll_cons_mk (Below.trod laidOut (by kernel_rfl) (of_decide_eq_true (by kernel_rfl)) k1 bel lt1) (trodAll_cons_mk (Below.trod laidOut (by kernel_rfl) (of_decide_eq_true (by kernel_rfl)) k2 bel lt2) trodAll_mk0))), rfl, bel.frame _, fun h => by cases h⟩

theorem over : Rows.orderTellsRow.holds Try.pinned (OpenSpec.ofChange Rows.orderTellsSpec) :=
  OpenClaim.holds_of_wide 3 Try.f3 rfl rfl rfl rfl rfl rfl rfl ⟨rfl, rfl, rfl, rfl, rfl⟩ rfl rfl rfl rfl rfl (by kernel_rfl) Try.func3 (by kernel_rfl)
    (of_decide_eq_true (by kernel_rfl)) (by unfold Func.isWrapper; first | (rw [if_pos (by decide +kernel)]; kernel_rfl) | (rw [if_neg (by decide +kernel)]; exact ⟨rfl, rfl⟩))
    (fun os started H enc _ => lifted os started H enc)

/-- the statement -/
theorem proved : Rows.OrderTellsSaid := over
#print axioms proved
end Go.Proofs.Ytooefnihmckinaa.orderTells
