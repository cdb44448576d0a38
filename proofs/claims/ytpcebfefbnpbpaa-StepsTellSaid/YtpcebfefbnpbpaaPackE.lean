import Derived.Test.YtpcebfefbnpbpaaChecked
import Derived.Test.YtpcebfefbnpbpaaPackB
import Derived.WalkKit
import Derived.WalkLawsBesides
import Derived.Below
import Derived.ProofKit
import Derived.Outline
import Derived.BigGuardPart
import Derived.Deep.QuietTactic
import Derived.LoopN
import Derived.WalkMore
import Derived.OpenShut
import Derived.Laws.Small
import Derived.Lib.Hide
import Derived.BigQuiet
import Derived.Test.YtpcebfefbnpbpaaPackA
set_option linter.all false
set_option maxRecDepth 100000
set_option maxHeartbeats 12800000
namespace Go.Proofs.Ytpcebfefbnpbpaa
section
open Go.RowKit

theorem same_any (a b : Option Addr) (n m cap cap2 : Nat) (xs ys : List Int) (w : World) (ha : Sl .i64 w a n cap xs) (hb : Sl .i64 w b m cap2 ys) :
    Calls Try.prog 16 #[.slice a n cap, .slice b m cap2] w fun e w' => e = .returned (.bool (decide (xs = ys))) ∧ ∃ q, w' = w.drewN q := by
  have hnc := ha.2.1
  have hcm := ha.2.2.1
  unfold maxLen at hcm
  have hmc := hb.2.1
  have hcm2 := hb.2.2.1
  unfold maxLen at hcm2
  have HA := Lib.hid ha
  have HB := Lib.hid hb
  clear ha hb
  by_cases hnm : n = m
  · subst hnm
    go_enter Try.func16, Try.ntmps16
    go_wp2
    go_loopw [5] (fun ix wr => ∃ j q : Nat, j ≤ n ∧ ix = .int .i64 (j : Int) ∧ Hid (xs.take j = ys.take j) ∧ wr = w.drewN q) (fun ix _ => n - (intOf ix).toNat)
    case atStart => exact ⟨0, 0, Nat.zero_le _, rfl, rfl, rfl⟩
    case round =>
      obtain ⟨j, q, hj, rfl, HT, rfl⟩ := hrel
      by_cases hlt : j < n
      · obtain ⟨b1, o1, rfl, _, hc1⟩ := HA.out.at (by omega)
        obtain ⟨b2, o2, rfl, _, hc2⟩ := HB.out.at (by omega)
        obtain ⟨x, hx⟩ : ∃ x, x = xs.getD j 0 := ⟨_, rfl⟩
        obtain ⟨y, hy⟩ : ∃ y, y = ys.getD j 0 := ⟨_, rfl⟩
        have hx1 := hc1 j hlt
        have hy1 := hc2 j hlt
        rw [← hx] at hx1
        rw [← hy] at hy1
        have HX := Lib.hid hx
        have HY := Lib.hid hy
        have hlti : (j : Int) < (n : Int) := by omega
        clear hc1 hc2 hx hy
        by_cases he : x = y
        · subst he
          go_wp2
          go_quiet (fail)
          go_wp2
          go_roundw
          case rel => exact ⟨j + 1, _, by omega, by go_num, take_same HT.out (by rw [HA.out.1]; exact hlt) (by rw [HB.out.1]; exact hlt) (by rw [← HX.out, ← HY.out]), rfl⟩
          case measure => simp [intOf]; omega
        · have he1 : (x == y) = false := by simpa using he
          have he2 : (x != y) = true := by simpa using he
          have hfin : decide (xs = ys) = false := by
            rw [decide_eq_false_iff_not]; intro h; apply he; rw [HX.out, HY.out, h]
          have HF := Lib.hid hfin
          clear he hfin
          go_wp2
          go_quiet (fail)
          go_wp2
          go_ret
          exact ⟨by rw [HF.out]; rfl, _, World.drewN_drewN _ _ _⟩
      · have hfin : decide (xs = ys) = true := by
          rw [decide_eq_true_iff]
          have h := HT.out
          rwa [List.take_of_length_le (by rw [HA.out.1]; omega), List.take_of_length_le (by rw [HB.out.1]; omega)] at h
        have HF := Lib.hid hfin
        clear hfin
        go_wp2
        go_ret
        exact ⟨by rw [HF.out]; rfl, q, rfl⟩
  · have h1 : ((n : Int) == (m : Int)) = false := by simp; omega
    have h2 : ((n : Int) != (m : Int)) = true := by simp; omega
    have hfin : decide (xs = ys) = false := by
      rw [decide_eq_false_iff_not]; intro h; apply hnm; rw [← HA.out.1, ← HB.out.1, h]
    have HF := Lib.hid hfin
    clear hnm hfin
    go_enter Try.func16, Try.ntmps16
    go_wp2
    go_ret
    exact ⟨by rw [HF.out]; rfl, 0, rfl⟩

theorem same_is (a b : Option Addr) (n m cap cap2 : Nat) (xs ys : List Int) (r : Bool) (w : World) (ha : Sl .i64 w a n cap xs) (hb : Sl .i64 w b m cap2 ys) (h : decide (xs = ys) = r) :
    Calls Try.prog 16 #[.slice a n cap, .slice b m cap2] w fun e w' => e = .returned (.bool r) ∧ ∃ q, w' = w.drewN q := by
  subst h
  exact same_any a b n m cap cap2 xs ys w ha hb

end
section
open Go.RowKit

theorem ret_bool {a b : Bool} (h : a = b) : Ending.returned (.bool a) = .returned (.bool b) := by rw [h]
theorem ret_i64 {a b : Int} (h : a = b) : Ending.returned (.int .i64 a) = .returned (.int .i64 b) := by rw [h]

theorem rgood_any (n : Int) (w : World) (h0 : -9223372036854775808 ≤ n) (h1 : n ≤ 9223372036854775807) :
    Calls Try.prog 63 #[.int .i64 n] w fun e w' => e = .returned (.bool (Utf.good n)) ∧ w = w' := by
  go_enter Try.func63, Try.ntmps63
  go_wp2
  all_goals (go_ret; refine ⟨ret_bool ?_, rfl⟩)
  all_goals (rw [Bool.eq_iff_iff, Utf.good_iff]; simp only [decide_eq_true_eq, Bool.false_eq_true, true_iff, false_iff]; omega)

end
section
open Go.RowKit

theorem rcommon_is (a b : Option Addr) (n m cap cap2 : Nat) (xs ys : List Int) (k : Nat) (w : World) (ha : Sl .i64 w a n cap xs) (hb : Sl .i64 w b m cap2 ys) (hk : common xs ys = k) :
    Calls Try.prog 64 #[.slice a n cap, .slice b m cap2] w fun e w' => e = .returned (.int .i64 (k : Nat)) ∧ ∃ q, w' = w.drewN q := by
  subst hk
  have hnc := ha.2.1
  have hcm := ha.2.2.1
  unfold maxLen at hcm
  have hmc := hb.2.1
  have hcm2 := hb.2.2.1
  unfold maxLen at hcm2
  have HA := Lib.hid ha
  have HB := Lib.hid hb
  clear ha hb
  go_enter Try.func64, Try.ntmps64
  go_wp2
  go_loopw [5] (fun ix wr => ∃ j q : Nat, j ≤ n ∧ j ≤ m ∧ ix = .int .i64 (j : Int) ∧ Hid (xs.take j = ys.take j) ∧ wr = w.drewN q) (fun ix _ => n - (intOf ix).toNat)
  case atStart => exact ⟨0, 0, Nat.zero_le _, Nat.zero_le _, rfl, rfl, rfl⟩
  case round =>
    obtain ⟨j, q, hjn, hjm, rfl, HT, rfl⟩ := hrel
    by_cases hlt : j < n
    · have hd1 : decide ((j : Int) < (n : Int)) = true := by simp; omega
      have hi1 : (j : Int) < (n : Int) := by omega
      by_cases hlt2 : j < m
      · have hd2 : decide ((j : Int) < (m : Int)) = true := by simp; omega
        have hi2 : (j : Int) < (m : Int) := by omega
        obtain ⟨b1, o1, rfl, _, hc1⟩ := HA.out.at (by omega)
        obtain ⟨b2, o2, rfl, _, hc2⟩ := HB.out.at (by omega)
        obtain ⟨x, hx⟩ : ∃ x, x = xs.getD j 0 := ⟨_, rfl⟩
        obtain ⟨y, hy⟩ : ∃ y, y = ys.getD j 0 := ⟨_, rfl⟩
        have hx1 := hc1 j hlt
        have hy1 := hc2 j hlt2
        rw [← hx] at hx1
        rw [← hy] at hy1
        have HX := Lib.hid hx
        have HY := Lib.hid hy
        clear hc1 hc2 hx hy
        by_cases he : x = y
        · subst he
          go_wp2
          go_quiet (fail)
          go_wp2
          go_roundw
          case rel => exact ⟨j + 1, _, by omega, by omega, by go_num, take_same HT.out (by rw [HA.out.1]; exact hlt) (by rw [HB.out.1]; exact hlt2) (by rw [← HX.out, ← HY.out]), rfl⟩
          case measure => simp [intOf]; omega
        · have he1 : (x == y) = false := by simpa using he
          have hfin : common xs ys = j := common_at HT.out (by rw [HA.out.1]; omega) (by rw [HB.out.1]; omega) (.inr (.inr (by rw [← HX.out, ← HY.out]; exact he)))
          have HF := Lib.hid hfin
          clear he hfin
          go_wp2
          go_quiet (fail)
          go_wp2
          go_ret
          exact ⟨by rw [HF.out]; rfl, _, World.drewN_drewN _ _ _⟩
      · have hd2 : decide ((j : Int) < (m : Int)) = false := by simp; omega
        have hfin : common xs ys = j := common_at HT.out (by rw [HA.out.1]; omega) (by rw [HB.out.1]; omega) (.inr (.inl (by rw [HB.out.1]; omega)))
        have HF := Lib.hid hfin
        clear hfin
        go_wp2
        go_quiet (fail)
        go_wp2
        go_ret
        exact ⟨by rw [HF.out]; rfl, _, World.drewN_drewN _ _ _⟩
    · have hd1 : decide ((j : Int) < (n : Int)) = false := by simp; omega
      have hfin : common xs ys = j := common_at HT.out (by rw [HA.out.1]; omega) (by rw [HB.out.1]; omega) (.inl (by rw [HA.out.1]; omega))
      have HF := Lib.hid hfin
      clear hfin
      go_wp2
      go_quiet (fail)
      go_wp2
      go_ret
      exact ⟨by rw [HF.out]; rfl, _, World.drewN_drewN _ _ _⟩

theorem rless_is (a b : Option Addr) (n m cap cap2 : Nat) (xs ys : List Int) (r : Bool) (w : World) (ha : Sl .i64 w a n cap xs) (hb : Sl .i64 w b m cap2 ys) (h : lessL xs ys = r) :
    Calls Try.prog 57 #[.slice a n cap, .slice b m cap2] w fun e w' => e = .returned (.bool r) ∧ ∃ q, w' = w.drewN q := by
  have hnc := ha.2.1
  have hcm := ha.2.2.1
  unfold maxLen at hcm
  have hmc := hb.2.1
  have hcm2 := hb.2.2.1
  unfold maxLen at hcm2
  have hl := less_common xs ys
  have hle := common_le xs ys
  obtain ⟨k, hk⟩ : ∃ k, common xs ys = k := ⟨_, rfl⟩
  rw [hk, h] at hl
  rw [hk] at hle
  rw [ha.1, hb.1] at hl hle
  have HA := Lib.hid ha
  have HB := Lib.hid hb
  have HK := Lib.hid hk
  obtain ⟨hle1, hle2⟩ := hle
  by_cases hkm : k = m
  · rw [if_neg (by omega), decide_eq_false (by omega)] at hl
    subst hl
    subst hkm
    clear ha hb hk h
    go_enter Try.func57, Try.ntmps57
    go_wp2_with (go_at_call 64; refine (rcommon_is _ _ _ _ _ _ _ _ _ _ HA.out HB.out HK.out).mono ?_; rintro e w1 ⟨rfl, q, rfl⟩)
    go_ret
    exact ⟨rfl, q, rfl⟩
  · have hkm1 : ((k : Int) == (m : Int)) = false := by simp; omega
    have hkm2 : ¬ (k : Int) = (m : Int) := by omega
    by_cases hkn : k = n
    · rw [if_neg (by omega), decide_eq_true (by omega)] at hl
      subst hl
      subst hkn
      have hkk : ((k : Int) == (k : Int)) = true := by simp
      clear ha hb hk h
      go_enter Try.func57, Try.ntmps57
      go_wp2_with (go_at_call 64; refine (rcommon_is _ _ _ _ _ _ _ _ _ _ HA.out HB.out HK.out).mono ?_; rintro e w1 ⟨rfl, hq⟩)
      go_quiet (fail)
      go_wp2
      go_ret
      exact ⟨rfl, by obtain ⟨q, rfl⟩ := hq; exact ⟨_, World.drewN_drewN _ _ _⟩⟩
    · have hkn1 : ((k : Int) == (n : Int)) = false := by simp; omega
      have hkn2 : ¬ (k : Int) = (n : Int) := by omega
      rw [if_pos (by omega)] at hl
      have hi1 : (k : Int) < (n : Int) := by omega
      have hi2 : (k : Int) < (m : Int) := by omega
      obtain ⟨b1, o1, rfl, _, hc1⟩ := ha.at (by omega)
      obtain ⟨b2, o2, rfl, _, hc2⟩ := hb.at (by omega)
      obtain ⟨x, hx⟩ : ∃ x, xs.getD k 0 = x := ⟨_, rfl⟩
      obtain ⟨y, hy⟩ : ∃ y, ys.getD k 0 = y := ⟨_, rfl⟩
      have hx1 := hc1 k (by omega)
      have hy1 := hc2 k (by omega)
      rw [hx] at hx1 hl
      rw [hy] at hy1 hl
      have HL := Lib.hid hl
      clear ha hb hk h hc1 hc2 hx hy hl
      go_enter Try.func57, Try.ntmps57
      go_wp2_with (go_at_call 64; refine (rcommon_is _ _ _ _ _ _ _ _ _ _ HA.out HB.out HK.out).mono ?_; rintro e w1 ⟨rfl, q, hq⟩; have hx2 : w1.cell? ⟨b1, o1 + k, none⟩ = some (.int .i64 x) := (by rw [hq]; exact hx1); have hy2 : w1.cell? ⟨b2, o2 + k, none⟩ = some (.int .i64 y) := (by rw [hq]; exact hy1); have HQ := Lib.hid hq; clear hq)
      go_quiet (fail)
      go_wp2
      go_ret
      exact ⟨by rw [HL.out]; rfl, q + nq, by rw [HQ.out, World.drewN_drewN]⟩

end
end Go.Proofs.Ytpcebfefbnpbpaa
