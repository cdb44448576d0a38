import Derived.Test.YtimjdlbhbiklgaaChecked
import Derived.Test.YtimjdlbhbiklgaaPackB
import Derived.WalkKit
import Derived.WalkLawsBesides
import Derived.Below
import Derived.ProofKit
import Derived.Outline
import Derived.BigGuardPart
import Derived.Deep.QuietTactic
import Derived.LoopN
import Derived.WalkMore
import Derived.OpenShut
import Derived.Laws.Small
import Derived.Lib.Hide
import Derived.BigQuiet
import Derived.Test.YtimjdlbhbiklgaaPackA
/- Used by the law. -/
namespace Go.Proofs.Ytimjdlbhbiklgaa
open Go.RowKit

set_option maxRecDepth 100000 in
set_option maxHeartbeats 800000 in
theorem same_any (a b : Option Addr) (n m cap cap2 : Nat) (xs ys : List Int) (w : World) (ha : Sl .i64 w a n cap xs) (hb : Sl .i64 w b m cap2 ys) :
    Calls Try.prog 34 #[.slice a n cap, .slice b m cap2] w fun e w' => e = .returned (.bool (decide (xs = ys))) ∧ ∃ q, w' = w.drewN q := by
  have hnc := ha.2.1
  have hcm := ha.2.2.1
  unfold maxLen at hcm
  have hmc := hb.2.1
  have hcm2 := hb.2.2.1
  unfold maxLen at hcm2
  have HA := Lib.hid ha
  have HB := Lib.hid hb
  clear ha hb
  by_cases hnm : n = m
  · subst hnm
    go_enter Try.func34, Try.ntmps34
    go_wp2
    go_loopw [5] (fun ix wr => ∃ j q : Nat, j ≤ n ∧ ix = .int .i64 (j : Int) ∧ Hid (xs.take j = ys.take j) ∧ wr = w.drewN q) (fun ix _ => n - (intOf ix).toNat)
    case atStart => exact ⟨0, 0, Nat.zero_le _, rfl, rfl, rfl⟩
    case round =>
      obtain ⟨j, q, hj, rfl, HT, rfl⟩ := hrel
      by_cases hlt : j < n
      · obtain ⟨b1, o1, rfl, _, hc1⟩ := HA.out.at (by omega)
        obtain ⟨b2, o2, rfl, _, hc2⟩ := HB.out.at (by omega)
        obtain ⟨x, hx⟩ : ∃ x, x = xs.getD j 0 := ⟨_, rfl⟩
        obtain ⟨y, hy⟩ : ∃ y, y = ys.getD j 0 := ⟨_, rfl⟩
        have hx1 := hc1 j hlt
        have hy1 := hc2 j hlt
        rw [← hx] at hx1
        rw [← hy] at hy1
        have HX := Lib.hid hx
        have HY := Lib.hid hy
        have hlti : (j : Int) < (n : Int) := by omega
        clear hc1 hc2 hx hy
        by_cases he : x = y
        · subst he
          go_wp2
          go_quiet (fail)
          go_wp2
          go_roundw
          case rel => exact ⟨j + 1, _, by omega, by go_num, take_same HT.out (by rw [HA.out.1]; exact hlt) (by rw [HB.out.1]; exact hlt) (by rw [← HX.out, ← HY.out]), rfl⟩
          case measure => simp [intOf]; omega
        · have he1 : (x == y) = false := by simpa using he
          have he2 : (x != y) = true := by simpa using he
          have hfin : decide (xs = ys) = false := by
            rw [decide_eq_false_iff_not]; intro h; apply he; rw [HX.out, HY.out, h]
          have HF := Lib.hid hfin
          clear he hfin
          go_wp2
          go_quiet (fail)
          go_wp2
          go_ret
          exact ⟨by rw [HF.out]; rfl, _, World.drewN_drewN _ _ _⟩
      · have hfin : decide (xs = ys) = true := by
          rw [decide_eq_true_iff]
          have h := HT.out
          rwa [List.take_of_length_le (by rw [HA.out.1]; omega), List.take_of_length_le (by rw [HB.out.1]; omega)] at h
        have HF := Lib.hid hfin
        clear hfin
        go_wp2
        go_ret
        exact ⟨by rw [HF.out]; rfl, q, rfl⟩
  · have h1 : ((n : Int) == (m : Int)) = false := by simp; omega
    have h2 : ((n : Int) != (m : Int)) = true := by simp; omega
    have hfin : decide (xs = ys) = false := by
      rw [decide_eq_false_iff_not]; intro h; apply hnm; rw [← HA.out.1, ← HB.out.1, h]
    have HF := Lib.hid hfin
    clear hnm hfin
    go_enter Try.func34, Try.ntmps34
    go_wp2
    go_ret
    exact ⟨by rw [HF.out]; rfl, 0, rfl⟩

set_option maxRecDepth 100000 in
theorem same_is (a b : Option Addr) (n m cap cap2 : Nat) (xs ys : List Int) (r : Bool) (w : World) (ha : Sl .i64 w a n cap xs) (hb : Sl .i64 w b m cap2 ys) (h : decide (xs = ys) = r) :
    Calls Try.prog 34 #[.slice a n cap, .slice b m cap2] w fun e w' => e = .returned (.bool r) ∧ ∃ q, w' = w.drewN q := by
  subst h
  exact same_any a b n m cap cap2 xs ys w ha hb

end Go.Proofs.Ytimjdlbhbiklgaa

/- Used by the law. -/
namespace Go.Proofs.Ytimjdlbhbiklgaa
open Go.RowKit

set_option maxRecDepth 100000 in
set_option maxHeartbeats 800000 in
theorem first_any (a b : Option Addr) (n m cap cap2 : Nat) (xs ys : List Int) (w : World) (ha : Sl .i64 w a n cap xs) (hb : Sl .i64 w b m cap2 ys) :
    Calls Try.prog 71 #[.slice a n cap, .slice b m cap2] w fun e w' => e = .returned (.int .i64 (common xs ys : Nat)) ∧ ∃ q, w' = w.drewN q := by
  have hnc := ha.2.1
  have hcm := ha.2.2.1
  unfold maxLen at hcm
  have hmc := hb.2.1
  have hcm2 := hb.2.2.1
  unfold maxLen at hcm2
  have HA := Lib.hid ha
  have HB := Lib.hid hb
  clear ha hb
  by_cases hmn : m < n
  · have HE : Hid (m = xs.length ∨ m = ys.length) := .inr HB.out.1.symm
    have HXL : Hid (m ≤ xs.length) := by show _ ≤ _; rw [HA.out.1]; omega
    have HYL : Hid (m ≤ ys.length) := by show _ ≤ _; rw [HB.out.1]; omega
    go_enter Try.func71, Try.ntmps71
    go_wp2
    go_loopw [13] (fun ix wr => ∃ j q : Nat, j ≤ m ∧ ix = .int .i64 (j : Int) ∧ Hid (xs.take j = ys.take j) ∧ wr = w.drewN q) (fun ix _ => m - (intOf ix).toNat)
    case atStart => exact ⟨0, 0, Nat.zero_le _, rfl, rfl, rfl⟩
    case round =>
      obtain ⟨j, q, hj, rfl, HT, rfl⟩ := hrel
      by_cases hlt : j < m
      · obtain ⟨b1, o1, rfl, _, hc1⟩ := HA.out.at (by omega)
        obtain ⟨b2, o2, rfl, _, hc2⟩ := HB.out.at (by omega)
        obtain ⟨x, hx⟩ : ∃ x, x = xs.getD j 0 := ⟨_, rfl⟩
        obtain ⟨y, hy⟩ : ∃ y, y = ys.getD j 0 := ⟨_, rfl⟩
        have hx1 := hc1 j (by omega)
        have hy1 := hc2 j (by omega)
        rw [← hx] at hx1
        rw [← hy] at hy1
        have HX := Lib.hid hx
        have HY := Lib.hid hy
        have hlti : (j : Int) < (m : Int) := by omega
        have hltO : (j : Int) < (n : Int) := by omega
        clear hc1 hc2 hx hy
        by_cases he : x = y
        · subst he
          go_wp2
          go_quiet (fail)
          go_wp2
          go_roundw
          case rel => exact ⟨j + 1, _, by omega, by go_num, take_same HT.out (by have := HXL.out; omega) (by have := HYL.out; omega) (by rw [← HX.out, ← HY.out]), rfl⟩
          case measure => simp [intOf]; omega
        · have he1 : (x == y) = false := by simpa using he
          have he2 : (x != y) = true := by simpa using he
          have hfin : common xs ys = j := common_at HT.out (by have := HXL.out; omega) (by have := HYL.out; omega) (.inr (.inr (by rw [← HX.out, ← HY.out]; exact he)))
          have HF := Lib.hid hfin
          clear he hfin
          go_wp2
          go_quiet (fail)
          go_wp2
          go_ret
          exact ⟨by rw [HF.out]; rfl, _, World.drewN_drewN _ _ _⟩
      · obtain rfl : j = m := by omega
        have hfin : common xs ys = j := common_at HT.out HXL.out HYL.out (by rcases HE.out with h | h <;> omega)
        have HF := Lib.hid hfin
        clear hfin
        go_wp2
        go_ret
        exact ⟨by rw [HF.out]; rfl, q, rfl⟩
  · have HE : Hid (n = xs.length ∨ n = ys.length) := .inl HA.out.1.symm
    have HXL : Hid (n ≤ xs.length) := by show _ ≤ _; rw [HA.out.1]; omega
    have HYL : Hid (n ≤ ys.length) := by show _ ≤ _; rw [HB.out.1]; omega
    have hnm : n ≤ m := by omega
    go_enter Try.func71, Try.ntmps71
    go_wp2
    go_loopw [13] (fun ix wr => ∃ j q : Nat, j ≤ n ∧ ix = .int .i64 (j : Int) ∧ Hid (xs.take j = ys.take j) ∧ wr = w.drewN q) (fun ix _ => n - (intOf ix).toNat)
    case atStart => exact ⟨0, 0, Nat.zero_le _, rfl, rfl, rfl⟩
    case round =>
      obtain ⟨j, q, hj, rfl, HT, rfl⟩ := hrel
      by_cases hlt : j < n
      · obtain ⟨b1, o1, rfl, _, hc1⟩ := HA.out.at (by omega)
        obtain ⟨b2, o2, rfl, _, hc2⟩ := HB.out.at (by omega)
        obtain ⟨x, hx⟩ : ∃ x, x = xs.getD j 0 := ⟨_, rfl⟩
        obtain ⟨y, hy⟩ : ∃ y, y = ys.getD j 0 := ⟨_, rfl⟩
        have hx1 := hc1 j (by omega)
        have hy1 := hc2 j (by omega)
        rw [← hx] at hx1
        rw [← hy] at hy1
        have HX := Lib.hid hx
        have HY := Lib.hid hy
        have hlti : (j : Int) < (n : Int) := by omega
        have hltO : (j : Int) < (m : Int) := by omega
        clear hc1 hc2 hx hy
        by_cases he : x = y
        · subst he
          go_wp2
          go_quiet (fail)
          go_wp2
          go_roundw
          case rel => exact ⟨j + 1, _, by omega, by go_num, take_same HT.out (by have := HXL.out; omega) (by have := HYL.out; omega) (by rw [← HX.out, ← HY.out]), rfl⟩
          case measure => simp [intOf]; omega
        · have he1 : (x == y) = false := by simpa using he
          have he2 : (x != y) = true := by simpa using he
          have hfin : common xs ys = j := common_at HT.out (by have := HXL.out; omega) (by have := HYL.out; omega) (.inr (.inr (by rw [← HX.out, ← HY.out]; exact he)))
          have HF := Lib.hid hfin
          clear he hfin
          go_wp2
          go_quiet (fail)
          go_wp2
          go_ret
          exact ⟨by rw [HF.out]; rfl, _, World.drewN_drewN _ _ _⟩
      · obtain rfl : j = n := by omega
        have hfin : common xs ys = j := common_at HT.out HXL.out HYL.out (by rcases HE.out with h | h <;> omega)
        have HF := Lib.hid hfin
        clear hfin
        go_wp2
        go_ret
        exact ⟨by rw [HF.out]; rfl, q, rfl⟩

set_option maxRecDepth 100000 in
theorem first_is (a b : Option Addr) (n m cap cap2 : Nat) (xs ys : List Int) (k : Nat) (w : World) (ha : Sl .i64 w a n cap xs) (hb : Sl .i64 w b m cap2 ys) (h : common xs ys = k) :
    Calls Try.prog 71 #[.slice a n cap, .slice b m cap2] w fun e w' => e = .returned (.int .i64 (k : Nat)) ∧ ∃ q, w' = w.drewN q := by
  subst h; exact first_any a b n m cap cap2 xs ys w ha hb

set_option maxRecDepth 100000 in
set_option maxHeartbeats 400000 in
theorem isNaN_any (x : Int) (w : World) : Calls Try.prog 85 #[.int .i64 x] w fun e w' => e = .returned (.bool false) ∧ w = w' := by
  have h1 : (x != x) = false := by simp
  have h2 : (x == x) = true := by simp
  go_enter Try.func85, Try.ntmps85
  go_wp2
  go_ret
  exact ⟨by first | rfl | simp, rfl⟩

set_option maxRecDepth 100000 in
set_option maxHeartbeats 800000 in
theorem cmpI_any (x y : Int) (w : World) : Calls Try.prog 72 #[.int .i64 x, .int .i64 y] w fun e w' => e = .returned (.int .i64 (cmpI x y)) ∧ w = w' := by
  by_cases h1 : x < y
  · have h : cmpI x y = -1 := by unfold cmpI; rw [if_pos h1]
    have H := Lib.hid h
    clear h
    go_enter Try.func72, Try.ntmps72
    go_wp2_with (go_at_call 85; refine (isNaN_any _ _).mono ?_; rintro e w' ⟨rfl, rfl⟩)
    go_ret
    exact ⟨by rw [H.out]; rfl, rfl⟩
  · by_cases h2 : y < x
    · have h : cmpI x y = 1 := by unfold cmpI; rw [if_neg h1, if_pos h2]
      have H := Lib.hid h
      clear h
      go_enter Try.func72, Try.ntmps72
      go_wp2_with (go_at_call 85; refine (isNaN_any _ _).mono ?_; rintro e w' ⟨rfl, rfl⟩)
      go_ret
      exact ⟨by rw [H.out]; rfl, rfl⟩
    · have h : cmpI x y = 0 := by unfold cmpI; rw [if_neg h1, if_neg h2]
      have H := Lib.hid h
      clear h
      go_enter Try.func72, Try.ntmps72
      go_wp2_with (go_at_call 85; refine (isNaN_any _ _).mono ?_; rintro e w' ⟨rfl, rfl⟩)
      go_ret
      exact ⟨by rw [H.out]; rfl, rfl⟩
set_option maxRecDepth 100000 in
theorem cmpI_is (x y r : Int) (w : World) (h : cmpI x y = r) : Calls Try.prog 72 #[.int .i64 x, .int .i64 y] w fun e w' => e = .returned (.int .i64 r) ∧ w = w' := by
  subst h; exact cmpI_any x y w

set_option maxRecDepth 100000 in
set_option maxHeartbeats 800000 in
theorem compare_any (a b : Option Addr) (n m cap cap2 : Nat) (xs ys : List Int) (w : World) (ha : Sl .i64 w a n cap xs) (hb : Sl .i64 w b m cap2 ys) :
    Calls Try.prog 48 #[.slice a n cap, .slice b m cap2] w fun e w' => e = .returned (.int .i64 (cmpL xs ys)) ∧ ∃ q, w' = w.drewN q := by
  have hnc := ha.2.1
  have hcm := ha.2.2.1
  unfold maxLen at hcm
  have hmc := hb.2.1
  have hcm2 := hb.2.2.1
  unfold maxLen at hcm2
  have hcc := cmp_common xs ys
  obtain ⟨k, hk⟩ : ∃ k, common xs ys = k := ⟨_, rfl⟩
  have hle := common_le xs ys
  obtain ⟨r, hr⟩ : ∃ r, cmpL xs ys = r := ⟨_, rfl⟩
  rw [hk] at hcc hle
  rw [hr] at hcc ⊢
  have HK := Lib.hid hk
  have HA := Lib.hid ha
  have HB := Lib.hid hb
  rw [ha.1, hb.1] at hle
  by_cases hin : k < n ∧ k < m
  · rw [if_pos (by rw [ha.1, hb.1]; exact hin)] at hcc
    obtain ⟨b1, o1, rfl, _, hc1⟩ := ha.at (by omega)
    obtain ⟨b2, o2, rfl, _, hc2⟩ := hb.at (by omega)
    have hx1 := hc1 k hin.1
    have hy1 := hc2 k hin.2
    obtain ⟨x, hx⟩ : ∃ x, xs.getD k 0 = x := ⟨_, rfl⟩
    obtain ⟨y, hy⟩ : ∃ y, ys.getD k 0 = y := ⟨_, rfl⟩
    rw [hx] at hx1 hcc
    rw [hy] at hy1 hcc
    have HC := Lib.hid hcc.symm
    have h1 : (k : Int) < (n : Int) := by omega
    have h2 : (k : Int) < (m : Int) := by omega
    clear ha hb hk hr hcc hle hin hc1 hc2 hx hy
    go_enter Try.func48, Try.ntmps48
    go_wp2_with (go_at_call 71; refine (first_is _ _ _ _ _ _ _ _ _ _ HA.out HB.out HK.out).mono ?_; rintro e w1 ⟨rfl, q, hq⟩; have hx2 : w1.cell? ⟨b1, o1 + k, none⟩ = some (.int .i64 x) := (by rw [hq]; exact hx1); have hy2 : w1.cell? ⟨b2, o2 + k, none⟩ = some (.int .i64 y) := (by rw [hq]; exact hy1); have HQ := Lib.hid hq; clear hq)
    go_quiet ((go_at_call 72; exact Calls.quiet_of_same ((cmpI_is _ _ _ _ HC.out).mono fun _ _ h => ⟨h.1, h.2.symm⟩)))
    go_wp2
    go_ret
    exact ⟨rfl, q + nq, by rw [HQ.out, World.drewN_drewN]⟩
  · rw [if_neg (by rw [ha.1, hb.1]; exact hin), ha.1, hb.1] at hcc
    have HC := Lib.hid hcc.symm
    have hdd : ¬ k < n ∨ k < n ∧ ¬ k < m := by omega
    clear ha hb hk hr hcc hle hin
    rcases hdd with h1 | ⟨h1, h2⟩
    · go_enter Try.func48, Try.ntmps48
      go_wp2_with (first | (go_at_call 71; refine (first_is _ _ _ _ _ _ _ _ _ _ HA.out HB.out HK.out).mono ?_; rintro e w' ⟨rfl, q, rfl⟩) | (go_at_call 72; refine (cmpI_is _ _ _ _ HC.out).mono ?_; rintro e w' ⟨rfl, rfl⟩))
      go_ret
      exact ⟨rfl, q, rfl⟩
    · go_enter Try.func48, Try.ntmps48
      go_wp2_with (first | (go_at_call 71; refine (first_is _ _ _ _ _ _ _ _ _ _ HA.out HB.out HK.out).mono ?_; rintro e w' ⟨rfl, q, rfl⟩) | (go_at_call 72; refine (cmpI_is _ _ _ _ HC.out).mono ?_; rintro e w' ⟨rfl, rfl⟩))
      go_ret
      exact ⟨rfl, q, rfl⟩
set_option maxRecDepth 100000 in
theorem compare_is (a b : Option Addr) (n m cap cap2 : Nat) (xs ys : List Int) (r : Int) (w : World) (ha : Sl .i64 w a n cap xs) (hb : Sl .i64 w b m cap2 ys) (h : cmpL xs ys = r) :
    Calls Try.prog 48 #[.slice a n cap, .slice b m cap2] w fun e w' => e = .returned (.int .i64 r) ∧ ∃ q, w' = w.drewN q := by
  subst h; exact compare_any a b n m cap cap2 xs ys w ha hb

set_option maxRecDepth 100000 in
set_option maxHeartbeats 400000 in
theorem less_is (a b : Option Addr) (n m cap cap2 : Nat) (xs ys : List Int) (r : Bool) (w : World) (ha : Sl .i64 w a n cap xs) (hb : Sl .i64 w b m cap2 ys) (h : lessL xs ys = r) :
    Calls Try.prog 25 #[.slice a n cap, .slice b m cap2] w fun e w' => e = .returned (.bool r) ∧ ∃ q, w' = w.drewN q := by
  have hc := cmp_less xs ys
  obtain ⟨c, hk⟩ : ∃ c, cmpL xs ys = c := ⟨_, rfl⟩
  rw [hk, h] at hc
  have HA := Lib.hid ha
  have HB := Lib.hid hb
  have HK := Lib.hid hk
  clear ha hb hk h
  go_enter Try.func25, Try.ntmps25
  go_wp2_with (go_at_call 48; refine (compare_is _ _ _ _ _ _ _ _ _ _ HA.out HB.out HK.out).mono ?_; rintro e w' ⟨rfl, q, rfl⟩)
  go_ret
  exact ⟨by first | rfl | (rw [← hc]; rfl) | simp [hc], q, rfl⟩

end Go.Proofs.Ytimjdlbhbiklgaa
